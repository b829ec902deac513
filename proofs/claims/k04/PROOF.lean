import PyProof.Rows.All
import Wide.All
import OpenK.AllK
import Wide.FinOn
import PyProof.EqAt
import PyProof.EqKinds
import PyProof.TupleCall
import PySem.Challenge.RW_raisedsums_k04_degrees
set_option Elab.async false
set_option linter.all false
set_option maxRecDepth 100000
namespace PySem.W.Fast
theorem tw5921871002352014001:True:=⟨⟩
theorem tw16334420021021213028:True:=⟨⟩
theorem tw15657617743744387829:True:=⟨⟩
theorem tw7783123590863445505:True:=⟨⟩
theorem tw13486862475000703782:True:=⟨⟩
theorem tw16962631427245142678:True:=⟨⟩
theorem tw8337606357618939734:True:=⟨⟩
theorem tw435400269410281653:True:=⟨⟩
theorem tw5355754079894650256:True:=⟨⟩
theorem tw2454079346546424016:True:=⟨⟩
theorem tw3091701838964022395:True:=⟨⟩
theorem tw5829209152315867253:True:=⟨⟩
theorem tw7996066492470984285:True:=⟨⟩
theorem tw5114508029319295008:True:=⟨⟩
theorem tw1244310238527639855:True:=⟨⟩
theorem tw1460976388078508188:True:=⟨⟩
theorem tw7852276242670869213:True:=⟨⟩
theorem tw15684662791075827716:True:=⟨⟩
theorem tw16695502953190396107:True:=⟨⟩
theorem tw698122606048183121:True:=⟨⟩
theorem tw13844442920064186104:True:=⟨⟩
theorem tw6257990569579630314:True:=⟨⟩
theorem tw2574306181944381190:True:=⟨⟩
end PySem.W.Fast
set_option genSizeOfSpec false
set_option genInjectivity false
abbrev Fg:=PySem.W.Frag
abbrev xba:=@PySem.wpAny_bind
abbrev xbb:=@Nat.le_trans
abbrev xbc:=@PySem.wpAny_pure
abbrev xbd:=@List.length_map
abbrev xbe:=@Nat.le_refl
abbrev xbf:=@Nat.lt_of_lt_of_le
abbrev xbg:=@List.getElem?_eq_getElem
abbrev xbh:=@PySem.Heap.get?_push_of_some
abbrev xbi:=@PyProof.Rows.wpS_bind
abbrev xbj:=@PyProof.Rows.wpS_pure
abbrev xbk:=@List.getD_eq_getElem?_getD
abbrev xbl:=@PySem.Heap.lt_size
abbrev xbm:=@List.size_toArray
abbrev xbn:=@List.getElem?_eq_some_iff
abbrev xbo:=@List.mem_cons
abbrev xbp:=@Nat.le_of_lt
abbrev xbq:=@Array.length_toList
abbrev xbr:=@Nat.le_add_right
abbrev xbs:=@Array.getElem?_toList
abbrev xbt:=@PySem.Heap.get?_push_size
abbrev xbu:=@List.mem_cons_of_mem
abbrev xbv:=@Nat.ne_of_lt
abbrev xbw:=@List.map_cons
abbrev xbx:=@List.getElem?_append_left
abbrev xby:=@Nat.le_of_not_lt
abbrev xbz:=@List.mem_cons_self
abbrev xca:=@List.mem_append
abbrev xcb:=@List.length_cons
abbrev xcc:=@Nat.add_le_add_left
abbrev xcd:=@List.length_append
abbrev xce:=@Nat.add_sub_cancel'
abbrev xcf:=@List.mem_singleton
abbrev xcg:=@Nat.le_of_lt_succ
abbrev xch:=@List.getElem?_append_right
abbrev xci:=@List.mem_append_right
abbrev xcj:=@Array.getD_eq_getD_getElem?
abbrev xck:=@Option.some.inj
abbrev xcl:=@List.getElem?_map
abbrev xcm:=@List.append_assoc
abbrev xcn:=@Array.getElem?_eq_getElem
abbrev xco:=@List.mem_range
abbrev xcp:=@List.mem_map
abbrev xcq:=@Nat.add_sub_cancel_left
abbrev xcr:=@Nat.lt_of_le_of_lt
abbrev xcs:=@Nat.lt_of_le_of_ne
abbrev xct:=@decide_eq_false
abbrev xcu:=@Nat.le_of_eq
abbrev xcv:=@Nat.le_sub_one_of_lt
abbrev xcw:=@Nat.le_of_succ_le
abbrev xcx:=@Nat.le_of_add_left_le
abbrev xcy:=@Array.toList_append
abbrev xcz:=@List.mem_of_getElem?
abbrev xda:=@List.filterMap_cons_some
abbrev xdb:=@decide_eq_true
abbrev xdc:=@List.map_map
abbrev xdd:=@PyProof.Rows.wpS_forRange
abbrev xde:=@Nat.sub_lt_left_of_lt_add
abbrev xdf:=@PySem.wpAny_newObj_type
abbrev xdg:=@Option.map_eq_some_iff
abbrev xdh:=@PySem.W.mg_none_of
abbrev xdi:=@Nat.le_antisymm
abbrev xdj:=@Nat.add_lt_of_lt_sub'
abbrev xdk:=@Bool.false_eq_true
abbrev xdl:=@List.lookup_cons
abbrev xdm:=@List.getElem_mem
abbrev xdn:=@Nat.zero_add
abbrev xdo:=@List.filterMap_cons_none
abbrev xdp:=@Nat.add_lt_add_left
abbrev xdq:=@PySem.wpAny_mono
abbrev xdr:=@List.length_replicate
abbrev xds:=@PySem.wpAny_holding
abbrev xdt:=@List.getElem?_set_ne
abbrev xdu:=@Nat.sub_lt_sub_right
abbrev xdv:=@Nat.not_lt_of_le
abbrev xdw:=@PySem.wpAny_call_entry
abbrev xdx:=@Array.toList_push
abbrev xdy:=@PySem.Heap.get?_update_self
abbrev xdz:=@Nat.le_sub_of_add_le'
abbrev xea:=@List.take_append_drop
abbrev xeb:=@PySem.W.kia_one
abbrev xec:=@Nat.zero_le
abbrev xed:=@Option.bind_eq_some_iff
abbrev xee:=@List.length_take
abbrev xef:=@List.all_eq_true
abbrev xeg:=@Array.perm_iff_toList_perm
abbrev xeh:=@Nat.lt_of_succ_lt
abbrev xei:=@beq_eq_false_iff_ne
abbrev xej:=@List.append_nil
abbrev xek:=@List.pairwise_iff_getElem
abbrev xel:=@Nat.min_eq_left
abbrev xem:=@Nat.succ_le_succ
abbrev xen:=@List.getElem?_drop
abbrev xeo:=@beq_self_eq_true
abbrev xep:=@PyProof.Rows.wpS_mono
abbrev xeq:=@PySem.F.slot_dict_keyiterator_next
abbrev xer:=@Nat.sub_le_sub_right
abbrev xes:=@List.pairwise_append
abbrev xet:=@if_true
abbrev xeu:=@Nat.sub_pos_of_lt
abbrev xev:=@Nat.lt_succ_of_lt
abbrev xew:=@List.mem_filter
abbrev xex:=@List.find?_cons
abbrev xey:=@PySem.Heap.SameBut.update
abbrev xez:=@Nat.lt_irrefl
abbrev xfa:=@Bool.and_eq_true
abbrev xfb:=@Nat.lt_of_not_le
abbrev xfc:=@Ne.symm
abbrev xfd:=@Bool.false_ne_true
abbrev xfe:=@List.Perm.append_left
abbrev xff:=@List.Pairwise.sublist
abbrev xfg:=@Nat.lt_of_lt_of_eq
abbrev xfh:=@List.pairwise_cons
abbrev xfi:=@List.drop_eq_getElem_cons
abbrev xfj:=@List.nodup_cons
abbrev xfk:=@Nat.lt_or_ge
abbrev xfl:=@if_false
abbrev xfm:=@beq_iff_eq
abbrev xfn:=@Nat.le_succ_of_le
abbrev xfo:=@List.length_range
abbrev xfp:=@of_decide_eq_true
abbrev xfq:=@PySem.wpAny_typeNameOfWhole_keyiter
abbrev xfr:=@PySem.mem_of_lookup
abbrev xfs:=@List.getElem_of_mem
abbrev xft:=@List.nodup_nil
abbrev xfu:=@List.getElem?_set_self
abbrev xfv:=@PySem.Heap.get?_update_other
abbrev xfw:=@Nat.sub_le
abbrev xfx:=@PyProof.Rows.wpS_modify
abbrev xfy:=@Nat.sub_add_cancel
abbrev xfz:=@List.length_set
abbrev xga:=@List.perm_append_comm
abbrev xgb:=@List.getElem?_eq_none
abbrev xgc:=@List.map_append
abbrev xgd:=@PySem.PassesOwn.never
abbrev xge:=@PySem.wpAny_passesOwn
abbrev xgf:=@PySem.Around.under_plainId
abbrev xgg:=@PySem.wpAny_rule
abbrev xgh:=@Nat.le_succ
abbrev xgi:=@PySem.sizeLine_eq
abbrev xgj:=@Nat.ne_of_gt
abbrev xgk:=@List.length_drop
abbrev xgl:=@List.take_succ_eq_append_getElem
abbrev xgm:=@PySem.F.plain_max_loop
abbrev xgn:=@PySem.F.called_set
abbrev xgo:=@Nat.sub_le_sub_left
abbrev xgp:=@PyProof.Rows.slot_tuple_getitem
abbrev xgq:=@List.getElem?_replicate
abbrev xgr:=@List.countP_cons_of_pos
abbrev xgs:=@Nat.lt_add_of_pos_right
abbrev xgt:=@PyProof.Rows.wpS_get
abbrev xgu:=@Bool.eq_iff_iff
abbrev xgv:=@PySem.Obj.data_mapFields
abbrev xgw:=@Nat.sub_lt
abbrev xgx:=@Nat.min_le_left
abbrev xgy:=@List.Nodup.length_le_of_subset
abbrev xgz:=@Int.emod_nonneg
abbrev xha:=@List.count_eq_zero
abbrev xhb:=@PySem.codeAny_builtin
abbrev xhc:=@List.take_of_length_le
abbrev xhd:=@List.Perm.append_right
abbrev xhe:=@List.drop_eq_nil_of_le
abbrev xhf:=@decide_true
abbrev xhg:=@Nat.lt_trans
abbrev xhh:=@PySem.Obj.isFreed_of_fields
abbrev xhi:=@Array.extract_eq_empty_of_le
abbrev xhj:=@decide_false
abbrev xhk:=@List.mem_append_left
abbrev xhl:=@List.mem_of_mem_drop
abbrev xhm:=@Array.toList_reverse
abbrev xhn:=@List.reverse_reverse
abbrev xho:=@List.mem_of_mem_take
abbrev xhp:=@Nat.lt_succ_self
abbrev xhq:=@PySem.wpAny_askSetting
abbrev xhr:=@Array.getElem?_setIfInBounds_self_of_lt
abbrev xhs:=@List.perm_ext_iff_of_nodup
abbrev xht:=@PySem.plainId_quiet
abbrev xhu:=@List.map_congr_left
abbrev xhv:=@PySem.wpAny_ite_split
abbrev xhw:=@PySem.F.args_tuple_add_2
abbrev xhx:=@Nat.add_zero
abbrev xhy:=@Nat.eq_zero_or_pos
abbrev xhz:=@List.filter_append
abbrev xia:=@PySem.wpAny_Call_Name_kw
abbrev xib:=@PyProof.Rows.slot_tuple_getitem
abbrev xic:=@PySem.wpAny_comprehension_free
abbrev xid:=@PySem.wpAny_setField
abbrev xie:=@PySem.F.entry_tuple_add
abbrev xif:=@List.countP_cons_of_neg
abbrev xig:=@List.pairwise_singleton
abbrev xih:=@List.reverse_cons
abbrev xii:=@Nat.zero_lt_of_lt
abbrev xij:=@List.ext_getElem?
abbrev xik:=@List.count_append
abbrev xil:=@PySem.wpAny_pyIter_list
abbrev xim:=@PySem.wpAny_truthy_bool
abbrev xin:=@PySem.wpAny_setState_of
abbrev xio:=@PySem.F.slot_tuple_add
abbrev xip:=@PySem.Calls.callWith_builtin
abbrev xiq:=@Array.getElem?_eq_none
abbrev xir:=@PySem.Paired.length
abbrev xis:=@List.any_cons
abbrev xit:=@List.sum_cons
abbrev xiu:=@PySem.wpAny_attempt
abbrev xiv:=@Nat.min_le_right
abbrev xiw:=@List.ext_getElem
abbrev xix:=@List.getElem_map
abbrev xiy:=@List.mem_reverse
abbrev xiz:=@List.take_length
abbrev xja:=@PyProof.Rows.wpS_lift
abbrev xjb:=@PySem.F.slot_tuple_lt
abbrev xjc:=@PySem.F.slot_dict_get
abbrev xjd:=@List.length_filter_le
abbrev xje:=@Array.getElem?_setIfInBounds_ne
abbrev xjf:=@Array.mem_toList_iff
abbrev xjg:=@List.length_nil
abbrev xjh:=@Nat.sub_self
abbrev xji:=@Array.toList_extract
abbrev xjj:=@List.foldl_cons
abbrev xjk:=@Int.zero_add
abbrev xjl:=@PySem.wpAny_execs_nil
abbrev xjm:=@PySem.codeAny_mono
abbrev xjn:=@List.filterMap_cons
abbrev xjo:=@PySem.wpAny_setEntries_of
abbrev xjp:=@List.drop_drop
abbrev xjq:=@PySem.Heap.size_push
abbrev xjr:=@PySem.wpAny_fieldsOf
abbrev xjs:=@PyProof.Rows.callWith_type1
abbrev xjt:=@PySem.Calls.spliced_cons
abbrev xju:=@Array.append_empty
abbrev xjv:=@Nat.pos_of_ne_zero
abbrev xjw:=@List.set_cons_zero
abbrev xjx:=@Int.emod_lt_of_pos
abbrev xjy:=@PySem.wpAny_pyIter_tuple
abbrev xjz:=@PySem.tupleKind_room_in1
abbrev xka:=@of_decide_eq_false
abbrev xkb:=@Array.getElem?_eq_some_iff
abbrev xkc:=@PySem.wpAny_standAt
abbrev xkd:=@List.take_sublist
abbrev xke:=@PySem.Obj.cls_mapFields
abbrev xkf:=@List.mapM_toArray
abbrev xkg:=@List.drop_sublist
abbrev xkh:=@List.getElem_drop
abbrev xki:=@List.getElem_take
abbrev xkj:=@PySem.wpAny_assign_Name
abbrev xkk:=@PySem.wpAny_pyIter_slot
abbrev xkl:=@PySem.wpAny_dictEntries
abbrev xkm:=@decide_eq_true_eq
abbrev xkn:=@Nat.mod_lt
abbrev xko:=@List.map_nil
abbrev xkp:=@Nat.max_eq_right
abbrev xkq:=@Nat.min_eq_right
abbrev xkr:=@List.perm_middle
abbrev xks:=@List.nodup_range
abbrev xkt:=@map_eq_pure_bind
abbrev xku:=@List.of_mem_zip
abbrev xkv:=@Nat.le_add_left
abbrev xkw:=@Nat.two_pos
abbrev xkx:=@List.Perm.refl
set_option maxHeartbeats 0
namespace L2
open PySem PySem.Spec PyProof.Rows
abbrev Key:=Sum Int Str
def keyIs:Key->Value->Bool
 | .inl k,v=>Value.isInt k v
 | .inr x,v=>Value.isStrOf x v
def keyH (w:World):Key->Int
 | .inl k=>hashInt k
 | .inr x=>hashStr w x
theorem zu:∀{k:Key} {v:Value},keyIs k v=true->(∃i t,k=Sum.inl i/\v=Value.int i t)\/(∃x t,k=Sum.inr x/\v=Value.str x t)
 | .inl i,v,h=>by
  obtain ⟨t,e⟩:=Value.isInt_shape (k:=i) (v:=v) h;exact .inl ⟨i,t,rfl,e⟩
 | .inr x,v,h=>by
  obtain ⟨t,e⟩:=Value.isStrOf_shape (x:=x) (v:=v) h;exact .inr ⟨x,t,rfl,e⟩
theorem zns (i:Int) (t:Tok):keyIs (.inl i) (.int i t)=true:=by simp[keyIs,Value.isInt]
theorem znr (x:Str) (t:Tok):keyIs (.inr x) (.str x t)=true:=by simp[keyIs,Value.isStrOf]
theorem zbaj (a b:Int):decide ((Sum.inl a:Key)=Sum.inl b)=(a == b):=by
 by_cases e:a=b
 ·subst e;simp
 ·have h:¬ (Sum.inl a:Key)=Sum.inl b:=fun q=>e (Sum.inl.inj q)
  rw[xct h];exact (xei.mpr e).symm
theorem zbag (a b:Str):decide ((Sum.inr a:Key)=Sum.inr b)=decide (a=b):=by
 by_cases e:a=b
 ·subst e;simp
 ·have h:¬ (Sum.inr a:Key)=Sum.inr b:=fun q=>e (Sum.inr.inj q)
  rw[xct h,xct e]
theorem zbai (a:Int) (b:Str):decide ((Sum.inl a:Key)=Sum.inr b)=false:=xct (fun q=>nomatch q)
theorem zbah (a:Str) (b:Int):decide ((Sum.inr a:Key)=Sum.inl b)=false:=xct (fun q=>nomatch q)
def mixKind (prog:Program) (w:World):PySem.KeyKind prog w Key where
 is:=keyIs
 hash:=keyH w
 inj:=fun v a b ha hb=>by
  rcases zu ha with ⟨i,t,rfl,rfl⟩ | ⟨x,t,rfl,rfl⟩
  ·rcases zu hb with ⟨j,u,rfl,e⟩ | ⟨y,u,rfl,e⟩
   ·injection e with e1 _;rw[e1]
   ·exact nomatch e
  ·rcases zu hb with ⟨j,u,rfl,e⟩ | ⟨y,u,rfl,e⟩
   ·exact nomatch e
   ·injection e with e1 _;rw[e1]
 byValue:=fun k v h=>by
  rcases zu h with ⟨i,t,rfl,rfl⟩ | ⟨x,t,rfl,rfl⟩<;>rfl
 pyHash:=fun hv h=>by
  rcases zu hv with ⟨i,t,rfl,rfl⟩ | ⟨x,t,rfl,rfl⟩
  ·exact wpAny_pyHash_int h
  ·exact wpAny_pyHash_str h
 eqBool:=fun hu hv h=>by
  rcases zu hu with ⟨i,t,rfl,rfl⟩ | ⟨x,t,rfl,rfl⟩
  ·rcases zu hv with ⟨j,u,rfl,rfl⟩ | ⟨y,u,rfl,rfl⟩
   ·rw[zbaj] at h;exact wpAny_eqBool_int h
   ·rw[zbai] at h;exact SeqAt.EqAt.int_str i t y u _ _ _ _ h
  ·rcases zu hv with ⟨j,u,rfl,rfl⟩ | ⟨y,u,rfl,rfl⟩
   ·rw[zbah] at h;exact SeqAt.EqAt.str_int x t j u _ _ _ _ h
   ·rw[zbag] at h;exact wpAny_eqBool_str h
 «strs»:=fun k x t v h=>by
  rcases zu h with ⟨i,u,rfl,e⟩ | ⟨y,u,rfl,e⟩
  ·exact nomatch e
  ·injection e with e1 _
   subst e1;cases v<;>rfl
theorem zjr (prog:Program) (w:World) (i:Int) (t:Tok):(mixKind prog w).is (.inl i) (.int i t)=true:=zns i t
theorem zjq (prog:Program) (w:World) (x:Str) (t:Tok):(mixKind prog w).is (.inr x) (.str x t)=true:=znr x t
set_option genInjectivity true in
inductive V where
 | non | bl (b:Bool) | int (i:Int) | str (x:Str) | byt (b:Array UInt8) | flt (b:UInt64) | ref (a:Addr) | ty (n:String)
 deriving DecidableEq
def RelV:V->Value->Prop
 | .non,u=>u=Value.none
 | .bl b,u=>u=Value.bool b
 | .int i,u=>∃t,u=Value.int i t
 | .str x,u=>∃t,u=Value.str x t
 | .byt b,u=>∃t,u=Value.bytes b t
 | .flt b,u=>∃t,u=Value.float b t
 | .ref a,u=>u=Value.ref a
 | .ty n,u=>u=Value.type n
abbrev Vals:List V->List Value->Prop:=Paired RelV
theorem Vals.length {xs:List V} {us:List Value} (r:Vals xs us):xs.length=us.length:=xir r
theorem Vals.get:∀{xs:List V} {us:List Value} {i:Nat} {x:V},Vals xs us->xs[i]?=some x->∃u,us[i]?=some u/\RelV x u
 | _,_,_,_,.nil,e=>by simp at e
 | _,_,0,_,.cons r _,e=>by simp at e;subst e;exact ⟨_,rfl,r⟩
 | _,_,i+1,x,.cons _ t,e=>by
  obtain ⟨u,h1,h2⟩:=Vals.get (i:=i) (x:=x) t (by simpa using e);exact ⟨u,by simpa using h1,h2⟩
theorem Vals.set {x:V} {u:Value} (r:RelV x u):∀{xs:List V} {us:List Value} (i:Nat),Vals xs us->Vals (xs.set i x) (us.set i u)
 | _,_,_,.nil=>.nil
 | _,_,0,.cons _ t=>.cons r t
 | _,_,i+1,.cons q t=>.cons q (Vals.set r i t)
theorem Vals.append:∀{xs ys:List V} {us ws:List Value},Vals xs us->Vals ys ws->Vals (xs++ys) (us++ws)
 | _,_,_,_,.nil,s=>s
 | _,_,_,_,.cons r t,s=>.cons r (Vals.append t s)
theorem Vals.take:∀{xs:List V} {us:List Value} (n:Nat),Vals xs us->Vals (xs.take n) (us.take n)
 | _,_,0,_=>.nil
 | _,_,_+1,.nil=>.nil
 | _,_,n+1,.cons r t=>.cons r (Vals.take n t)
theorem Vals.drop:∀{xs:List V} {us:List Value} (n:Nat),Vals xs us->Vals (xs.drop n) (us.drop n)
 | _,_,0,r=>r
 | _,_,_+1,.nil=>.nil
 | _,_,n+1,.cons _ t=>Vals.drop n t
def RelO:Option V->Option Value->Prop
 | some v,some u=>RelV v u
 | none,none=>True
 | _,_=>False
def KV {κ:Type}:List (κ × V)->List (κ × Value)->Prop:=Paired fun (p:κ × V) (q:κ × Value)=>p.1=q.1/\RelV p.2 q.2
def kV:Key->V
 | .inl i=>.int i
 | .inr x=>.str x
set_option genInjectivity true in
inductive HO where
 /-- a list -/
 | lst (xs:List V)
 /-- a tuple (never changes) -/
 | tup (xs:List V)
 /-- a dict whose keys are ints and texts;one whose keys are tuples of ints and texts (the empty one is both) -/
 | dK (kvs:List (Key × V)) | dT (kvs:List (List Key × V))
 /-- a set of ints: its members,its size -/
 | set (S:Int->Bool) (n:Nat)
 /-- an instance of the class at C,its dict at dx,its attributes -/
 | ins (C dx:Addr) (fs:List (Str × V))
 /-- the dict of the instance at x -/
 | own (x:Addr)
 /-- the dict of an exception -/
 | xd (fs:List (Str × V))
 /-- a bound method,f of x -/
 | met (f x:Addr)
 /-- a range object lo,lo+1,.. below hi -/
 | rng (lo hi:Int)
 /-- a thing that is known to the object (the script;a dict while a loop walks it): read,never written while it is so -/
 | frz (o:Obj) (u:HO)
 /-- a code object's table -/
 | tbl (ps:Array Value)
 /-- any other thing,by what is true of its one object (a def of one's own: SetO a S n:=HO.ext fun h=>..) -/
 | ext (φ:Heap->Prop)
abbrev Hp:=Addr->Option HO
def upd (H:Hp) (a:Addr) (o:HO):Hp:=fun b=>if b=a then some o else H b
theorem zo {H:Hp} {a:Addr} {o:HO}:upd H a o a=some o:=by unfold upd;rw[if_pos rfl]
theorem zp {H:Hp} {a b:Addr} {o:HO} (h:b≠a):upd H a o b=H b:=by unfold upd;rw[if_neg h]
theorem zbeb {H:Hp} {a b:Addr} {o u:HO} (h:H a=some o) (h':H b=some u) (d:o≠u):a≠b:=by
 intro e;subst e;rw[h] at h';exact d (xck h')
theorem zh {H:Hp} {a b:Addr} {o:HO} (h:H a=some o) (h':H b=none):a≠b:=by
 intro e;subst e;rw[h] at h';cases h'
section
variable (P:Program) (w:World)
def ObjOk (H:Hp) (h:Heap) (a:Addr):HO->Prop
 | .lst xs => xs.length <= sizeLine /\ ∃ (its : List Value) (n : Nat), Vals xs its /\ h.get? a = some { cls := .type "list", data := .seq its.toArray n }
 | .tup xs=>xs.length<=sizeLine/\∃its:List Value,Vals xs its/\IsTup h a its.toArray
 | .dK kvs=>kvs.length<=sizeLine/\(a == sysModules)=false/\∃vs,KV kvs vs/\h.DictOf (mixKind P w) a vs
 | .dT kvs=>kvs.length<=sizeLine/\(a == sysModules)=false/\∃xs:List (List Key × Addr × Value),
  Paired (fun (p:List Key × V) (q:List Key × Addr × Value)=>p.1=q.1/\H q.2.1=some (.tup (p.1.map kV))/\RelV p.2 q.2.2) kvs xs /\
  ∃o es ep,h.get? a=some o/\o.ExactDict/\o.data=.dict es ep/\es.toList=xs.map (entryOfKey (tupleKind (mixKind P w)))/\(xs.map (·.1)).Nodup
 | .set S n=>h.SetOf (intKind P w) a S n
 | .ins C dx fs=>H dx=some (.own a)/\fs.length<=1000/\dx≠a/\h.get? a=some (PySem.W.instObj C dx) /\
  ∃mA,h.Ns1 dx mA/\(∀f,RelO (fs.lookup f) (mA f))/\PySem.Within mA (fs.map (·.1))
 | .own _=>∃o,h.get? a=some o
 | .xd fs=>∃mA,h.Ns1 a mA/\∀f,RelO (fs.lookup f) (mA f)
 | .rng lo hi => ∃ t u v, h.get? a = some { cls := .type "range", data := .fields #[.int lo t, .int hi u, .int 1 v] }
 | .frz o u=>h.get? a=some o/\ObjOk H h a u
 | .tbl ps=>h.get? a=some {cls:=.none,data:=.fields ps}
 | .met f x=>h.get? a=some (PySem.W.methodObj (.ref f) (.ref x))
 | .ext φ=>φ h/\(∃o,h.get? a=some o)/\∀h1 h2:Heap,φ h1->(∀o,h1.get? a=some o->h2.get? a=some o)->φ h2
def HOk (H:Hp) (h:Heap):Prop:=∀a o,H a=some o->ObjOk P w H h a o
end
section
variable {P:Program} {w:World} {H H':Hp} {h h':Heap} {a:Addr} {o:HO}
theorem ObjOk.lt (x:ObjOk P w H h a o):a < h.objs.size:=by
 cases o with
 | lst xs=>obtain ⟨_,_,_,_,e⟩:=x;exact xbl e
 | tup xs=>obtain ⟨_,_,_,p⟩:=x;exact p.lt
 | dK kvs=>obtain ⟨_,_,_,_,o,_,_,e,_⟩:=x;exact xbl e
 | dT kvs=>obtain ⟨_,_,_,_,o,_,_,e,_⟩:=x;exact xbl e
 | set S n=>obtain ⟨o,_,_,_,e,_⟩:=x;exact xbl e
 | ins C dx fs=>obtain ⟨_,_,_,e,_⟩:=x;exact xbl e
 | own y=>obtain ⟨_,e⟩:=x;exact xbl e
 | xd fs=>obtain ⟨_,⟨_,_,_,e,_⟩,_⟩:=x;exact xbl e
 | rng lo hi=>obtain ⟨_,_,_,e⟩:=x;exact xbl e
 | frz ob u=>obtain ⟨e,_⟩:=x;exact xbl e
 | tbl ps=>exact xbl (show h.get? a=some _ from x)
 | met f y=>exact xbl (show h.get? a=some _ from x)
 | ext φ=>obtain ⟨_,⟨_,e⟩,_⟩:=x;exact xbl e
theorem Paired.mapP {α β:Type} {F G:α->β->Prop}:∀{l₁:List α} {l₂:List β},Paired F l₁ l₂->(∀a b,F a b->G a b)->Paired G l₁ l₂
 | _,_,.nil,_=>.nil
 | _,_,.cons r t,f=>.cons (f _ _ r) (Paired.mapP t f)
theorem ObjOk.stay (x:ObjOk P w H h a o) (k:∀b u,(b=a\/H b=some (.own a))->h.get? b=some u->h'.get? b=some u)
  (ho:∀b,H b=some (.own a)->H' b=some (.own a)) (ht:∀b xs,H b=some (.tup xs)->H' b=some (.tup xs)):ObjOk P w H' h' a o:=by
 induction o with
 | lst xs=>obtain ⟨z,its,n,r,e⟩:=x;exact ⟨z,its,n,r,k _ _ (.inl rfl) e⟩
 | tup xs=>obtain ⟨z,its,r,ob,e,c⟩:=x;exact ⟨z,its,r,ob,k _ _ (.inl rfl) e,c⟩
 | dK kvs=>obtain ⟨z,y,vs,r,ob,es,ep,e,c⟩:=x;exact ⟨z,y,vs,r,ob,es,ep,k _ _ (.inl rfl) e,c⟩
 | dT kvs =>
  obtain ⟨z,y,xs,r,ob,es,ep,e,c⟩:=x;exact ⟨z,y,xs,Paired.mapP r fun p q z=>⟨z.1,ht _ _ z.2.1,z.2.2⟩,ob,es,ep,k _ _ (.inl rfl) e,c⟩
 | set S n=>obtain ⟨ob,es,ep,t,e,c⟩:=x;exact ⟨ob,es,ep,t,k _ _ (.inl rfl) e,c⟩
 | ins C dx fs =>
  obtain ⟨d,z,ne,e,mA,⟨od,es,ep,e2,c⟩,r⟩:=x;exact ⟨ho _ d,z,ne,k _ _ (.inl rfl) e,mA,⟨od,es,ep,k _ _ (.inr d) e2,c⟩,r⟩
 | own y=>obtain ⟨ob,e⟩:=x;exact ⟨ob,k _ _ (.inl rfl) e⟩
 | xd fs=>obtain ⟨mA,⟨od,es,ep,e,c⟩,r⟩:=x;exact ⟨mA,⟨od,es,ep,k _ _ (.inl rfl) e,c⟩,r⟩
 | rng lo hi=>obtain ⟨t,u,v,e⟩:=x;exact ⟨t,u,v,k _ _ (.inl rfl) e⟩
 | frz ob u ih=>obtain ⟨e,q⟩:=x;exact ⟨k _ _ (.inl rfl) e,ih q⟩
 | tbl ps =>
  have e:h.get? a=some {cls:=.none,data:=.fields ps}:=x;show h'.get? a=some {cls:=.none,data:=.fields ps};exact k a _ (.inl rfl) e
 | met f y =>
  have e:h.get? a=some (PySem.W.methodObj (.ref f) (.ref y)):=x;show h'.get? a=some (PySem.W.methodObj (.ref f) (.ref y));exact k a _ (.inl rfl) e
 | ext φ=>obtain ⟨p,⟨o,e⟩,st⟩:=x;exact ⟨st _ _ p fun o q=>k _ _ (.inl rfl) q,⟨o,k _ _ (.inl rfl) e⟩,st⟩
theorem HOk.lt (x:HOk P w H h) (e:H a=some o):a < h.objs.size:=(x a o e).lt
theorem HOk.fresh (x:HOk P w H h) (e:h.objs.size<=a):H a=none:=by
 cases q:H a with
 | none=>rfl
 | some u=>exact absurd (xbf (x.lt q) e) (xez _)
theorem HOk.kept (x:HOk P w H h) (k:∀b u,h.get? b=some u->h'.get? b=some u):HOk P w H h':=fun a o e =>
 (x a o e).stay (fun b u _ q=>k b u q) (fun _ q=>q) fun _ _ q=>q
theorem HOk.laid (x:HOk P w H h) (k:∀b u,h.get? b=some u->h'.get? b=some u) (hp:h.objs.size<=a) (new:ObjOk P w (upd H a o) h' a o):HOk P w (upd H a o) h':=fun b u e=>by
 have hn:=x.fresh hp;by_cases hb:b=a
 ·subst hb;rw[zo] at e;cases e;exact new
 ·rw[zp hb] at e;exact (x b u e).stay (fun c v _ q=>k c v q) (fun c q=>by rw[zp (zh q hn)];exact q) fun c xs q=>by rw[zp (zh q hn)];exact q
end
def Rd (H:Hp) (a:Addr) (u:HO):Prop:=H a=some u\/∃o,H a=some (.frz o u)
theorem Rd.ok {P:Program} {w:World} {H:Hp} {h:Heap} {a:Addr} {u:HO} (r:Rd H a u) (x:HOk P w H h):ObjOk P w H h a u:=by
 rcases r with r | ⟨o,r⟩
 ·exact x a u r
 ·obtain ⟨_,q⟩:=x a _ r;exact q
def Mut:Option HO->Prop
 | some (.lst _)=>True
 | some (.dK _)=>True
 | some (.dT _)=>True
 | some (.set _ _)=>True
 | some (.ins _ _ _)=>True
 | some (.ext _)=>True
 | _=>False
section
variable {P:Program} {w:World} {H:Hp} {h h':Heap} {x e:Addr} {o':HO}
theorem HOk.write (ok:HOk P w H h) (mu:Mut (H x)) (he:e=x\/H e=some (.own x)) (k:∀b u,b≠e->h.get? b=some u->h'.get? b=some u) (heo:∃u,h'.get? e=some u)
  (new:ObjOk P w (upd H x o') h' x o'):HOk P w (upd H x o') h':=fun b u q=>by
 have nown:∀c y,H c=some (.own y)->c≠x:=fun c y r z=>by subst z;rw[r] at mu;exact mu
 have ntup:∀c xs,H c=some (.tup xs)->c≠x:=fun c xs r z=>by subst z;rw[r] at mu;exact mu
 by_cases hb:b=x
 ·subst hb;rw[zo] at q;cases q;exact new
 ·rw[zp hb] at q;by_cases hbe:b=e
  ·have q':H b=some (.own x):=by
    rcases he with z | z
    ·exact absurd (hbe.trans z) hb
    ·rw[hbe];exact z
   rw[q] at q';cases q'
   obtain ⟨v,hv⟩:=heo;exact ⟨v,by rw[hbe];exact hv⟩
  ·refine (ok b u q).stay (fun c v hc r=>k c v ?_ r) (fun c r=>by rw[zp (nown c b r)];exact r) fun c xs r=>by rw[zp (ntup c xs r)];exact r
   rcases hc with rfl | hc
   ·exact hbe
   ·rintro rfl;rcases he with z | z
    ·exact nown c b hc z
    ·rw[hc] at z;cases z;exact hb rfl
end
structure Un (fs ex:List Addr) (H H':Hp) (h h':Heap):Prop where
 keep:∀b o,h.get? b=some o->H b=none->b∉fs->b∉ex->h'.get? b=some o
 slot:∀b o,h.get? b=some o->H b=none->b∈fs->b∉ex->∃sl,h'.get? b=some {o with slots:=sl}
 free:∀b o,h.get? b=some o->H b=none->b∉ex->H' b=none
 there:∀b o,h.get? b=some o->b∉ex->∃o',h'.get? b=some o'
 tups:∀b xs,H b=some (.tup xs)->H' b=some (.tup xs)
 frzs:∀b o u,H b=some (.frz o u)->H' b=some (.frz o u)
 tbls:∀b ps,H b=some (.tbl ps)->∃more,H' b=some (.tbl (ps++more))
section
variable {fs fs' ex ex':List Addr} {H H1 H2:Hp} {h h1 h2 h':Heap} {a x e:Addr} {o:HO}
theorem Un.any (u:Un fs ex H H1 h h1) {b:Addr} {ob:Obj} (q:h.get? b=some ob) (n:H b=none) (hx:b∉ex):∃sl,h1.get? b=some {ob with slots:=sl}:=by
 by_cases hb:b∈fs
 ·exact u.slot b ob q n hb hx
 ·exact ⟨ob.slots,u.keep b ob q n hb hx⟩
theorem Un.kept (k:∀b u,h.get? b=some u->h'.get? b=some u):Un fs ex H H h h' :=
 ⟨fun b ob q _ _ _=>k b ob q,fun b ob q _ _ _=>⟨ob.slots,k b ob q⟩,fun _ _ _ n _=>n,fun b ob q _=>⟨ob,k b ob q⟩,fun _ _ q=>q,fun _ _ _ q=>q,fun _ ps q=>⟨#[],by rw[q];simp⟩⟩
theorem Un.refl:Un fs ex H H h h:=Un.kept fun _ _ q=>q
theorem Un.laid (k:∀b u,h.get? b=some u->h'.get? b=some u) (hp:h.objs.size<=a) (hn:H a=none):Un fs ex H (upd H a o) h h' where
 keep:=fun b u q _ _ _=>k b u q
 slot:=fun b u q _ _ _=>⟨u.slots,k b u q⟩
 free:=fun b u q n _=>by rw[zp (xbv (xbf (xbl q) hp))];exact n
 there:=fun b u q _=>⟨u,k b u q⟩
 tups:=fun b xs q=>by rw[zp (zh q hn)];exact q
 frzs:=fun b u xs q=>by rw[zp (zh q hn)];exact q
 tbls:=fun b ps q=>⟨#[],by rw[zp (zh q hn),q];simp⟩
theorem Un.write (mu:Mut (H x)) (he:e=x\/H e=some (.own x)) (k:∀b u,b≠e->h.get? b=some u->h'.get? b=some u) (heo:∃u,h'.get? e=some u):Un fs ex H (upd H x o) h h':=by
 have hx:∀b,H b=none->b≠x:=fun b n z=>by subst z;rw[n] at mu;exact mu
 have hb:∀b,H b=none->b≠e:=fun b n z=>by
  subst z;rcases he with r | r
  ·exact hx b n r
  ·rw[n] at r;cases r
 have hm:∀b u,H b=some u->¬ Mut (some u)->b≠x:=fun b u q nm z=>by subst z;rw[q] at mu;exact nm mu
 refine ⟨fun b u q n _ _=>k b u (hb b n) q,fun b u q n _ _=>⟨u.slots,k b u (hb b n) q⟩,fun b u q n _=>by rw[zp (hx b n)];exact n,fun b u q _=>?_,
  fun b xs q=>by rw[zp (hm b _ q fun z=>z)];exact q,fun b u xs q=>by rw[zp (hm b _ q fun z=>z)];exact q,fun b ps q=>⟨#[],by rw[zp (hm b _ q fun z=>z),q];simp⟩⟩
 by_cases hbe:b=e
 ·subst hbe;exact heo
 ·exact ⟨u,k b u hbe q⟩
end
def trk (h:Heap) (H:Hp):List Addr:=(List.range h.objs.size).filter fun a=>(H a).isSome
def hidT (h:Heap) (H:Hp):Heap:=PySem.W.hideAll h (trk h H)
theorem znz (h:Heap) (H:Hp):(hidT h H).objs.size=h.objs.size:=PySem.W.hideAll_size _ _
theorem zrs {h:Heap} {H:Hp} {b:Addr} {o:Obj} (e:h.get? b=some o) (n:H b=none):(hidT h H).get? b=some o :=
 PySem.W.hideAll_get _ e fun hm=>by
  have q:(H b).isSome=true:=(xew.mp hm).2;rw[n] at q;simp at q
theorem zvd {h:Heap} {H:Hp} {b:Addr} {o:Obj} (e:(hidT h H).get? b=some o):h.get? b=some o/\H b=none:=by
 have e':h.get? b=some o:=PySem.W.of_hideAll (trk h H) e;refine ⟨e',?_⟩;cases q:H b with
 | none=>rfl
 | some x =>
  have hm:b∈trk h H:=xew.mpr ⟨xco.mpr (xbl e'),by simp[q]⟩;have z:(hidT h H).get? b=none:=PySem.W.hideAll_none (trk h H) hm;rw[z] at e;cases e
structure Mod (K:Fg) (mg:Str->Option Value) (base:Heap):Prop where
 kin:K.In base
 glob:base.Ns mainGlobals mg
 blt : ∃ mb, base.Ns builtinsNs mb /\ ∀ x : Str, x ≠ "__name__" -> mb x = bootBuiltins x
 nolimit:base.NoLimit
structure Cx where
 prog:Program
 w:World
 K:Fg
 mg:Str->Option Value
 base:Heap
 A:Around
 N:List Str
 s₀:Shared
 H₀:Hp
 env:Env
 outer:List Env
 stack:List Env
 ex:List Addr
 fn:Str->Bool
 calm:Bool
 pn:List (Addr × Obj)
 xe:Value->Shared->Prop
def frs (l:List Env):List Addr:=l.filterMap (·.frame)
abbrev Cx.fs (X:Cx):List Addr:=frs X.outer
def Vis (sc:Scope) (x:Str):Prop:=sc.names.lookup x=some .local\/sc.names.lookup x=some .cell\/sc.names.lookup x=some .free
def Loc (sc:Scope) (x:Str):Prop:=sc.names.lookup x=some .local\/sc.names.lookup x=some .cell
def Look (env:Env) (h:Heap) (m:Str->Option Value) (x:Str) (u:Value):Prop :=
 (env.kindOf x=some .local/\m x=some u)\/((env.kindOf x=some .cell\/env.kindOf x=some .free)/\∃c,env.cells.lookup x=some c/\h.IsCell c (some u))
structure Cx.Ok (X:Cx):Prop where
 mod:Mod X.K X.mg X.base
 kind:X.env.scope.kind=.function
 glob:X.env.globals=mainGlobals
 blt:X.env.builtins=builtinsNs
 above:X.s₀.heap.objs.size<=X.env.locals
 inj:∀x y c,X.env.cells.lookup x=some c->X.env.cells.lookup y=some c->x=y
 has:∀x,(X.env.kindOf x=some .cell\/X.env.kindOf x=some .free)->∃c,X.env.cells.lookup x=some c
 cab:∀x c,X.fn x=true->X.env.cells.lookup x=some c->X.s₀.heap.objs.size<=c
 hd:X.calm=true->X.A.handled=none
 frames:X.A.frames=some X.stack
 stk:X.stack=X.outer\/(X.stack=X.env::X.outer/\X.env.frame=some X.env.locals)
 exf:∀b∈X.ex,b≠X.env.locals/\∀x c,X.env.cells.lookup x=some c->c≠b
 bs:∀b o,X.base.get? b=some o->X.s₀.heap.get? b=some o/\X.H₀ b=none
 bsz:X.base.objs.size<=X.s₀.heap.objs.size
 noex:∀b o,X.base.get? b=some o->b∉X.ex
 exfs:∀b∈X.ex,b∉X.fs
 funs:X.s₀.heap.FunFrames X.base X.outer
 frf:∀b∈X.fs,X.H₀ b=none
def Hnd (A:Around) (H:Hp):Prop:=∀v,A.handled=some v->∃a o,v=.ref a/\H a=some (.frz o (.ext fun _=>True))/\∃vs,o.data=.fields vs/\vs[2]?=some .none
theorem Hnd.map {A:Around} {H H':Hp} (h:Hnd A H) (f:∀b o u,H b=some (.frz o u)->H' b=some (.frz o u)):Hnd A H':=fun v e=>let ⟨a,o,h1,h2,h3⟩:=h v e;⟨a,o,h1,f _ _ _ h2,h3⟩
theorem Hnd.none {A:Around} {H:Hp} (h:A.handled=.none):Hnd A H:=fun v e=>by rw[h] at e;cases e
structure Inv (X:Cx) (pins:List (Addr × Obj)) (σ:List (Option V)) (H:Hp) (s:Shared):Prop where
 ok:X.Ok
 os:s.os=X.s₀.os
 bare:AllBare s.gens
 base:Un X.fs X.ex X.H₀ H X.s₀.heap s.heap
 loc:∃m,s.heap.Ns X.env.locals m/\∀(i:Nat) (x:Str) (v:V),X.N[i]?=some x->σ[i]?=some (some v)->Vis X.env.scope x->∃u,RelV v u/\Look X.env s.heap m x u
 cell:∀x c,X.env.cells.lookup x=some c->∃v,s.heap.IsCell c v
 free:H X.env.locals=none
 freeC:∀x c,X.env.cells.lookup x=some c->H c=none
 pin:∀p∈X.pn++pins,s.heap.get? p.1=some p.2/\H p.1=none/\p.1≠X.env.locals/\p.1∉X.fs/\∀v,p.2.data≠.cell v
 hok:HOk X.prog X.w H s.heap
 len:σ.length=X.N.length
 hnd:Hnd X.A H
section
variable {X:Cx} {pins:List (Addr × Obj)} {σ:List (Option V)} {H H':Hp} {s:Shared} {h':Heap}
theorem Cx.Ok.nofr (ok:X.Ok) {b:Addr} {o:Obj} (e:X.base.get? b=some o):b∉X.fs:=fun hb=>by
 have:=(ok.funs.mem hb).1;rw[e] at this;cases this
theorem Inv.bs (I:Inv X pins σ H s):∀b o,X.base.get? b=some o->s.heap.get? b=some o/\H b=none:=fun b o e =>
 ⟨I.base.keep b o (I.ok.bs b o e).1 (I.ok.bs b o e).2 (I.ok.nofr e) (I.ok.noex b o e),I.base.free b o (I.ok.bs b o e).1 (I.ok.bs b o e).2 (I.ok.noex b o e)⟩
theorem Inv.bk (I:Inv X pins σ H s):∀b o,X.base.get? b=some o->s.heap.get? b=some o:=fun b o e=>(I.bs b o e).1
theorem Inv.mod (I:Inv X pins σ H s):Mod X.K X.mg X.base:=I.ok.mod
theorem Inv.kIn (I:Inv X pins σ H s):X.K.In s.heap:=I.ok.mod.kin.keeps I.bk
theorem Inv.lt (I:Inv X pins σ H s):X.env.locals < s.heap.objs.size:=let ⟨_,hn,_⟩:=I.loc;hn.lt
theorem Inv.sz (I:Inv X pins σ H s):X.s₀.heap.objs.size<=s.heap.objs.size:=xbb I.ok.above (xbp I.lt)
theorem Inv.nofs (I:Inv X pins σ H s) {a:Addr} (h:s.heap.objs.size<=a):a∉X.fs:=fun hb=>by
 obtain ⟨_,o,ho,_⟩:=I.ok.funs.mem hb;exact absurd (xbf (xbl ho) (xbb I.sz h)) (xez _)
theorem Inv.cne (I:Inv X pins σ H s):∀x c,X.env.cells.lookup x=some c->c≠X.env.locals:=fun x c e z=>by
 obtain ⟨v,o,ho,hd⟩:=I.cell x c e;obtain ⟨m,⟨o',es,ep,ho',hd',_⟩,_⟩:=I.loc;rw[z,ho'] at ho;cases ho;rw[hd'] at hd;cases hd
theorem Inv.funs (I:Inv X pins σ H s):s.heap.FunFrames X.base X.outer:=by
 have all:∀(l:List Env),(∀b∈frs l,b∈X.fs)->X.s₀.heap.FunFrames X.base l->s.heap.FunFrames X.base l:=by
  intro l
  induction l with
  | nil=>intro _ _;trivial
  | cons env r ih =>
   intro hs hl;obtain ⟨hk,⟨L,o,hf,hn,ho,hd⟩,hr⟩:=hl;have hL:L∈X.fs:=hs L (by unfold frs;rw[xjn,hf];exact xbz);obtain ⟨sl,e⟩:=I.base.slot L o ho (I.ok.frf L hL) hL fun z=>I.ok.exfs L z hL
   exact ⟨hk,⟨L,_,hf,hn,e,hd⟩,ih (fun b hb=>hs b (by unfold frs;rw[xjn,hf];exact xbu _ hb)) hr⟩
 exact all X.outer (fun _ hb=>hb) I.ok.funs
theorem Inv.stack (I:Inv X pins σ H s):s.heap.FunFrames X.base X.stack:=by
 rcases I.ok.stk with e | ⟨e,hf⟩
 ·rw[e];exact I.funs
 ·rw[e];obtain ⟨m,hn,_⟩:=I.loc;refine .cons (by rw[I.ok.kind];decide) hf hn ?_ I.funs;exact Heap.get?_none_of_le (xbb I.ok.bsz I.ok.above)
theorem Inv.stkSub (I:Inv X pins σ H s):∀b∈frs X.stack,b∈X.env.locals::X.fs:=fun b hb=>by
 rcases I.ok.stk with e | ⟨e,hf⟩
 ·rw[e] at hb;exact xbu _ hb
 ·rw[e] at hb;unfold frs at hb;rw[xjn,hf] at hb;exact hb
theorem Inv.stkFree (I:Inv X pins σ H s):∀b∈frs X.stack,H b=none:=fun b hb=>by
 rcases xbo.mp (I.stkSub b hb) with e | hb
 ·rw[e];exact I.free
 ·obtain ⟨_,o,ho,_⟩:=I.ok.funs.mem hb;exact I.base.free b o ho (I.ok.frf b hb) fun z=>I.ok.exfs b z hb
theorem Inv.step {g':Array GenState} {t':Nat} {d':Drawn} {ch:List Addr} (I:Inv X pins σ H s)
  (hch:∀b∈ch,(b∈X.ex\/X.s₀.heap.objs.size<=b)/\b≠X.env.locals/\(∀x c,X.env.cells.lookup x=some c->c≠b)/\∀p∈X.pn++pins,p.1≠b)
  (keep:∀b o,b≠X.env.locals->b∉X.fs->b∉ch->s.heap.get? b=some o->H b=none->h'.get? b=some o)
  (slot:∀b o,b≠X.env.locals->b∈X.fs->b∉ch->s.heap.get? b=some o->H b=none->∃sl,h'.get? b=some {o with slots:=sl}) (free:∀b o,b∉ch->s.heap.get? b=some o->H b=none->H' b=none)
  (there:∀b o,b∉ch->s.heap.get? b=some o->∃o',h'.get? b=some o')
  (tups:∀b xs,H b=some (.tup xs)->H' b=some (.tup xs)) (frzs:∀b o u,H b=some (.frz o u)->H' b=some (.frz o u)) (tbls:∀b ps,H b=some (.tbl ps)->∃more,H' b=some (.tbl (ps++more)))
  (ns:∀m,s.heap.Ns X.env.locals m->h'.Ns X.env.locals m) (hok:HOk X.prog X.w H' h') (hg:AllBare g') :
  Inv X pins σ H' {s with heap:=h',gens:=g',drawn:=d',toks:=t'}:=by
 have neL:∀b o,X.s₀.heap.get? b=some o->b≠X.env.locals:=fun b o e=>xbv (xbf (xbl e) I.ok.above)
 have neC:∀b o,X.s₀.heap.get? b=some o->b∉X.ex->b∉ch:=fun b o e hx hb=>by
  rcases (hch b hb).1 with z | z
  ·exact hx z
  ·exact absurd (xbf (xbl e) z) (xez _)
 have cellK:∀x c,X.env.cells.lookup x=some c->∀v,s.heap.IsCell c v->h'.IsCell c v:=fun x c e v hq0=>by
  obtain ⟨o,ho,hd⟩:=hq0;have nch:c∉ch:=fun z=>(hch c z).2.2.1 x c e rfl
  by_cases hc:c∈X.fs
  ·obtain ⟨sl,q⟩:=slot c o (I.cne x c e) hc nch ho (I.freeC x c e);exact ⟨_,q,hd⟩
  ·exact ⟨o,keep c o (I.cne x c e) hc nch ho (I.freeC x c e),hd⟩
 refine ⟨I.ok,I.os,hg,⟨fun b o e n hb hx=>?_,fun b o e n hb hx=>?_,fun b o e n hx=>?_,fun b o e hx=>?_,fun b xs e=>tups b xs (I.base.tups b xs e),fun b o xs e=>frzs b o xs (I.base.frzs b o xs e),fun b ps e=>?_⟩,?_,fun x c e=>?_,?_,fun x c e=>?_,fun p hp=>?_,hok,I.len,I.hnd.map frzs⟩
 ·exact keep b o (neL b o e) hb (neC b o e hx) (I.base.keep b o e n hb hx) (I.base.free b o e n hx)
 ·obtain ⟨sl,e1⟩:=I.base.slot b o e n hb hx;obtain ⟨sl',e2⟩:=slot b _ (neL b o e) hb (neC b o e hx) e1 (I.base.free b o e n hx);exact ⟨sl',e2⟩
 ·obtain ⟨o',e1⟩:=I.base.there b o e hx;exact free b o' (neC b o e hx) e1 (I.base.free b o e n hx)
 ·obtain ⟨o',e1⟩:=I.base.there b o e hx;exact there b o' (neC b o e hx) e1
 ·obtain ⟨m1,e1⟩:=I.base.tbls b ps e;obtain ⟨m2,e2⟩:=tbls b _ e1;exact ⟨m1++m2,by rw[e2,Array.append_assoc]⟩
 ·obtain ⟨m,hn,hl⟩:=I.loc;refine ⟨m,ns m hn,fun i x v e1 e2 e3=>?_⟩;obtain ⟨u,r,l⟩:=hl i x v e1 e2 e3;refine ⟨u,r,?_⟩;rcases l with l | ⟨k,c,e,z⟩
  ·exact .inl l
  ·exact .inr ⟨k,c,e,cellK x c e _ z⟩
 ·obtain ⟨v,z⟩:=I.cell x c e;exact ⟨v,cellK x c e v z⟩
 ·obtain ⟨m,⟨o,_,_,ho,_⟩,_⟩:=I.loc;exact free _ o (fun z=>(hch _ z).2.1 rfl) ho I.free
 ·obtain ⟨v,o,ho,hd⟩:=I.cell x c e;exact free c o (fun z=>(hch c z).2.2.1 x c e rfl) ho (I.freeC x c e)
 ·obtain ⟨e,n,ne,nf,d⟩:=I.pin p hp;have nch:p.1∉ch:=fun z=>(hch p.1 z).2.2.2 p hp rfl
  exact ⟨keep p.1 p.2 ne nf nch e n,free p.1 p.2 nch e n,ne,nf,d⟩
theorem Inv.un {t':Nat} (I:Inv X pins σ H s) (u:Un X.fs [] H H' s.heap h') (hok:HOk X.prog X.w H' h'):Inv X pins σ H' {s with heap:=h',toks:=t'}:=by
 obtain ⟨m,⟨o,es,ep,ho,r⟩,_⟩:=id I.loc;obtain ⟨sl,hL⟩:=u.any ho I.free (by simp)
 exact I.step (g':=s.gens) (d':=s.drawn) (ch:=[]) (fun _ z=>nomatch z) (fun b o _ hb _ e n=>u.keep b o e n hb (by simp)) (fun b o _ hb _ e n=>u.slot b o e n hb (by simp)) (fun b o _ e n=>u.free b o e n (by simp)) (fun b o _ e=>u.there b o e (by simp)) u.tups u.frzs u.tbls (fun m' hm=>by
  obtain ⟨o',es',ep',ho',r'⟩:=hm;rw[ho] at ho';cases ho'
  exact ⟨_,es',ep',hL,r'⟩) hok I.bare
theorem Inv.call {g':Array GenState} {t':Nat} {d':Drawn} {ch:List Addr} (I:Inv X pins σ H s) (u:Un (frs X.stack) ch H H' s.heap h') (hok:HOk X.prog X.w H' h') (hg:AllBare g')
  (hch:∀b∈ch,(b∈X.ex\/X.s₀.heap.objs.size<=b)/\b≠X.env.locals/\(∀x c,X.env.cells.lookup x=some c->c≠b)/\∀p∈X.pn++pins,p.1≠b) :
  Inv X pins σ H' {s with heap:=h',gens:=g',drawn:=d',toks:=t'}:=by
 obtain ⟨m,⟨o,es,ep,ho,r⟩,_⟩:=id I.loc;obtain ⟨sl,hL⟩:=u.any ho I.free fun z=>(hch _ z).2.1 rfl
 exact I.step (ch:=ch) hch (fun b o hL hb hc e n=>u.keep b o e n (fun z=>(xbo.mp (I.stkSub b z)).elim hL hb) hc) (fun b o _ _ hc e n=>u.any e n hc) (fun b o hc e n=>u.free b o e n hc) (fun b o hc e=>u.there b o e hc) u.tups u.frzs u.tbls (fun m' hm=>by
  obtain ⟨o',es',ep',ho',r'⟩:=hm;rw[ho] at ho';cases ho'
  exact ⟨_,es',ep',hL,r'⟩) hok hg
theorem Inv.turned {t':Nat} {it:Addr} (I:Inv X pins σ H s) (k:∀b o,b≠it->s.heap.get? b=some o->h'.get? b=some o) (hn:H it=none) (hL:it≠X.env.locals)
  (h1:it∈X.ex\/X.s₀.heap.objs.size<=it) (h2:∀x c,X.env.cells.lookup x=some c->c≠it) (h3:∀p∈X.pn++pins,p.1≠it):Inv X pins σ H {s with heap:=h',toks:=t'}:=by
 have nit:∀b u,H b=some u->b≠it:=fun b u e z=>by rw[z,hn] at e;cases e
 refine I.step (g':=s.gens) (d':=s.drawn) (ch:=[it]) (fun b hb=>?_) (fun b o _ _ hc e _=>k b o (fun z=>hc (by simp[z])) e) (fun b o _ _ hc e _=>⟨o.slots,k b o (fun z=>hc (by simp[z])) e⟩) (fun _ _ _ _ n=>n)
  (fun b o hc e=>⟨o,k b o (fun z=>hc (by simp[z])) e⟩) (fun _ _ e=>e) (fun _ _ _ e=>e) (fun b ps e=>⟨#[],by rw[e];simp⟩) (fun m hm=>?_) (fun b u e=>?_) I.bare
 ·have e:b=it:=by simpa using hb
  subst e;exact ⟨h1,hL,h2,h3⟩
 ·obtain ⟨o,es,ep,ho,r⟩:=hm;exact ⟨o,es,ep,k _ o (xfc hL) ho,r⟩
 ·refine (I.hok b u e).stay (fun c v hc q=>k c v ?_ q) (fun _ q=>q) fun _ _ q=>q
  rcases hc with z | z
  ·rw[z];exact nit b u e
  ·exact nit c _ z
theorem Inv.tok (I:Inv X pins σ H s) (t:Nat):Inv X pins σ H {s with toks:=t}:=I.un (h':=s.heap) (t':=t) Un.refl I.hok
theorem Inv.kept {t':Nat} (I:Inv X pins σ H s) (k:∀b u,s.heap.get? b=some u->h'.get? b=some u):Inv X pins σ H {s with heap:=h',toks:=t'}:=I.un (Un.kept k) (I.hok.kept k)
theorem Inv.laid {a:Addr} {o:HO} {t':Nat} (I:Inv X pins σ H s) (k:∀b u,s.heap.get? b=some u->h'.get? b=some u) (hp:s.heap.objs.size<=a) (new:ObjOk X.prog X.w (upd H a o) h' a o) :
 Inv X pins σ (upd H a o) {s with heap:=h',toks:=t'}:=I.un (Un.laid k hp (I.hok.fresh hp)) (I.hok.laid k hp new)
theorem Inv.write {x e:Addr} {o:HO} {t':Nat} (I:Inv X pins σ H s) (mu:Mut (H x)) (he:e=x\/H e=some (.own x)) (k:∀b u,b≠e->s.heap.get? b=some u->h'.get? b=some u) (heo:∃u,h'.get? e=some u)
 (new:ObjOk X.prog X.w (upd H x o) h' x o):Inv X pins σ (upd H x o) {s with heap:=h',toks:=t'}:=I.un (Un.write mu he k heo) (I.hok.write mu he k heo new)
theorem Inv.pins_of {pins':List (Addr × Obj)} (I:Inv X pins σ H s) (h:∀p∈pins',s.heap.get? p.1=some p.2/\H p.1=none/\p.1≠X.env.locals/\p.1∉X.fs/\∀v,p.2.data≠.cell v):Inv X pins' σ H s :=
 ⟨I.ok,I.os,I.bare,I.base,I.loc,I.cell,I.free,I.freeC,fun p hp=>(xca.mp hp).elim (fun z=>I.pin p (xhk _ z)) (h p),I.hok,I.len,I.hnd⟩
theorem zky {N:List Str} (hN:N.Nodup) {i j:Nat} {x:Str} (a:N[i]?=some x) (b:N[j]?=some x):i=j:=by
 obtain ⟨h1,e1⟩:=xbn.mp a;obtain ⟨h2,e2⟩:=xbn.mp b;exact (List.getElem_inj hN).mp (e1.trans e2.symm)
theorem zff {M:Model} {A:Around} {E:Value->Shared->Prop} {i:Nat} {x:Str} {v:V} {u:Value} {Q:Unit->Shared->Prop} (I:Inv X pins σ H s) (hN:X.N.Nodup) (hi:X.N[i]?=some x) (hx:Loc X.env.scope x) (r:RelV v u)
  (h:∀s',Inv X pins (σ.set i (some v)) H s'->(∃a,Heap.SameBut a s.heap s'.heap/\(a=X.env.locals\/X.env.cells.lookup x=some a))->Q () s') (hf:X.fn x=true\/X.env.scope.names.lookup x=some .local:=by first | exact .inl rfl | exact .inr rfl | assumption):wpAny M A (storeName X.env x u) Q E s:=by
 obtain ⟨m,hn,hl⟩:=id I.loc;have hcls:(X.env.scope.kind == .class || (X.env.scope.kind == .module && X.env.locals != X.env.globals))=false:=by rw[I.ok.kind];rfl
 have hiσ:i < σ.length:=by rw[I.len];exact (xbn.mp hi).1
 have cne:=I.cne;have tracked:∀{a:Addr} {h':Heap},(∃o,s.heap.get? a=some o/\H a=none)->Heap.SameBut a s.heap h'->HOk X.prog X.w H h':=fun {a h'} ha hs b ob e=>by
  obtain ⟨_,_,hfree⟩:=ha;refine (I.hok b ob e).stay (fun c w' hc q=>(hs.2 c ?_).trans q) (fun _ q=>q) fun _ _ q=>q
  rintro rfl;rcases hc with rfl | hc
  ·rw[hfree] at e;cases e
  ·rw[hfree] at hc;cases hc
 rcases hx with hk | hk
 ·refine wpAny_storeName_local hk hn (fun h' hn' hs=>?_) hcls;obtain ⟨oL,_,_,hoL,_⟩:=id hn;refine h _ ⟨I.ok,I.os,I.bare,⟨fun b o e n hb hx=>?_,fun b o e n hb hx=>?_,I.base.free,fun b o e hx=>?_,I.base.tups,I.base.frzs,I.base.tbls⟩,⟨_,hn',fun j y v' e1 e2 e3=>?_⟩,fun y c e=>?_,I.free,I.freeC,fun p hp=>?_,tracked ⟨oL,hoL,I.free⟩ hs,by simpa using I.len,I.hnd⟩ ⟨_,hs,.inl rfl⟩
  ·exact (hs.2 b (xbv (xbf (xbl e) I.ok.above))).trans (I.base.keep b o e n hb hx)
  ·obtain ⟨sl,e1⟩:=I.base.slot b o e n hb hx;exact ⟨sl,(hs.2 b (xbv (xbf (xbl e) I.ok.above))).trans e1⟩
  ·obtain ⟨o',e1⟩:=I.base.there b o e hx;exact ⟨o',(hs.2 b (xbv (xbf (xbl e) I.ok.above))).trans e1⟩
  ·by_cases hj:j=i
   ·subst hj;rw[hi] at e1;cases e1
    rw[xfu hiσ] at e2;cases e2;exact ⟨u,r,.inl ⟨hk,by simp⟩⟩
   ·rw[xdt (xfc hj)] at e2;obtain ⟨u',r',q⟩:=hl j y v' e1 e2 e3;refine ⟨u',r',?_⟩;rcases q with ⟨k,e⟩ | ⟨k,c,e,z⟩
    ·refine .inl ⟨k,?_⟩;have:y≠x:=fun e=>hj (zky hN e1 (e ▸ hi))
     simp[this,e]
    ·exact .inr ⟨k,c,e,z.sameBut hs (cne y c e)⟩
  ·obtain ⟨w',z⟩:=I.cell y c e;exact ⟨w',z.sameBut hs (cne y c e)⟩
  ·obtain ⟨e,n,ne,nf,d⟩:=I.pin p hp;exact ⟨(hs.2 p.1 ne).trans e,n,ne,nf,d⟩
 ·have hfn:X.fn x=true:=by
   rcases hf with z | z
   ·exact z
   ·rw[z] at hk;cases hk
  obtain ⟨c,hc⟩:=I.ok.has x (.inl hk);obtain ⟨w',z⟩:=I.cell x c hc;refine wpAny_storeName_cell I.ok.kind hk hc z (fun h' hc' hs=>?_);obtain ⟨oc,hoc,hocd⟩:=id z;refine h {s with heap:=h'} ⟨I.ok,I.os,I.bare,⟨fun b o e n hb hx=>?_,fun b o e n hb hx=>?_,I.base.free,fun b o e hx=>?_,I.base.tups,I.base.frzs,I.base.tbls⟩,⟨m,hn.sameBut hs (xfc (cne x c hc)),fun j y v' e1 e2 e3=>?_⟩,fun y c' e=>?_,I.free,I.freeC,fun p hp=>?_,tracked ⟨oc,hoc,I.freeC x c hc⟩ hs,by simpa using I.len,I.hnd⟩ ⟨c,hs,.inr hc⟩
  ·exact (hs.2 b (xbv (xbf (xbl e) (I.ok.cab x c hfn hc)))).trans (I.base.keep b o e n hb hx)
  ·obtain ⟨sl,e1⟩:=I.base.slot b o e n hb hx;exact ⟨sl,(hs.2 b (xbv (xbf (xbl e) (I.ok.cab x c hfn hc)))).trans e1⟩
  ·obtain ⟨o',e1⟩:=I.base.there b o e hx;exact ⟨o',(hs.2 b (xbv (xbf (xbl e) (I.ok.cab x c hfn hc)))).trans e1⟩
  ·by_cases hj:j=i
   ·subst hj;rw[hi] at e1;cases e1
    rw[xfu hiσ] at e2;cases e2;exact ⟨u,r,.inr ⟨.inl hk,c,hc,hc'⟩⟩
   ·rw[xdt (xfc hj)] at e2;obtain ⟨u',r',q⟩:=hl j y v' e1 e2 e3;refine ⟨u',r',?_⟩;rcases q with q | ⟨k,c',e,z'⟩
    ·exact .inl q
    ·refine .inr ⟨k,c',e,z'.sameBut hs ?_⟩;rintro rfl;exact hj (zky hN e1 (I.ok.inj _ _ _ e hc ▸ hi))
  ·by_cases hcc:c'=c
   ·subst hcc;exact ⟨_,hc'⟩
   ·obtain ⟨w2,z2⟩:=I.cell y c' e;exact ⟨w2,z2.sameBut hs hcc⟩
  ·obtain ⟨e,n,ne,nf,d⟩:=I.pin p hp;refine ⟨(hs.2 p.1 ?_).trans e,n,ne,nf,d⟩;intro q;rw[q,hoc] at e;have q':oc=p.2:=xck e;exact d w' (by rw[← q'];exact hocd)
theorem zkd {M:Model} {A:Around} {E:Value->Shared->Prop} {i:Nat} {x:Str} {v:V} {u:Value} {Q:Unit->Shared->Prop} (I:Inv X pins σ H s) (hN:X.N.Nodup) (hi:X.N[i]?=some x) (hx:Loc X.env.scope x) (r:RelV v u)
  (h:∀s',Inv X pins (σ.set i (some v)) H s'->Q () s') (hf:X.fn x=true\/X.env.scope.names.lookup x=some .local:=by first | exact .inl rfl | exact .inr rfl | assumption):wpAny M A (storeName X.env x u) Q E s :=
 zff I hN hi hx r (fun s' I' _=>h s' I') hf
theorem Inv.call' {s':Shared} {ch:List Addr} (I:Inv X pins σ H s) (ho:s'.os=s.os) (u:Un (frs X.stack) ch H H' s.heap s'.heap) (hok:HOk X.prog X.w H' s'.heap) (hg:AllBare s'.gens)
  (hch:∀b∈ch,(b∈X.ex\/X.s₀.heap.objs.size<=b)/\b≠X.env.locals/\(∀x c,X.env.cells.lookup x=some c->c≠b)/\∀p∈X.pn++pins,p.1≠b):Inv X pins σ H' s':=by
 obtain ⟨h',g',d',t',o'⟩:=s';have e:o'=s.os:=ho;subst e;exact I.call (g':=g') (t':=t') (d':=d') u hok hg hch
end
abbrev XK:=Value->Option Addr->Hp->Prop
abbrev St:=List (Option V)
abbrev VK:=V->Hp->Prop
abbrev TE:=St->Hp->VK->Prop
abbrev TT:=St->Hp->(Bool->Hp->Prop)->Prop
abbrev TA:=St->Hp->(List V->Hp->Prop)->Prop
structure Ends where
 nx:St->Hp->Prop
 rt:VK
 bk:St->Hp->Prop:=fun _ _=>False
 ct:St->Hp->Prop:=fun _ _=>False
abbrev TS:=Ends->St->Hp->Prop
def EP (X:Cx) (pins:List (Addr × Obj)) (σ:St) (Q:VK) (u:Value) (s':Shared):Prop:=∃v H',Inv X pins σ H' s'/\RelV v u/\Q v H'
def TP (X:Cx) (pins:List (Addr × Obj)) (σ:St) (Q:Bool->Hp->Prop) (b:Bool) (s':Shared):Prop:=∃H',Inv X pins σ H' s'/\Q b H'
def AP (X:Cx) (pins:List (Addr × Obj)) (σ:St) (Q:List V->Hp->Prop) (us:List Value) (s':Shared):Prop:=∃vs H',Inv X pins σ H' s'/\Vals vs us/\Q vs H'
def SP (X:Cx) (pins:List (Addr × Obj)) (D:Ends) (f:Flow) (s':Shared):Prop :=
 match f with
 | .next=>∃σ' H',Inv X pins σ' H' s'/\D.nx σ' H'
 | .brk=>∃σ' H',Inv X pins σ' H' s'/\D.bk σ' H'
 | .cont=>∃σ' H',Inv X pins σ' H' s'/\D.ct σ' H'
 | .ret u=>∃v σ' H',Inv X pins σ' H' s'/\RelV v u/\D.rt v H'
def PE (X:Cx) (e:Expr) (t:TE):Prop :=
 ∀(pins:List (Addr × Obj)) (s:Shared) (σ:St) (H:Hp) (Q:VK),Inv X pins σ H s->t σ H Q->wpAny (model X.prog X.w) X.A (eval e X.env) (EP X pins σ Q) X.xe s
def PT (X:Cx) (e:Expr) (t:TT):Prop :=
 ∀(pins:List (Addr × Obj)) (s:Shared) (σ:St) (H:Hp) (Q:Bool->Hp->Prop),Inv X pins σ H s->t σ H Q->wpAny (model X.prog X.w) X.A (isTrue e X.env (eval e X.env)) (TP X pins σ Q) X.xe s
def PW (X:Cx) (e:Expr) (t:TT):Prop :=
 ∀(whole:Sem Value) (pins:List (Addr × Obj)) (s:Shared) (σ:St) (H:Hp) (Q:Bool->Hp->Prop),Inv X pins σ H s->t σ H Q->wpAny (model X.prog X.w) X.A (isTrue e X.env whole) (TP X pins σ Q) X.xe s
theorem PW.pt {X:Cx} {e:Expr} {t:TT} (h:PW X e t):PT X e t:=h _
def PA (X:Cx) (es:List Expr) (t:TA):Prop :=
 ∀(pos:Pos) (pins:List (Addr × Obj)) (s:Shared) (σ:St) (H:Hp) (Q:List V->Hp->Prop),Inv X pins σ H s->t σ H Q->wpAny (model X.prog X.w) X.A (spliced (backTo pos (starEach es X.env))) (AP X pins σ Q) X.xe s
def PS (X:Cx) (st:Stmt) (t:TS):Prop :=
 ∀(pins:List (Addr × Obj)) (s:Shared) (σ:St) (H:Hp) (D:Ends),Inv X pins σ H s->t D σ H->wpAny (model X.prog X.w) X.A (exec st X.env) (SP X pins D) X.xe s
def PSs (X:Cx) (st:List Stmt) (t:TS):Prop :=
 ∀(pins:List (Addr × Obj)) (s:Shared) (σ:St) (H:Hp) (D:Ends),Inv X pins σ H s->t D σ H->wpAny (model X.prog X.w) X.A (execs st X.env) (SP X pins D) X.xe s
theorem thn {α:Type} {t:Sem α} {Q Q':α->Shared->Prop} {M:Model} {A:Around} {E:Value->Shared->Prop} {s:Shared} (h:wpAny M A t Q E s) (hQ:∀a s,Q a s->Q' a s):wpAny M A t Q' E s:=xdq h hQ fun _ _ x=>x
section
variable {X:Cx}
def tVar (i:Nat):TE:=fun σ H Q=>∃v,σ[i]?=some (some v)/\Q v H
def tC (v:V):TE:=fun _ H Q=>Q v H
theorem zzn {i : Nat} {x : Str} {pos : Pos} (hN : X.N[i]? = some x) (hv : Vis X.env.scope x) (hd : (x == ("__debug__" : Str)) = false := by decide) (hcd : (x == ("__classdict__" : Str)) = false := by decide) : PE X (.Name x pos) (tVar i) := by
 intro pins s σ H Q I h;obtain ⟨v,e,h⟩:=h;obtain ⟨m,hn,hl⟩:=I.loc;obtain ⟨u,r,l⟩:=hl i x v hN e hv;have fin:EP X pins σ Q u s:=⟨v,H,I,r,h⟩
 rcases l with ⟨hk,hm⟩ | ⟨hk,c,hc,hcell⟩
 ·exact wpAny_Name (wpAny_loadName_local I.ok.kind hk hn hm fin) hd
 ·rcases hk with hk | hk
  ·exact wpAny_Name (wpAny_loadName_cell I.ok.kind hk hc hcell fin) hd
  ·exact wpAny_Name (wpAny_loadName_free I.ok.kind hk hc hcell fin hcd) hd
theorem zzp {i j pos}:PE X (.Constant (.int i) j pos) (tC (.int i)):=fun _ _ _ H _ I h=>wpAny_Constant_int ⟨.int i,H,I.tok _,⟨_,rfl⟩,h⟩
theorem zbdu {b j pos}:PE X (.Constant (.bool b) j pos) (tC (.bl b)):=fun _ _ _ H _ I h=>Constant_bool ⟨.bl b,H,I,rfl,h⟩
def Gl (X:Cx) (x:Str):Prop:=X.env.kindOf x=some .globalImplicit
theorem zvp {E:Value->Shared->Prop} {pins:List (Addr × Obj)} {s:Shared} {σ:St} {H:Hp} {x:Str} {u:Value} {pos:Pos} {Q:Value->Shared->Prop} (I:Inv X pins σ H s) (hg:Gl X x) (hm:X.mg x=some u) (h:Q u s)
  (hd : (x == ("__debug__" : Str)) = false := by decide) : wpAny (model X.prog X.w) X.A (eval (.Name x pos) X.env) Q E s :=
 Calls.Name_function_global I.ok.kind hg (Calls.loadGlobal_global (by rw[I.ok.glob];exact I.mod.glob.keeps I.bk) hm h) hd
theorem zlh {E:Value->Shared->Prop} {pins:List (Addr × Obj)} {s:Shared} {σ:St} {H:Hp} {x:Str} {u:Value} {pos:Pos} {Q:Value->Shared->Prop} (I:Inv X pins σ H s) (hg:Gl X x) (hm:X.mg x=none) (hv:bootBuiltins x=some u) (h:Q u s)
  (hn : x ≠ "__name__" := by decide) (hd : (x == ("__debug__" : Str)) = false := by decide) : wpAny (model X.prog X.w) X.A (eval (.Name x pos) X.env) Q E s := by
 obtain ⟨mb,h1,h2⟩:=I.mod.blt;exact Calls.Name_function_global I.ok.kind hg (Calls.loadGlobal_builtin (by rw[I.ok.glob];exact I.mod.glob.keeps I.bk) hm (by rw[I.ok.blt];exact h1.keeps I.bk) ((h2 x hn).trans hv) h) hd
theorem zpc {x : Str} {v : V} {u : Value} {pos : Pos} (hg : Gl X x) (hm : X.mg x = none) (hv : bootBuiltins x = some u) (r : RelV v u) (hn : x ≠ "__name__" := by decide) (hd : (x == ("__debug__" : Str)) = false := by decide) : PE X (.Name x pos) (tC v) :=
 fun _ _ _ H _ I h=>zlh I hg hm hv ⟨v,H,I,r,h⟩ hn hd
variable {a b:Expr} {ta tb:TE} {pos:Pos}
variable {tA tB':TT} {rest:List Expr}
def tAnd (t u:TT):TT:=fun σ H Q=>t σ H fun c H1=>if c=true then u σ H1 Q else Q false H1
def tOr (t u:TT):TT:=fun σ H Q=>t σ H fun c H1=>if c=true then Q true H1 else u σ H1 Q
def tNot (t:TT):TT:=fun σ H Q=>t σ H fun c H1=>Q (!c) H1
theorem pw_and1 (ha:PT X a tA):PW X (.BoolOp .And [a] pos) tA:=by
 intro wh pins s σ H Q I h;refine isTrue_and (thn (ha pins s σ H Q I h) fun c s1 e=>?_);cases c with
 | true=>exact isTrue_and_nil e
 | false=>exact e
theorem pw_or1 (ha:PT X a tA):PW X (.BoolOp .Or [a] pos) tA:=by
 intro wh pins s σ H Q I h;refine isTrue_or (thn (ha pins s σ H Q I h) fun c s1 e=>?_);cases c with
 | false=>exact isTrue_or_nil e
 | true=>exact e
theorem pw_and (ha:PT X a tA) (hb:PW X (.BoolOp .And (b::rest) pos) tB'):PW X (.BoolOp .And (a::b::rest) pos) (tAnd tA tB'):=by
 intro wh pins s σ H Q I h;refine isTrue_and (thn (ha pins s σ H _ I h) fun c s1 hq0=>?_);obtain ⟨H1,I1,q1⟩:=hq0;cases c with
 | true=>exact hb wh pins s1 σ H1 Q I1 q1
 | false=>exact ⟨H1,I1,q1⟩
theorem pw_or (ha:PT X a tA) (hb:PW X (.BoolOp .Or (b::rest) pos) tB'):PW X (.BoolOp .Or (a::b::rest) pos) (tOr tA tB'):=by
 intro wh pins s σ H Q I h;refine isTrue_or (thn (ha pins s σ H _ I h) fun c s1 hq0=>?_);obtain ⟨H1,I1,q1⟩:=hq0;cases c with
 | true=>exact ⟨H1,I1,q1⟩
 | false=>exact hb wh pins s1 σ H1 Q I1 q1
theorem zzf (ha:PT X a tA):PT X (.UnaryOp .Not a pos) (tNot tA):=by
 intro pins s σ H Q I h;exact isTrue_not (ha pins s σ H (fun c H1=>Q (!c) H1) I h)
end
def SqL (K:Fg) (H:Hp) (a:Addr) (xs:List V):Prop :=
 Rd H a (.lst xs) \/
  ∃ (o : Obj) (its : Array Value) (n : Nat), K.lookup a = some o /\ o.cls = .type "list" /\ o.dict = none /\ o.data = .seq its n /\ its.size <= sizeLine /\ Vals xs its.toList
def SqT (K:Fg) (H:Hp) (a:Addr) (xs:List V):Prop :=
 Rd H a (.tup xs) \/
  ∃ (o : Obj) (its : Array Value) (n : Nat), K.lookup a = some o /\ o.cls = .type "tuple" /\ o.data = .seq its n /\ its.size <= sizeLine /\ Vals xs its.toList
def absV:Value->Option V
 | .none=>some .non
 | .bool b=>some (.bl b)
 | .int i _=>some (.int i)
 | .str x _=>some (.str x)
 | .bytes b _=>some (.byt b)
 | .float b _=>some (.flt b)
 | .ref a=>some (.ref a)
 | .type n=>some (.ty n)
 | _=>none
theorem RelV.abs {x:V} {u:Value} (r:RelV x u):absV u=some x:=by
 cases x with
 | non=>cases r;rfl
 | bl _=>cases r;rfl
 | int _=>obtain ⟨t,rfl⟩:=r;rfl
 | str _=>obtain ⟨t,rfl⟩:=r;rfl
 | byt _=>obtain ⟨t,rfl⟩:=r;rfl
 | flt _=>obtain ⟨t,rfl⟩:=r;rfl
 | ref _=>cases r;rfl
 | ty _=>cases r;rfl
theorem RelV.inj {x y:V} {u:Value} (r:RelV x u) (q:RelV y u):x=y:=xck (r.abs.symm.trans q.abs)
theorem Vals.inj:∀{xs ys:List V} {us:List Value},Vals xs us->Vals ys us->xs=ys
 | _,_,_,.nil,.nil=>rfl
 | _,_,_,.cons r t,.cons r' t'=>by rw[r.inj r',Vals.inj t t']
section
variable {X:Cx} {pins:List (Addr × Obj)} {σ:St} {H:Hp} {s:Shared} {a:Addr} {xs ys:List V}
theorem SqL.of {K:Fg} (h:H a=some (.lst xs)):SqL K H a xs:=.inl (.inl h)
theorem SqT.of {K:Fg} (h:H a=some (.tup xs)):SqT K H a xs:=.inl (.inl h)
theorem Inv.list (I:Inv X pins σ H s) (h:SqL X.K H a xs):∃its:List Value,Vals xs its/\PlainL s.heap a its.toArray/\xs.length<=sizeLine:=by
 rcases h with h | ⟨o,its,n,hk,hc,hd,hs,hz,r⟩
 ·obtain ⟨z,its,n,r,e⟩:=h.ok I.hok;exact ⟨its,r,⟨_,n,e,rfl,rfl,rfl⟩,z⟩
 ·refine ⟨its.toList,r,⟨o,n,I.kIn a o hk,hc,hd,by simpa using hs⟩,?_⟩;have e:=r.length;simp only[xbq] at e;lia
theorem Inv.tuple (I:Inv X pins σ H s) (h:SqT X.K H a xs):∃its:List Value,Vals xs its/\IsTup s.heap a its.toArray/\xs.length<=sizeLine:=by
 rcases h with h | ⟨o,its,n,hk,hc,hs,hz,r⟩
 ·obtain ⟨z,its,r,p⟩:=h.ok I.hok;exact ⟨its,r,p,z⟩
 ·refine ⟨its.toList,r,⟨o,I.kIn a o hk,hc,n,by simpa using hs⟩,?_⟩;have e:=r.length;simp only[xbq] at e;lia
theorem Inv.list_inj (I:Inv X pins σ H s) (h:SqL X.K H a xs) (h':SqL X.K H a ys):xs=ys:=by
 obtain ⟨its,r,⟨o,n,e,_,_,d⟩,_⟩:=I.list h;obtain ⟨its',r',⟨o',n',e',_,_,d'⟩,_⟩:=I.list h';rw[e] at e';cases e'
 rw[d] at d';injection d' with d1 _
 have:its=its':=by simpa using congrArg Array.toList d1
 subst this;exact r.inj r'
theorem Inv.tuple_inj (I:Inv X pins σ H s) (h:SqT X.K H a xs) (h':SqT X.K H a ys):xs=ys:=by
 obtain ⟨its,r,⟨o,e,_,n,d⟩,_⟩:=I.tuple h;obtain ⟨its',r',⟨o',e',_,n',d'⟩,_⟩:=I.tuple h';rw[e] at e';cases e'
 rw[d] at d';injection d' with d1 _
 have:its=its':=by simpa using congrArg Array.toList d1
 subst this;exact r.inj r'
end
abbrev Cx.wish (X:Cx) (E:Value->Shared->Prop):Cx:={X with xe:=E}
abbrev Cx.nox (X:Cx):Cx:=X.wish fun _ _=>False
theorem Cx.Ok.wish {X:Cx} (ok:X.Ok) (E:Value->Shared->Prop):(X.wish E).Ok :=
 ⟨ok.mod,ok.kind,ok.glob,ok.blt,ok.above,ok.inj,ok.has,ok.cab,ok.hd,ok.frames,ok.stk,ok.exf,ok.bs,ok.bsz,ok.noex,ok.exfs,ok.funs,ok.frf⟩
theorem Cx.Ok.unwish {X:Cx} {E:Value->Shared->Prop} (ok:(X.wish E).Ok):X.Ok :=
 ⟨ok.mod,ok.kind,ok.glob,ok.blt,ok.above,ok.inj,ok.has,ok.cab,ok.hd,ok.frames,ok.stk,ok.exf,ok.bs,ok.bsz,ok.noex,ok.exfs,ok.funs,ok.frf⟩
section
variable {X:Cx} {pins:List (Addr × Obj)} {σ:St} {H:Hp} {s:Shared} {E:Value->Shared->Prop}
theorem Inv.wish (I:Inv X pins σ H s) (E:Value->Shared->Prop):Inv (X.wish E) pins σ H s:=⟨I.ok.wish E,I.os,I.bare,I.base,I.loc,I.cell,I.free,I.freeC,I.pin,I.hok,I.len,I.hnd⟩
theorem Inv.unwish (I:Inv (X.wish E) pins σ H s):Inv X pins σ H s:=⟨I.ok.unwish,I.os,I.bare,I.base,I.loc,I.cell,I.free,I.freeC,I.pin,I.hok,I.len,I.hnd⟩
theorem SP.unwish {D:Ends} {f:Flow} {s':Shared} (h:SP (X.wish E) pins D f s'):SP X pins D f s':=by
 cases f with
 | next=>obtain ⟨σ',H',I,q⟩:=h;exact ⟨σ',H',I.unwish,q⟩
 | brk=>obtain ⟨σ',H',I,q⟩:=h;exact ⟨σ',H',I.unwish,q⟩
 | cont=>obtain ⟨σ',H',I,q⟩:=h;exact ⟨σ',H',I.unwish,q⟩
 | ret u=>obtain ⟨v,σ',H',I,r,q⟩:=h;exact ⟨v,σ',H',I.unwish,r,q⟩
theorem PSs.nox {st:List Stmt} {t:TS} (h:PSs X.nox st t):PSs X st t:=fun pins s σ H D I hw =>
 xdq (h pins s σ H D (I.wish _) hw) (fun _ _ q=>q.unwish) fun _ _ z=>False.elim z
end
section
variable {X:Cx} {st:Stmt} {rest:List Stmt} {t u:TS} {e:Expr} {te:TE} {pos:Pos}
def tNext:TS:=fun D σ H=>D.nx σ H
def tSeq (t u:TS):TS:=fun D σ H=>t {D with nx:=u D} σ H
theorem zuf:PSs X [] tNext:=fun _ _ σ H _ I h=>xjl ⟨σ,H,I,h⟩
theorem zqo (h1:PS X st t) (h2:PSs X rest u):PSs X (st::rest) (tSeq t u):=by
 intro pins s σ H D I h;refine wpAny_execs_cons (thn (h1 pins s σ H {D with nx:=u D} I h) fun f s1 q=>?_);cases f with
 | next =>
  obtain ⟨σ',H',I',q⟩:=q;exact h2 pins s1 σ' H' D I' q
 | ret v=>exact q
 | brk=>exact q
 | cont=>exact q
theorem zue (h1:PS X st t):PSs X [st] t:=by
 intro pins s σ H D I h;refine wpAny_execs_cons (thn (h1 pins s σ H D I h) fun f s1 q=>?_);cases f with
 | next=>exact xjl q
 | ret v=>exact q
 | brk=>exact q
 | cont=>exact q
theorem Inv.quiet {pins:List (Addr × Obj)} {σ:St} {H:Hp} {s:Shared} (I:Inv X pins σ H s):interactive X.env=false:=by simp[interactive,I.ok.kind]
def tDrop (te:TE):TS:=fun D σ H=>te σ H fun _ H1=>D.nx σ H1
theorem zug (he:PE X e te) (hs:swapsWith e none pos.line X.env=pure false:=by rfl):PS X (.Expr e pos) (tDrop te):=by
 intro pins s σ H D I h;exact wpAny_Expr_any (thn (he pins s σ H _ I h) fun v s1 ⟨x,H1,I1,r1,q1⟩=>⟨σ,H1,I1,q1⟩) I.quiet hs
def tRet (te:TE):TS:=fun D σ H=>te σ H D.rt
theorem zzh (he:PE X e te):PS X (.Return (some e) pos) (tRet te):=by
 intro pins s σ H D I h;exact wpAny_Return_some (thn (he pins s σ H _ I h) fun v s1 ⟨x,H1,I1,r1,q1⟩=>⟨x,σ,H1,I1,r1,q1⟩)
def tIfS (c:TT) (t u:TS):TS:=fun D σ H=>c σ H fun b H1=>if b=true then t D σ H1 else u D σ H1
theorem zbdn {c:Expr} {a b:List Stmt} {tc:TT} (hc:PT X c tc) (ha:PSs X a t) (hb:PSs X b u):PS X (.If c a b pos) (tIfS tc t u):=by
 intro pins s σ H D I h;refine wpAny_If (thn (hc pins s σ H _ I h) fun d s1 hq0=>?_);obtain ⟨H1,I1,q1⟩:=hq0;cases d with
 | true=>exact ha pins s1 σ H1 D I1 q1
 | false=>exact hb pins s1 σ H1 D I1 q1
end
abbrev TG:=V->St->Hp->(St->Hp->Prop)->Prop
def PG (X:Cx) (target:Expr) (t:TG):Prop :=
 ∀(pins:List (Addr × Obj)) (s:Shared) (σ:St) (H:Hp) (v:V) (u:Value) (Q:St->Hp->Prop),Inv X pins σ H s->RelV v u->t v σ H Q ->
  wpAny (model X.prog X.w) X.A (assign target X.env u) (fun _ s'=>∃σ' H',Inv X pins σ' H' s'/\Q σ' H') X.xe s
abbrev TSet:=V->V->V->Hp->(Hp->Prop)->Prop
def PSet (X:Cx) (t:TSet):Prop :=
 ∀(pins:List (Addr × Obj)) (s:Shared) (σ:St) (H:Hp) (o i v:V) (ov iv u:Value) (Q:Hp->Prop),Inv X pins σ H s->RelV o ov->RelV i iv->RelV v u->t o i v H Q ->
  wpAny (model X.prog X.w) X.A (setItem ov iv u) (fun _ s'=>∃H',Inv X pins σ H' s'/\Q H') X.xe s
section
variable {X:Cx} {pos:Pos}
def gName (i:Nat):TG:=fun v σ H Q=>Q (σ.set i (some v)) H
theorem zuo {i:Nat} {x:Str} (hN:X.N.Nodup) (hi:X.N[i]?=some x) (hx:Loc X.env.scope x) (hf:X.fn x=true\/X.env.scope.names.lookup x=some .local:=by first | exact .inl rfl | exact .inr rfl | assumption):PG X (.Name x pos) (gName i):=by
 intro pins s σ H v u Q I r h;exact xkj (zkd I hN hi hx r (fun s' I'=>⟨_,H,I',h⟩) hf)
def gSub (to ti:TE) (t:TSet):TG:=fun v σ H Q=>to σ H fun o H1=>ti σ H1 fun i H2=>t o i v H2 fun H3=>Q σ H3
theorem zzm {o i:Expr} {to ti:TE} {t:TSet} (ho:PE X o to) (hi:PE X i ti) (hs:PSet X t)
  (ha:∀v,assign (.Subscript o i pos) X.env v=(do
   let ov ← holding [v] (eval o X.env)
   let iv ← holding [v,ov] (eval i X.env)
   standAt pos
   holding [v,ov,iv] (setItem ov iv v)
   release [v,ov,iv] []):=by intro _;rfl):PG X (.Subscript o i pos) (gSub to ti t):=by
 intro pins s σ H v u Q I r h;rw[ha];refine xba (xds (thn (ho pins s σ H _ I h) fun ov s1 hq0=>?_));obtain ⟨x,H1,I1,r1,q1⟩:=hq0;refine xba (xds (thn (hi pins s1 σ H1 _ I1 q1) fun iv s2 hq0=>?_));obtain ⟨y,H2,I2,r2,q2⟩:=hq0;refine xba (xkc (xba (xds (thn (hs pins s2 σ H2 x y v ov iv u _ I2 r1 r2 r q2) fun _ s3 hq0=>?_))));obtain ⟨H3,I3,q3⟩:=hq0;exact wpAny_release ⟨σ,H3,I3,q3⟩
def tAsg (te:TE) (g:TG):TS:=fun D σ H=>te σ H fun x H1=>g x σ H1 D.nx
theorem zzj {tg e:Expr} {te:TE} {g:TG} (he:PE X e te) (hg:PG X tg g) (hs:swapsWithSole [tg] e pos.line X.env=pure false:=by rfl) (hw:swappedStores [tg] e X.env=pure none:=by rfl)
  (h1:(assignEach [tg] X.env).map (·.2)=[assign tg X.env]:=by rfl):PS X (.Assign [tg] e pos) (tAsg te g):=by
 intro pins s σ H D I h;refine wpAny_Assign_stores (thn (he pins s σ H _ I h) fun v s1 hq0=>?_) hs hw;obtain ⟨x,H1,I1,r1,q1⟩:=hq0;rw[h1];exact thn (hg pins s1 σ H1 x v _ I1 r1 q1) fun _ s2 q=>q
theorem zzg {i:Nat} {x:Str} {e:Expr} {te:TE} {pos':Pos} (hN:X.N.Nodup) (hi:X.N[i]?=some x) (hx:Loc X.env.scope x) (he:PE X e te) (hs:swapsWith e (some (.Name x pos')) pos.line X.env=pure false:=by rfl) (hf:X.fn x=true\/X.env.scope.names.lookup x=some .local:=by first | exact .inl rfl | exact .inr rfl | assumption) :
  PS X (.Assign [.Name x pos'] e pos) (tAsg te (gName i)):=by
 intro pins s σ H D I h;refine wpAny_Assign_Name (thn (he pins s σ H _ I h) fun v s1 hq0=>?_) hs;obtain ⟨y,H1,I1,r1,q1⟩:=hq0;exact zkd I1 hN hi hx r1 (fun s2 I2=>⟨_,H1,I2,q1⟩) hf
def tWhile (c:TT) (tb:TS):TS:=fun D σ H=>∃W:Nat->St->Hp->Prop,(∃m,W m σ H)/\∀m σ H,W m σ H ->
 c σ H fun b H1=>if b=true then ∃N:St->Hp->Prop,(∀σ' H',N σ' H'->∃m',m' < m/\W m' σ' H')/\tb {D with nx:=N,ct:=N,bk:=D.nx} σ H1 else D.nx σ H1
theorem zqp {c:Expr} {body:List Stmt} {tc:TT} {tb:TS} (hp:PassesOwn (model X.prog X.w) X.A X.env X.xe) (hc:PT X c tc) (hb:PSs X body tb):PS X (.While c body [] pos) (tWhile tc tb):=by
 intro pins s σ H D I h;obtain ⟨W,⟨m0,w0⟩,turn⟩:=h;refine wpAny_While (codeAny_whileLoop (fun n s'=>∃σ' H',Inv X pins σ' H' s'/\W n σ' H') ?_ m0 ⟨σ,H,I,w0⟩);rintro n s1 ⟨σ1,H1,I1,w1⟩;refine xge hp (thn (hc pins s1 σ1 H1 _ I1 (turn n σ1 H1 w1)) fun b s2 hq0=>?_);obtain ⟨H2,I2,q2⟩:=hq0;cases b with
 | true =>
  obtain ⟨N,hN,q2⟩:=q2;rw[if_pos rfl];refine xge hp (thn (hb pins s2 σ1 H2 _ I2 q2) fun f s3 q3=>?_);cases f with
  | next =>
   obtain ⟨σ3,H3,I3,n3⟩:=q3;obtain ⟨m',hm,w3⟩:=hN σ3 H3 n3;exact ⟨m',hm,σ3,H3,I3,w3⟩
  | cont =>
   obtain ⟨σ3,H3,I3,n3⟩:=q3;obtain ⟨m',hm,w3⟩:=hN σ3 H3 n3;exact ⟨m',hm,σ3,H3,I3,w3⟩
  | brk=>exact q3
  | ret v=>exact q3
 | false =>
  rw[if_neg xfd];exact xjl ⟨σ1,H2,I2,q2⟩
end
structure It where
 go:Nat->Hp->Prop
 yld:Nat->Hp->V->Hp->Prop
 stop:Nat->Hp->Prop
def FpOk (X:Cx) (pins:List (Addr × Obj)) (H:Hp) (b:Addr):Prop :=
 H b=none/\b≠X.env.locals/\b∉X.fs/\(b∈X.ex\/X.s₀.heap.objs.size<=b)/\(∀x c,X.env.cells.lookup x=some c->c≠b)/\∀p∈X.pn++pins,p.1≠b
theorem Inv.fpOk {X:Cx} {pins:List (Addr × Obj)} {σ:St} {H H':Hp} {s:Shared} {b:Addr} (I:Inv X pins σ H s) (hb:s.heap.objs.size<=b) (hn:H' b=none):FpOk X pins H' b:=by
 refine ⟨hn,xgj (xbf I.lt hb),I.nofs hb,.inr (xbb I.sz hb),fun x c e z=>?_,fun p hp z=>?_⟩
 ·obtain ⟨v,q⟩:=I.cell x c e;exact absurd (xbf q.lt (by rw[z];exact hb)) (xez _)
 ·exact absurd (xbf (xbl (I.pin p hp).1) (by rw[z];exact hb)) (xez _)
structure Turn (P:Program) (w:World) (K:Fg) (tg:Expr) (J:It) (fp:List Addr) (it:Addr) (tn:Nat->Heap->Prop):Prop where
 mem:it∈fp
 obj:∀i h,tn i h->∀b∈fp,∃o,h.get? b=some o/\∀v,o.data≠.cell v
 keep:∀i h h',tn i h->(∀b∈fp,∀o,h.get? b=some o->h'.get? b=some o)->tn i h'
 item:∀(X:Cx),X.prog=P->X.w=w->X.K=K->X.calm=true->∀(i:Nat) (pins:List (Addr × Obj)) (s:Shared) (σ:St) (H:Hp) (E:Value->Shared->Prop),Inv X pins σ H s->(∀b∈fp,FpOk X pins H b)->tn i s.heap->J.go i H ->
  wpAny (model P w) X.A (pyNext (.ref it)) (fun r s1=>∃u,r=some u /\
   wpAny (model P w) X.A (letOwnedTupleGo tg (.ref it) u) (fun _ s2=>∃x H',Inv X pins σ H' s2/\RelV x u/\J.yld i H x H'/\tn (i+1) s2.heap/\∀b∈fp,H' b=none) E s1) E s
 done:∀(X:Cx),X.prog=P->X.w=w->X.K=K->X.calm=true->∀(i:Nat) (pins:List (Addr × Obj)) (s:Shared) (σ:St) (H:Hp) (E:Value->Shared->Prop),Inv X pins σ H s->(∀b∈fp,FpOk X pins H b)->tn i s.heap->J.stop i H ->
  wpAny (model P w) X.A (pyNext (.ref it)) (fun r s1=>r=none/\Inv X pins σ H s1) E s
 self:∀(A:Around) (i:Nat) (s:Shared) (Q:Value->Shared->Prop) (E:Value->Shared->Prop),tn i s.heap->Q (.ref it) s->wpAny (model P w) A (pyIter (.ref it)) Q E s
abbrev TI:=St->Hp->(It->Hp->Prop)->Prop
def PIE (X:Cx) (pins:List (Addr × Obj)) (σ:St) (tg:Expr) (R:It->Hp->Prop) (itv:Value) (s2:Shared):Prop :=
 ∃(it:Addr) (fp:List Addr) (tn:Nat->Heap->Prop) (J:It) (H':Hp),itv=.ref it/\Inv X pins σ H' s2/\Turn X.prog X.w X.K tg J fp it tn/\tn 0 s2.heap/\(∀b∈fp,FpOk X pins H' b)/\R J H'
def PI (X:Cx) (tg iter:Expr) (wi:TI):Prop :=
 ∀(pins:List (Addr × Obj)) (s:Shared) (σ:St) (H:Hp) (R:It->Hp->Prop),Inv X pins σ H s->wi σ H R ->
  wpAny (model X.prog X.w) X.A (eval iter X.env) (fun v s1=>wpAny (model X.prog X.w) X.A (pyIter v) (PIE X pins σ tg R) X.xe s1) X.xe s
theorem zyj {M : Model} {A : Around} {E : Value -> Shared -> Prop} {s : Shared} {tg : Expr} {it : Addr} {u : Value} {o : Obj} {n : String} {vs : Array Value} {Q : Unit -> Shared -> Prop} (ho : s.heap.get? it = some o) (hc : o.cls = .type n) (hd : o.data = .fields vs)
    (hn : ["enumerate", "zip", "dict_itemiterator", "dict_reverseitemiterator", "odict_iterator", "itertools.zip_longest", "itertools.pairwise"].contains n = false) (hQ : Q () s) : wpAny M A (letOwnedTupleGo tg (.ref it) u) Q E s := by
  unfold letOwnedTupleGo;cases tg <;> first
    | exact xbc hQ
    | (cases u <;> first
        | exact xbc hQ
        | (refine xba (wpAny_load ho ?_)
           rw [hc, hd];show wpAny M A (if (["enumerate", "zip", "dict_itemiterator", "dict_reverseitemiterator", "odict_iterator", "itertools.zip_longest", "itertools.pairwise"].contains n && vs[0]? == some (rawInt _)) = true then _ else _) Q E s
           rw [if_neg (by intro h; rw [hn, Bool.false_and] at h; cases h)]
           exact xbc hQ))
def Itl (K:Fg) (a:Addr):It :=
 ⟨fun i H=>∃xs x,SqL K H a xs/\xs[i]?=some x,fun i H x H'=>H'=H/\∀xs,SqL K H a xs->xs[i]?=some x,fun i H=>∃xs,SqL K H a xs/\xs.length<=i⟩
def Itt (K:Fg) (a:Addr):It :=
 ⟨fun i H=>∃xs x,SqT K H a xs/\xs[i]?=some x,fun i H x H'=>H'=H/\∀xs,SqT K H a xs->xs[i]?=some x,fun i H=>∃xs,SqT K H a xs/\xs.length<=i⟩
def Itr (lo:Int) (n:Nat):It:=⟨fun i _=>i < n,fun i H x H'=>H'=H/\x=.int (lo+i),fun i _=>n<=i⟩
theorem zmw {P:Program} {w:World} {K:Fg} {tg:Expr} (a it:Addr):Turn P w K tg (Itl K a) [it] it (fun i h=>h.IsListIter it a i) where
 mem:=by simp
 obj:=fun i h st b hb=>by
  have e:b=it:=by simpa using hb
  subst e;obtain ⟨o,e,c,d⟩:=st;exact ⟨o,e,fun v z=>by rw[d] at z;cases z⟩
 keep:=fun i h h' st k=>st.at fun o e=>k it (by simp) o e
 item:=by
  intro X hP hw hK hc i pins s σ H E I hf st hg;subst hP hw hK;obtain ⟨xs,x,hq,hx⟩:=hg;obtain ⟨its,rv,p,hz⟩:=I.list hq;obtain ⟨u,hu,ru⟩:=rv.get hx;obtain ⟨f0,f1,f2,f3,f4,f5⟩:=hf it (by simp);refine wpAny_pyNext_list_item st p.isList (x:=u) (by simpa using hu) fun h' st' sb=>?_
  have I1:Inv X pins σ H {s with heap:=h'}:=I.turned (t':=s.toks) (fun b o hb e=>(sb.2 b hb).trans e) f0 f1 f3 f4 f5;obtain ⟨o,e,c,d⟩:=id st';exact ⟨u,rfl,zyj (s:={s with heap:=h'}) e c d (by decide) ⟨x,H,I1,ru,⟨rfl,fun ys hy=>by rw[I.list_inj hy hq];exact hx⟩,st',fun b hb=>(hf b hb).1⟩⟩
 done:=by
  intro X hP hw hK hc i pins s σ H E I hf st hg;subst hP hw hK;obtain ⟨xs,hq,hx⟩:=hg;obtain ⟨its,rv,p,hz⟩:=I.list hq;obtain ⟨f0,f1,f2,f3,f4,f5⟩:=hf it (by simp);have hl:=rv.length;exact wpAny_pyNext_list_end (I.ok.hd hc) st p.isList (by simp;lia) fun h' eb=>⟨rfl,I.turned (t':=s.toks) (fun b o hb e=>eb b o hb e) f0 f1 f3 f4 f5⟩
 self:=fun _ _ _ _ _ st h=>wpAny_pyIter_listiter st h
theorem zkb {P:Program} {w:World} {K:Fg} {tg:Expr} (a it:Addr):Turn P w K tg (Itt K a) [it] it (fun i h=>h.IsTupleIter it a i) where
 mem:=by simp
 obj:=fun i h st b hb=>by
  have e:b=it:=by simpa using hb
  subst e;obtain ⟨o,e,c,d⟩:=st;exact ⟨o,e,fun v z=>by rw[d] at z;cases z⟩
 keep:=fun i h h' st k=>st.at fun o e=>k it (by simp) o e
 item:=by
  intro X hP hw hK hc i pins s σ H E I hf st hg;subst hP hw hK;obtain ⟨xs,x,hq,hx⟩:=hg;obtain ⟨its,rv,p,hz⟩:=I.tuple hq;obtain ⟨u,hu,ru⟩:=rv.get hx;obtain ⟨f0,f1,f2,f3,f4,f5⟩:=hf it (by simp);refine wpAny_pyNext_tuple_item st (show s.heap.IsTuple a its.toArray from p) (x:=u) (by simpa using hu) fun h' st' sb=>?_
  have I1:Inv X pins σ H {s with heap:=h'}:=I.turned (t':=s.toks) (fun b o hb e=>(sb.2 b hb).trans e) f0 f1 f3 f4 f5;obtain ⟨o,e,c,d⟩:=id st';exact ⟨u,rfl,zyj (s:={s with heap:=h'}) e c d (by decide) ⟨x,H,I1,ru,⟨rfl,fun ys hy=>by rw[I.tuple_inj hy hq];exact hx⟩,st',fun b hb=>(hf b hb).1⟩⟩
 done:=by
  intro X hP hw hK hc i pins s σ H E I hf st hg;subst hP hw hK;obtain ⟨xs,hq,hx⟩:=hg;obtain ⟨its,rv,p,hz⟩:=I.tuple hq;obtain ⟨f0,f1,f2,f3,f4,f5⟩:=hf it (by simp);have hl:=rv.length;exact wpAny_pyNext_tuple_end (I.ok.hd hc) st (show s.heap.IsTuple a its.toArray from p) (by simp;lia) fun h' eb=>⟨rfl,I.turned (t':=s.toks) (fun b o hb e=>eb b o hb e) f0 f1 f3 f4 f5⟩
 self:=fun _ _ _ _ _ st h=>wpAny_pyIter_tupleiter st h
theorem zkc {P:Program} {w:World} {K:Fg} {tg:Expr} (it:Addr) (lo:Int) (n:Nat):Turn P w K tg (Itr lo n) [it] it (fun i h=>IsRangeIter h it (lo+(i:Nat) * 1) ((n:Int) - (i:Nat)) 1) where
 mem:=by simp
 obj:=fun i h st b hb=>by
  have e:b=it:=by simpa using hb
  subst e
  exact ⟨_,st,fun v z=>by
   have z':Data.fields _=Data.cell v:=z
   cases z'⟩
 keep:=fun i h h' st k=>k it (by simp) _ st
 item:=by
  intro X hP hw hK hc i pins s σ H E I hf st hg;subst hP hw hK;obtain ⟨f0,f1,f2,f3,f4,f5⟩:=hf it (by simp);have W:=Walks.range (prog:=X.prog) (w:=X.w) (I.ok.hd hc) it lo 1 n;refine W.item i s _ _ hg st fun v h' tk hv st' kk=>?_
  obtain ⟨t,rfl⟩:=hv;have I1:Inv X pins σ H {s with heap:=h',toks:=tk}:=I.turned (fun b o hb e=>kk b o (by simpa using hb) e) f0 f1 f3 f4 f5;refine ⟨_, rfl, zyj (s := { s with heap := h', toks := tk }) (n := "range_iterator") st' rfl rfl (by decide) ⟨.int (lo + i), H, I1, ⟨t, ?_⟩, ⟨rfl, rfl⟩, st', fun b hb => (hf b hb).1⟩⟩
  rw[Int.mul_one]
 done:=by
  intro X hP hw hK hc i pins s σ H E I hf st hg;subst hP hw hK;obtain ⟨f0,f1,f2,f3,f4,f5⟩:=hf it (by simp);exact wpAny_pyNext_range_end (I.ok.hd hc) st (by have:n<=i:=hg;lia) fun h' eb=>⟨rfl,I.turned (t':=s.toks) (fun b o hb e=>eb b o hb e) f0 f1 f3 f4 f5⟩
 self:=fun _ _ _ _ _ st h=>wpAny_pyIter_rangeiter st h
section
variable {X:Cx} {tg:Expr}
def iList (K:Fg) (tl:TE):TI:=fun σ H R=>tl σ H fun x H1=>∃a,x=.ref a/\(∃xs,SqL K H1 a xs)/\R (Itl K a) H1
def iTup (K:Fg) (tl:TE):TI:=fun σ H R=>tl σ H fun x H1=>∃a,x=.ref a/\(∃xs,SqT K H1 a xs)/\R (Itt K a) H1
theorem zum {l:Expr} {tl:TE} (hl:PE X l tl):PI X tg l (iList X.K tl):=by
 intro pins s σ H R I h;refine thn (hl pins s σ H _ I h) fun v s1 hq0=>?_
 obtain ⟨x,H1,I1,r1,q1⟩:=hq0;obtain ⟨a,e,⟨xs,hq⟩,q⟩:=q1;subst e;cases r1;obtain ⟨its,rv,p,hz⟩:=I1.list hq;refine xil p.isList ?_;refine ⟨s1.heap.objs.size,[s1.heap.objs.size],_,_,H1,rfl,I1.kept (t':=s1.toks) fun b o e=>xbh _ e,zmw a _,⟨_,xbt _ rfl,rfl,rfl⟩,fun b hb=>?_,q⟩;have e:b=s1.heap.objs.size:=by simpa using hb
 subst e;exact I1.fpOk (xbe _) (I1.hok.fresh (xbe _))
theorem zzk {l:Expr} {tl:TE} (hl:PE X l tl):PI X tg l (iTup X.K tl):=by
 intro pins s σ H R I h;refine thn (hl pins s σ H _ I h) fun v s1 hq0=>?_
 obtain ⟨x,H1,I1,r1,q1⟩:=hq0;obtain ⟨a,e,⟨xs,hq⟩,q⟩:=q1;subst e;cases r1;obtain ⟨its,rv,p,hz⟩:=I1.tuple hq;refine xjy (show s1.heap.IsTuple a its.toArray from p) ?_;refine ⟨s1.heap.objs.size,[s1.heap.objs.size],_,_,H1,rfl,I1.kept (t':=s1.toks) fun b o e=>xbh _ e,zkb a _,⟨_,xbt _ rfl,rfl,rfl⟩,fun b hb=>?_,q⟩;have e:b=s1.heap.objs.size:=by simpa using hb
 subst e;exact I1.fpOk (xbe _) (I1.hok.fresh (xbe _))
theorem zql {pins:List (Addr × Obj)} {σ:St} {H:Hp} {s:Shared} {R:It->Hp->Prop} {E:Value->Shared->Prop} {lo hi:Int} {t u v:Tok} {tk:Nat} (I:Inv X pins σ H s) (h1:-(2 ^ 62)<=lo) (h2:lo < 2 ^ 62) (h3:-(2 ^ 62)<=hi) (h4:hi < 2 ^ 62)
  (q : R (Itr lo (hi - lo).toNat) H) : wpAny (model X.prog X.w) X.A (pyIter (.ref s.heap.objs.size)) (PIE X pins σ tg R) E { s with heap := s.heap.push { cls := .type "range", data := .fields #[.int lo t, .int hi u, .int 1 v] }, toks := tk } := by
 refine wpAny_pyIter_range (IsRange.new ..) (small_one h1 h2 h3 h4) ?_;have I1 : Inv X pins σ H { s with heap := s.heap.push { cls := .type "range", data := .fields #[.int lo t, .int hi u, .int 1 v] }, toks := tk } := I.kept fun b o e => xbh _ e
 refine ⟨(s.heap.push { cls := .type "range", data := .fields #[.int lo t, .int hi u, .int 1 v] }).objs.size, [(s.heap.push { cls := .type "range", data := .fields #[.int lo t, .int hi u, .int 1 v] }).objs.size], _, _, H, rfl,
  I1.kept (t':=tk) fun b o e=>xbh _ e,zkc _ lo (hi - lo).toNat,?_,fun b hb=>?_,q⟩
 ·have e1:lo+((0:Nat):Int) * 1=lo:=by simp
  have e2:(((hi - lo).toNat:Nat):Int) - ((0:Nat):Int)=Builtin.Range.rangeSize lo hi 1:=by rw[rangeSize_one];split<;>lia
  show IsRangeIter _ _ (lo+((0:Nat):Int) * 1) ((((hi - lo).toNat:Nat):Int) - ((0:Nat):Int)) 1;rw[e1,e2];exact xbt _ rfl
 ·have e : b = (s.heap.push { cls := .type "range", data := .fields #[.int lo t, .int hi u, .int 1 v] }).objs.size := by simpa using hb
  subst e;exact I1.fpOk (xbe _) (I1.hok.fresh (xbe _))
def iRng1 (ta:TA):TI:=fun σ H R=>ta σ H fun vs H1=>∃j:Int,vs=[.int j]/\-(2 ^ 62)<=j/\j < 2 ^ 62/\R (Itr 0 j.toNat) H1
theorem znf {a : Expr} {ta : TA} {p pos : Pos} (hg : Gl X "range") (hm : X.mg "range" = none) (ha : PA X [a] ta) (hs : starEach [a] X.env = [(false, eval a X.env)] := by rfl) : PI X tg (.Call (.Name "range" p) [a] [] pos) (iRng1 ta) := by
 intro pins s σ H R I h;refine Call_ (zlh I hg hm boot_range (xjs (thn (ha pos pins s σ H _ I h) fun us s1 hq0=>?_) hs rfl));obtain ⟨vs,H1,I1,r1,q1⟩:=hq0;obtain ⟨j,e,q1,q2,q⟩:=q1;subst e;cases r1 with
 | cons r rr =>
  cases rr;obtain ⟨t,rfl⟩:=r;exact call_range_1 (zql I1 (by lia) (by lia) q1 q2 (by simpa using q))
def tFor (wi:TI) (g:TG) (tb:TS):TS:=fun D σ H=>wi σ H fun J H1=>∃W:Nat->Nat->St->Hp->Prop,(∃m,W 0 m σ H1)/\∀i m σ H,W i m σ H ->
 (J.stop i H/\D.nx σ H)\/(J.go i H/\∃N:St->Hp->Prop,(∀σ' H',N σ' H'->∃m',m' < m/\W (i+1) m' σ' H')/\∀x H',J.yld i H x H'->g x σ H' fun σ2 H2=>tb {D with nx:=N,ct:=N,bk:=D.nx} σ2 H2)
def pinsAt (fp:List Addr) (h:Heap):List (Addr × Obj):=fp.filterMap fun b=>(h.get? b).map fun o=>(b,o)
theorem zbr {fp:List Addr} {h:Heap} {b:Addr} {o:Obj} (hb:b∈fp) (e:h.get? b=some o):(b,o)∈pinsAt fp h:=List.mem_filterMap.mpr ⟨b,hb,by rw[e];rfl⟩
theorem znh {fp:List Addr} {h:Heap} {p:Addr × Obj} (hp:p∈pinsAt fp h):p.1∈fp/\h.get? p.1=some p.2:=by
 obtain ⟨b,hb,e⟩:=List.mem_filterMap.mp hp;cases q:h.get? b with
 | none=>rw[q] at e;cases e
 | some o =>
  rw[q] at e;have e':(b,o)=p:=xck e;subst e';exact ⟨hb,q⟩
theorem Inv.pinned {pins:List (Addr × Obj)} {σ:St} {H:Hp} {s:Shared} {fp:List Addr} (I:Inv X pins σ H s) (hf:∀b∈fp,FpOk X pins H b) (ho:∀b∈fp,∃o,s.heap.get? b=some o/\∀v,o.data≠.cell v):Inv X (pins++pinsAt fp s.heap) σ H s :=
 I.pins_of fun p hp=>(xca.mp hp).elim (fun z=>I.pin p (xci _ z)) fun z=>by
  obtain ⟨hb,e⟩:=znh z;obtain ⟨f0,f1,f2,_⟩:=hf p.1 hb;obtain ⟨o,e',d⟩:=ho p.1 hb;rw[e] at e';cases e'
  exact ⟨e,f0,f1,f2,d⟩
theorem Inv.unpinned {pins pl:List (Addr × Obj)} {σ:St} {H:Hp} {s:Shared} (I:Inv X (pins++pl) σ H s):Inv X pins σ H s:=I.pins_of fun p hp=>I.pin p (xci _ (xhk _ hp))
theorem zzi {iter:Expr} {body:List Stmt} {wi:TI} {g:TG} {tb:TS} {pos:Pos} (hp:PassesOwn (model X.prog X.w) X.A X.env X.xe) (hc:X.calm=true) (hi:PI X tg iter wi) (hg:PG X tg g) (hb:PSs X body tb)
  (hs:∀x,foldedSetIterable iter X.env x=pure x:=by intro _;rfl):PS X (.For tg iter body [] pos) (tFor wi g tb):=by
 intro pins s σ H D I h;refine wpAny_For (thn (hi pins s σ H _ I h) fun v s1 h1=>thn h1 fun itv s2 h2=>?_) hs;obtain ⟨it,fp,tn,J,H2,e,I2,T,st2,f2,W,⟨m0,w0⟩,turn⟩:=h2;subst e;have stat:∀{H':Hp},(∀b∈fp,H' b=none)->∀b∈fp,FpOk X pins H' b:=fun hn b hb=>⟨hn b hb,(f2 b hb).2⟩
 refine codeAny_forLoop_any (fun n s'=>∃i σ' H',Inv X pins σ' H' s'/\tn i s'.heap/\(∀b∈fp,H' b=none)/\W i n σ' H') ?_ m0 ⟨0,σ,H2,I2,st2,fun b hb=>(f2 b hb).1,w0⟩;rintro n s3 ⟨i,σ3,H3,I3,st3,fr3,w3⟩;rcases turn i n σ3 H3 w3 with ⟨stop,qn⟩ | ⟨go,N,hN,step⟩
 ·refine xge hp (thn (T.done X rfl rfl rfl hc i pins s3 σ3 H3 X.xe I3 (stat fr3) st3 stop) fun r s4 hq0=>?_);obtain ⟨hr,I4⟩:=hq0;subst hr;exact xjl ⟨σ3,H3,I4,qn⟩
 ·refine xge hp (thn (T.item X rfl rfl rfl hc i pins s3 σ3 H3 X.xe I3 (stat fr3) st3 go) fun r s4 hq0=>?_);obtain ⟨u,hr,h4⟩:=hq0;subst hr;refine xge hp (thn h4 fun _ s5 hq0=>?_);obtain ⟨x,H5,I5,r5,y5,st5,fr5⟩:=hq0;have I5':=I5.pinned (stat fr5) (T.obj _ _ st5);refine xge hp (thn (hg _ s5 σ3 H5 x u _ I5' r5 (step x H5 y5)) fun _ s6 hq0=>?_);obtain ⟨σ6,H6,I6,q6⟩:=hq0;refine xge hp (thn (hb _ s6 σ6 H6 _ I6 q6) fun f s7 q7=>?_);have again:∀{σ7:St} {H7:Hp},Inv X (pins++pinsAt fp s5.heap) σ7 H7 s7->N σ7 H7->∃m,m < n/\∃i σ' H',Inv X pins σ' H' s7/\tn i s7.heap/\(∀b∈fp,H' b=none)/\W i m σ' H':=fun {σ7 H7} I7 n7=>by
   obtain ⟨m',hm,w7⟩:=hN σ7 H7 n7;refine ⟨m',hm,i+1,σ7,H7,I7.unpinned,T.keep _ _ _ st5 fun b hb o e=>(I7.pin (b,o) (xci _ (xci _ (zbr hb e)))).1,fun b hb=>?_,w7⟩;obtain ⟨o,e,d⟩:=T.obj _ _ st5 b hb;exact (I7.pin (b,o) (xci _ (xci _ (zbr hb e)))).2.1
  cases f with
  | next=>obtain ⟨σ7,H7,I7,n7⟩:=q7;exact again I7 n7
  | cont=>obtain ⟨σ7,H7,I7,n7⟩:=q7;exact again I7 n7
  | brk=>obtain ⟨σ7,H7,I7,q7⟩:=q7;exact ⟨σ7,H7,I7.unpinned,q7⟩
  | ret v=>obtain ⟨x7,σ7,H7,I7,r7,q7⟩:=q7;exact ⟨x7,σ7,H7,I7.unpinned,r7,q7⟩
end
abbrev R2:=V->V->Hp->VK->Prop
def OpR (X:Cx) (f:Value->Value->Sem Value) (r:R2):Prop :=
 ∀(pins:List (Addr × Obj)) (s:Shared) (σ:St) (H:Hp) (x y:V) (v u:Value) (Q:VK),Inv X pins σ H s->RelV x v->RelV y u->r x y H Q ->
  wpAny (model X.prog X.w) X.A (f v u) (EP X pins σ Q) X.xe s
def UnR (X:Cx) (f:Value->Sem Value) (r:V->Hp->VK->Prop):Prop :=
 ∀(pins:List (Addr × Obj)) (s:Shared) (σ:St) (H:Hp) (x:V) (v:Value) (Q:VK),Inv X pins σ H s->RelV x v->r x H Q ->
  wpAny (model X.prog X.w) X.A (f v) (EP X pins σ Q) X.xe s
def CallR (X:Cx) (f:Value) (r:List V->Hp->VK->Prop):Prop :=
 ∀(pins:List (Addr × Obj)) (s:Shared) (σ:St) (H:Hp) (xs:List V) (us:List Value) (Q:VK),Inv X pins σ H s->Vals xs us->r xs H Q ->
  wpAny (model X.prog X.w) X.A (call f us) (EP X pins σ Q) X.xe s
def TruR (X:Cx) (r:V->Hp->(Bool->Hp->Prop)->Prop):Prop :=
 ∀(pins:List (Addr × Obj)) (s:Shared) (σ:St) (H:Hp) (x:V) (v:Value) (Q:Bool->Hp->Prop),Inv X pins σ H s->RelV x v->r x H Q ->
  wpAny (model X.prog X.w) X.A (truthy v) (TP X pins σ Q) X.xe s
def tOp (r:R2) (ta tb:TE):TE:=fun σ H Q=>ta σ H fun x H1=>tb σ H1 fun y H2=>r x y H2 Q
def tUn (r:V->Hp->VK->Prop) (ta:TE):TE:=fun σ H Q=>ta σ H fun x H1=>r x H1 Q
def rI (C:Int->Int->Prop) (g:Int->Int->V):R2:=fun x y H Q=>∃i j,x=.int i/\y=.int j/\C i j/\Q (g i j) H
def rI0 (g:Int->Int->V):R2:=fun x y H Q=>∃i j,x=.int i/\y=.int j/\Q (g i j) H
def rU (g:Int->V):V->Hp->VK->Prop:=fun x H Q=>∃i,x=.int i/\Q (g i) H
section
variable {X:Cx} {a b c:Expr} {ta tb tc:TE} {pos:Pos}
theorem binT (ha:PE X a ta) (hb:PE X b tb) {pins:List (Addr × Obj)} {s:Shared} {σ:St} {H:Hp} {R:V->V->Hp->Prop} (I:Inv X pins σ H s)
  (h:ta σ H fun x H1=>tb σ H1 fun y H2=>R x y H2) {Q:Value->Shared->Prop} {f:Value->Value->Sem Value}
  (hf:∀v u s2 x y H2,Inv X pins σ H2 s2->RelV x v->RelV y u->R x y H2->wpAny (model X.prog X.w) X.A (f v u) Q X.xe s2) :
  wpAny (model X.prog X.w) X.A (eval a X.env) (fun v s₁=>wpAny (model X.prog X.w) X.A (eval b X.env) (fun u s₂=>wpAny (model X.prog X.w) X.A (f v u) Q X.xe s₂) X.xe s₁) X.xe s:=by
 refine thn (ha pins s σ H _ I h) fun v s1 hq0=>?_
 obtain ⟨x,H1,I1,r1,q1⟩:=hq0;refine thn (hb pins s1 σ H1 _ I1 q1) fun u s2 hq0=>?_
 obtain ⟨y,H2,I2,r2,q2⟩:=hq0;exact hf v u s2 x y H2 I2 r1 r2 q2
theorem zbdr {op:Operator} {r:R2} (ho:OpR X (binaryOp op) r) (ha:PE X a ta) (hb:PE X b tb):PE X (.BinOp a op b pos) (tOp r ta tb):=by
 intro pins s σ H Q I h;exact wpAny_BinOp (binT ha hb I h fun v u s2 x y H2 I2 rx ry q=>ho pins s2 σ H2 x y v u Q I2 rx ry q)
theorem zbdq {op:UnaryOp} {r:V->Hp->VK->Prop} (ho:UnR X (unaryOp op) r) (ha:PE X a ta):PE X (.UnaryOp op a pos) (tUn r ta):=by
 intro pins s σ H Q I h;exact UnaryOp_ (thn (ha pins s σ H _ I h) fun v s1 ⟨x,H1,I1,r1,q1⟩=>ho pins s1 σ H1 x v Q I1 r1 q1)
theorem opI {f:Value->Value->Sem Value} {C:Int->Int->Prop} {g:Int->Int->Int}
  (rule:∀(i j:Int) (t u:Tok) (s:Shared) (Q:Value->Shared->Prop) (E:Value->Shared->Prop),C i j->Q (.int (g i j) s.toks) {s with toks:=s.toks+1}->wpAny (model X.prog X.w) X.A (f (.int i t) (.int j u)) Q E s) :
  OpR X f (rI C fun i j=>.int (g i j)):=by
 intro pins s σ H x y v u Q I rx ry h;obtain ⟨i,j,rfl,rfl,hc,q⟩:=h;obtain ⟨t,rfl⟩:=rx;obtain ⟨t',rfl⟩:=ry;exact rule i j t t' s _ _ hc ⟨.int (g i j),H,I.tok _,⟨_,rfl⟩,q⟩
theorem opI0 {f:Value->Value->Sem Value} {g:Int->Int->Int}
  (rule:∀(i j:Int) (t u:Tok) (s:Shared) (Q:Value->Shared->Prop) (E:Value->Shared->Prop),Q (.int (g i j) s.toks) {s with toks:=s.toks+1}->wpAny (model X.prog X.w) X.A (f (.int i t) (.int j u)) Q E s) :
  OpR X f (rI0 fun i j=>.int (g i j)):=by
 intro pins s σ H x y v u Q I rx ry h;obtain ⟨i,j,rfl,rfl,q⟩:=h;obtain ⟨t,rfl⟩:=rx;obtain ⟨t',rfl⟩:=ry;exact rule i j t t' s _ _ ⟨.int (g i j),H,I.tok _,⟨_,rfl⟩,q⟩
theorem opB0 {f:Value->Value->Sem Value} {g:Int->Int->Bool}
  (rule:∀(i j:Int) (t u:Tok) (s:Shared) (Q:Value->Shared->Prop) (E:Value->Shared->Prop),Q (.bool (g i j)) s->wpAny (model X.prog X.w) X.A (f (.int i t) (.int j u)) Q E s) :
  OpR X f (rI0 fun i j=>.bl (g i j)):=by
 intro pins s σ H x y v u Q I rx ry h;obtain ⟨i,j,rfl,rfl,q⟩:=h;obtain ⟨t,rfl⟩:=rx;obtain ⟨t',rfl⟩:=ry;exact rule i j t t' s _ _ ⟨.bl (g i j),H,I,rfl,q⟩
def CPow (i j:Int):Prop:=0<=j/\j<=1000000/\i.natAbs < 2 ^ 64
def CMul (i j:Int):Prop:=(-(2 ^ 64) < i/\i < 2 ^ 64)\/(-(2 ^ 64) < j/\j < 2 ^ 64)
theorem CMul.ok {i j:Int} (h:CMul i j):IntMulOk i j:=by
 rcases h with ⟨h1,h2⟩ | ⟨h1,h2⟩
 ·exact .of_left (intBits_le_64 h1 h2)
 ·exact .of_right (intBits_le_64 h1 h2)
theorem zzt:OpR X (binaryOp .Add) (rI0 fun i j=>.int (i+j)):=opI0 fun _ _ _ _ _ _ _ q=>add_int q
theorem zng:OpR X (binaryOp .Sub) (rI0 fun i j=>.int (i - j)):=opI0 fun _ _ _ _ _ _ _ q=>sub_int q
theorem zjj:OpR X (binaryOp .Mult) (rI CMul fun i j=>.int (i * j)):=opI fun _ _ _ _ _ _ _ hc q=>mul_int q hc.ok
theorem zfk:OpR X (binaryOp .Mod) (rI (fun _ j=>0 < j) fun i j=>.int (i % j)):=opI fun i j _ _ _ _ _ hc q=>by
 have h1:(0:Int) < j:=hc;exact mod_int' (by lia) (by rw[Int.fmod_eq_emod_of_nonneg i (by lia)];exact q)
theorem zuy:OpR X (binaryOp .Pow) (rI CPow fun i j=>.int (i ^ j.toNat)):=opI fun _ _ _ _ _ _ _ hc q=>pow_int_small hc.1 hc.2.1 hc.2.2 q
theorem unI {f:Value->Sem Value} {g:Int->Int}
  (rule:∀(i:Int) (t:Tok) (s:Shared) (Q:Value->Shared->Prop) (E:Value->Shared->Prop),Q (.int (g i) s.toks) {s with toks:=s.toks+1}->wpAny (model X.prog X.w) X.A (f (.int i t)) Q E s) :
  UnR X f (rU fun i=>.int (g i)):=by
 intro pins s σ H x v Q I rx h;obtain ⟨i,rfl,q⟩:=h;obtain ⟨t,rfl⟩:=rx;exact rule i t s _ _ ⟨.int (g i),H,I.tok _,⟨_,rfl⟩,q⟩
theorem zyn:UnR X (unaryOp .USub) (rU fun i=>.int (-i)):=unI fun _ _ _ _ _ q=>neg_int q
theorem zbdv:OpR X (compareOp .Lt) (rI0 fun i j=>.bl (decide (i < j))):=opB0 fun _ _ _ _ _ _ _ q=>lt_int q
theorem zva:OpR X (compareOp .Gt) (rI0 fun i j=>.bl (decide (j < i))):=opB0 fun _ _ _ _ _ _ _ q=>gt_int q
theorem OpR.or {f:Value->Value->Sem Value} {r r':R2} (h:OpR X f r) (h':OpR X f r'):OpR X f (fun x y H Q=>r x y H Q\/r' x y H Q):=by
 intro pins s σ H x y v u Q I rx ry q;rcases q with q | q
 ·exact h pins s σ H x y v u Q I rx ry q
 ·exact h' pins s σ H x y v u Q I rx ry q
theorem nomark (b:Expr) {op:CmpOp} (h:op≠.In:=by decide) (h2:op≠.NotIn:=by decide):behindInMarks op b=false:=by
 have e1:(op == CmpOp.In)=false:=by cases op<;>first | rfl | exact absurd rfl h
 have e2:(op == CmpOp.NotIn)=false:=by cases op<;>first | rfl | exact absurd rfl h2
 cases b<;>simp[behindInMarks,e1,e2]
theorem zut {op:CmpOp} {r:R2} (ho:OpR X (compareOp op) r) (ha:PE X a ta) (hb:PE X b tb) (hm:behindInMarks op b=false):PE X (.Compare a [op] [b] pos) (tOp r ta tb):=by
 intro pins s σ H Q I h;exact wpAny_Compare1 (binT ha hb I h fun v u s2 x y H2 I2 rx ry q=>ho pins s2 σ H2 x y v u Q I2 rx ry q) hm
def tTest (t:TE):TT:=fun σ H Q=>t σ H fun x H'=>∃k,x=.bl k/\Q k H'
theorem zuc {op:CmpOp} {r:R2} (ho:OpR X (compareOp op) r) (ha:PE X a ta) (hb:PE X b tb) (hm:behindInMarks op b=false):PT X (.Compare a [op] [b] pos) (tTest (tOp r ta tb)):=by
 intro pins s σ H Q I h
 refine wpAny_isTrue_Compare1 (thn (ha pins s σ H _ I h) fun v s1 ⟨x,H1,I1,r1,q1⟩=>thn (hb pins s1 σ H1 _ I1 q1) fun u s2 ⟨y,H2,I2,r2,q2⟩ =>
  thn (ho pins s2 σ H2 x y v u _ I2 r1 r2 q2) fun c s3 ⟨z,H3,I3,r3,k,e,q3⟩=>?_) hm
 subst e;cases r3;exact xim ⟨H3,I3,q3⟩
def TruV (K:Fg) (x:V) (H:Hp) (k:Bool):Prop :=
 match x with
 | .non=>k=false
 | .bl b=>k=b
 | .int i=>k=(i != 0)
 | .str y=>y.length<=sizeLine/\k=((y.length:Int) != 0)
 | .byt y=>y.size<=sizeLine/\k=((y.size:Int) != 0)
 | .ref p=>(∃xs,SqL K H p xs/\k=!xs.isEmpty)\/(∃xs,SqT K H p xs/\k=!xs.isEmpty)\/∃kvs,H p=some (.dK kvs)/\k=!kvs.isEmpty
 | _=>False
theorem zlk {κ:Type} {kvs:List (κ × V)} {vs:List (κ × Value)} (r:KV kvs vs):(!vs.isEmpty)=!kvs.isEmpty:=by
 cases r<;>rfl
theorem zgl {xs:List V} {its:List Value} (r:Vals xs its):(!its.toArray.isEmpty)=!xs.isEmpty:=by
 cases r<;>simp
theorem line63:(sizeLine:Nat) < 2 ^ 63:=by rw[xgi];decide
theorem zyo:TruR X (fun x H Q=>∃k,TruV X.K x H k/\Q k H):=by
 intro pins s σ H x v Q I rx h;obtain ⟨k,e,q⟩:=h;have hl:=line63;have hs:sizeLine=16777216:=xgi;cases x with
 | non =>
  cases rx;have e':k=false:=e;subst e';exact truthy_none ⟨H,I,q⟩
 | bl b =>
  cases rx;have e':k=b:=e;subst e';exact xim ⟨H,I,q⟩
 | int i =>
  obtain ⟨t,rfl⟩:=rx;have e':k=(i != 0):=e;subst e';exact PySem.P.truthy_int ⟨H,I,q⟩
 | str y =>
  obtain ⟨t,rfl⟩:=rx;obtain ⟨hy,e'⟩:y.length<=sizeLine/\k=((y.length:Int) != 0):=e;subst e';exact PySem.P.truthy_str (by lia) ⟨H,I.tok _,q⟩
 | byt y =>
  obtain ⟨t,rfl⟩:=rx;obtain ⟨hy,e'⟩:y.size<=sizeLine/\k=((y.size:Int) != 0):=e;subst e';exact PySem.W.truthy_bytes (by lia) ⟨H,I.tok _,q⟩
 | ref p =>
  cases rx;have e':(∃xs,SqL X.K H p xs/\k=!xs.isEmpty)\/(∃xs,SqT X.K H p xs/\k=!xs.isEmpty)\/∃kvs,H p=some (.dK kvs)/\k=!kvs.isEmpty:=e
  rcases e' with ⟨xs,hx,e'⟩ | ⟨xs,hx,e'⟩ | ⟨kvs,hx,e'⟩
  ·subst e';obtain ⟨its,r,pl,hz⟩:=I.list hx;have hlen:=r.length;exact wpAny_truthy_list pl.isList (by simp only[xbm];lia) ⟨H,I.tok _,by rw[zgl r];exact q⟩
  ·subst e';obtain ⟨its,r,pl,hz⟩:=I.tuple hx;have hlen:=r.length;exact truthy_tuple pl (by simp only[xbm];lia) ⟨H,I.tok _,by rw[zgl r];exact q⟩
  ·subst e';obtain ⟨hz,hS,vs,r,m⟩:kvs.length<=sizeLine/\(p == sysModules)=false/\∃vs,KV kvs vs/\s.heap.DictOf (mixKind X.prog X.w) p vs:=I.hok p _ hx
   have hlen:kvs.length=vs.length:=xir r;exact wpAny_truthy_dict hS m (by lia) ⟨H,I.tok _,by rw[zlk r];exact q⟩
 | _=>exact (show False from e).elim
theorem zqn (ha:PE X a ta) (he:∀whole,isTrue a X.env whole=(do let v ← whole;standAt a.pos;holding [v] (truthy v))) :
  PT X a (fun σ H Q=>ta σ H fun x H'=>∃k,TruV X.K x H' k/\Q k H'):=by
 intro pins s σ H Q I h;exact isTrue_plain (thn (ha pins s σ H _ I h) fun v s1 ⟨x,H1,I1,r1,q1⟩=>zyo pins s1 σ H1 x v Q I1 r1 q1) (he _)
theorem zkt:OpR X (binaryOp .Add) (fun x y H Q=>∃i j,x=.str i/\y=.str j/\i.length+j.length<=sizeLine/\Q (.str (i++j)) H):=by
 intro pins s σ H x y v u Q I rx ry h;obtain ⟨i,j,rfl,rfl,hz,q⟩:=h;obtain ⟨t,rfl⟩:=rx;obtain ⟨t',rfl⟩:=ry;exact add_str (fun t' tk=>⟨.str (i++j),H,I.tok _,⟨_,rfl⟩,q⟩) hz
theorem vals1 {x:V} {us:List Value} (r:Vals [x] us):∃u,us=[u]/\RelV x u:=by
 cases r with
 | cons r1 r2=>cases r2;exact ⟨_,rfl,r1⟩
theorem vals2 {x y:V} {us:List Value} (r:Vals [x,y] us):∃u w',us=[u,w']/\RelV x u/\RelV y w':=by
 cases r with
 | cons r1 r2 =>
  cases r2 with
  | cons r3 r4=>cases r4;exact ⟨_,_,rfl,r1,r3⟩
theorem zss : CallR X (.builtin "abs") (fun xs H Q => ∃ i, xs = [.int i] /\ Q (.int (if i < 0 then -i else i)) H) := by
 intro pins s σ H xs us Q I r h;obtain ⟨i,rfl,q⟩:=h;obtain ⟨u,rfl,t,rfl⟩:=vals1 r;exact call_abs_int fun u tk=>⟨.int (if i < 0 then -i else i),H,I.tok _,⟨_,rfl⟩,q⟩
theorem zoq (hc : X.calm = true) : CallR X (.builtin "max") (fun xs H Q => ∃ i j, xs = [.int i, .int j] /\ Q (.int (if j > i then j else i)) H) := by
 intro pins s σ H xs us Q I r h;obtain ⟨i,j,rfl,q⟩:=h;obtain ⟨u,w',rfl,⟨t,rfl⟩,⟨t',rfl⟩⟩:=vals2 r;refine max_two_ints (I.ok.hd hc) fun h' tk k=>⟨_,H,I.kept k,?_,q⟩
 by_cases hj:j > i
 ·rw[if_pos hj,if_pos hj];exact ⟨_,rfl⟩
 ·rw[if_neg hj,if_neg hj];exact ⟨_,rfl⟩
theorem ziv (hc : X.calm = true) : CallR X (.builtin "min") (fun xs H Q => ∃ i j, xs = [.int i, .int j] /\ Q (.int (if j < i then j else i)) H) := by
 intro pins s σ H xs us Q I r h;obtain ⟨i,j,rfl,q⟩:=h;obtain ⟨u,w',rfl,⟨t,rfl⟩,⟨t',rfl⟩⟩:=vals2 r;refine min_two_ints (I.ok.hd hc) fun h' tk k=>⟨_,H,I.kept k,?_,q⟩
 by_cases hj:j < i
 ·rw[if_pos hj,if_pos hj];exact ⟨_,rfl⟩
 ·rw[if_neg hj,if_neg hj];exact ⟨_,rfl⟩
theorem ziw : CallR X (.type "int") (fun xs H Q => (∃ i, xs = [.int i] /\ Q (.int i) H) \/ ∃ k, xs = [.bl k] /\ Q (.int (if k then 1 else 0)) H) := by
 intro pins s σ H xs us Q I r h;rcases h with ⟨i,rfl,q⟩ | ⟨k,rfl,q⟩
 ·obtain ⟨u,rfl,t,rfl⟩:=vals1 r;exact call_int_int ⟨.int i,H,I,⟨_,rfl⟩,q⟩
 ·obtain ⟨u,rfl,r1⟩:=vals1 r;cases r1;exact call_int_bool ⟨.int (if k then 1 else 0),H,I.tok _,⟨_,rfl⟩,q⟩
end
structure ObjM (h:Heap) (x dx C:Addr) (mA:Str->Option Value):Prop where
 obj:h.get? x=some (PySem.W.instObj C dx)
 ns:h.Ns1 dx mA
 ne:dx≠x
theorem znn {h:Heap} {dx:Addr} {mA:Str->Option Value} (n:h.Ns1 dx mA):∃od,h.get? dx=some od/\∀name,PySem.W.lookIn name od=some (mA name):=by
 obtain ⟨o,es,ep,ho,hd,hk,_,hm⟩:=n;refine ⟨o,ho,fun name=>?_⟩;have e:=hm name;unfold nsFind findBy at e;rw[← Array.find?_toList] at e;unfold PySem.W.lookIn;rw[hd];dsimp only;split
 ·rename_i y q;rw[q] at e;exact congrArg some e
 ·rename_i q;rw[q] at e;have a:es.toList.any (·.refKey)=false:=by
   rw[List.any_eq_false];intro y hy;obtain ⟨z,t,hkey⟩:=hk y (xjf.mp hy);simp[DictEntry.refKey,hkey]
  have a':¬ es.toList.any (·.refKey)=true:=by rw[a];exact xfd
  rw[if_neg a'];exact congrArg some e
theorem ObjM.look {h:Heap} {x dx C:Addr} {mA:Str->Option Value} (I:ObjM h x dx C mA):∃od,PySem.W.InstAt h x (PySem.W.instObj C dx) C (some od)/\∀name,PySem.W.lookIn name od=some (mA name) :=
 let ⟨od,ho,hl⟩:=znn I.ns
 ⟨od,⟨I.obj,rfl,rfl,ho⟩,hl⟩
section
variable {prog:Program} {w:World} {A:Around} {E:Value->Shared->Prop} {s:Shared} {K:Fg} {x dx C f:Addr} {mA:Str->Option Value} {name:Str} {v:Value}
end
theorem RelO.some_of {v:V} {o:Option Value} (r:RelO (some v) o):∃u,o=some u/\RelV v u:=by
 cases o with
 | none=>exact (show False from r).elim
 | some u=>exact ⟨u,rfl,r⟩
section
variable {P:Program} {w:World} {H H':Hp} {h h':Heap} {a C dx:Addr} {fs fs':List (Str × V)}
theorem zvx (hok:HOk P w H h) (e:H a=some (.ins C dx fs)):∃mA,ObjM h a dx C mA/\(∀f,RelO (fs.lookup f) (mA f))/\PySem.Within mA (fs.map (·.1))/\fs.length<=1000/\H dx=some (.own a):=by
 obtain ⟨d,z,ne,ob,mA,n,r,q⟩:=(show ObjOk P w H h a (.ins C dx fs) from hok a _ e)
 exact ⟨mA,⟨ob,n,ne⟩,r,q,z,d⟩
end
structure Cls (K:Fg) (C:Addr):Prop where
 pg:PySem.W.plainGet K C Str.empty=true
 hd:PySem.W.hasDictIn K C=true
 po:PySem.W.plainOver K C=true
 sa : PySem.W.findIn K (.ref C) "__setattr__" = some (some (.builtin "object.__setattr__"))
theorem Cls.get {K:Fg} {C:Addr} (c:Cls K C) (f:Str):PySem.W.plainGet K C f=true:=c.pg
section
variable {X:Cx} {pins:List (Addr × Obj)} {σ:St} {H:Hp} {s:Shared} {a C dx:Addr} {fs:List (Str × V)} {f:Str} {v:V} {A:Around} {E:Value->Shared->Prop}
end
section
variable {X:Cx} {o e value:Expr} {f:Str} {pos pos' tpos:Pos} {ta tv:TE}
end
section
variable {X:Cx} {pins:List (Addr × Obj)} {σ:St} {H:Hp} {s:Shared} {A:Around} {E:Value->Shared->Prop} {Q:Value->Shared->Prop} {c:Value} {b:Bool}
inductive TyOf (K:Fg) (H:Hp):V->Value->Prop where
 | non : TyOf K H .non (.type "NoneType")
 | bl (x : Bool) : TyOf K H (.bl x) (.type "bool")
 | int (i : Int) : TyOf K H (.int i) (.type "int")
 | str (x : Str) : TyOf K H (.str x) (.type "str")
 | flt (x : UInt64) : TyOf K H (.flt x) (.type "float")
 | lst {a : Addr} {xs : List V} (e : H a = some (.lst xs)) : TyOf K H (.ref a) (.type "list")
 | frz {a : Addr} {o : Obj} {xs : List V} (e : H a = some (.frz o (.lst xs))) : TyOf K H (.ref a) (.type "list")
 | tup {a : Addr} {xs : List V} (e : H a = some (.tup xs)) : TyOf K H (.ref a) (.type "tuple")
 | dK {a : Addr} {kvs : List (Key × V)} (e : H a = some (.dK kvs)) : TyOf K H (.ref a) (.type "dict")
 | dT {a : Addr} {kvs : List (List Key × V)} (e : H a = some (.dT kvs)) : TyOf K H (.ref a) (.type "dict")
 | ins {a C dx : Addr} {fs : List (Str × V)} (e : H a = some (.ins C dx fs)) (cl : Cls K C) (ha : PySem.W.findIn K (.ref C) "__class__" = some (some (.builtin "object.__class__")))
  (hn : PySem.W.specialIn K (.builtin "object.__class__") "__get__" = some (some (.builtin "getset_descriptor.__get__"))) (htk : PySem.W.takesIn K (.builtin "object.__class__") = some true)
  (hm : PySem.W.mroIn K C (.type "object") = some true) : TyOf K H (.ref a) (.ref C)
theorem znv {x:V} {u t:Value} (I:Inv X pins σ H s) (rx:RelV x u) (ty:TyOf X.K H x t) (e:PySem.W.kitOne X.K t c=some b) (h:∀tk,Q (.bool b) {s with toks:=tk}) :
  wpAny (model X.prog X.w) A (call (.builtin "isinstance") [u, c]) Q E s := by
 cases ty with
 | non=>cases (show u=Value.none from rx);exact xeb PySem.W.kitx_none I.kIn True.intro e (fun z=>nomatch z) h
 | bl y=>cases (show u=Value.bool y from rx);exact xeb PySem.W.kitx_bool I.kIn True.intro e (fun z=>nomatch z) h
 | int i=>obtain ⟨t,q⟩:=(show ∃t,u=Value.int i t from rx);cases q;exact xeb PySem.W.kitx_int I.kIn True.intro e (fun z=>nomatch z) h
 | str y=>obtain ⟨t,q⟩:=(show ∃t,u=Value.str y t from rx);cases q;exact xeb PySem.W.kitx_str I.kIn True.intro e (fun z=>nomatch z) h
 | flt y=>obtain ⟨t,q⟩:=(show ∃t,u=Value.float y t from rx);cases q;exact xeb PySem.W.kitx_float I.kIn True.intro e (fun z=>nomatch z) h
 | @lst a xs ea =>
  cases (show u=Value.ref a from rx);obtain ⟨_,_,n,_,h1⟩:=(show ObjOk X.prog X.w H s.heap a (.lst xs) from I.hok a _ ea)
  exact xeb PySem.W.kitx_list I.kIn ⟨_,h1,rfl⟩ e (fun z=>nomatch z) h
 | @frz a ob xs ea =>
  cases (show u=Value.ref a from rx);obtain ⟨_,_,_,n,_,h1⟩:=(show ObjOk X.prog X.w H s.heap a (.frz ob (.lst xs)) from I.hok a _ ea)
  exact xeb PySem.W.kitx_list I.kIn ⟨_,h1,rfl⟩ e (fun z=>nomatch z) h
 | @tup a xs ea =>
  cases (show u=Value.ref a from rx);obtain ⟨_,_,_,p⟩:=(show ObjOk X.prog X.w H s.heap a (.tup xs) from I.hok a _ ea)
  obtain ⟨o,h1,h2,_⟩:=p;exact xeb PySem.W.kitx_tuple I.kIn ⟨o,h1,h2⟩ e (fun z=>nomatch z) h
 | @dK a kvs ea =>
  cases (show u=Value.ref a from rx);obtain ⟨_,_,vs,_,p⟩:=(show ObjOk X.prog X.w H s.heap a (.dK kvs) from I.hok a _ ea)
  obtain ⟨o,es,ep,h1,h2,_⟩:=p;exact xeb PySem.W.kitx_dict I.kIn ⟨o,h1,h2.1⟩ e (fun z=>nomatch z) h
 | @dT a kvs ea =>
  cases (show u=Value.ref a from rx);obtain ⟨_,_,xs,_,o,es,ep,h1,h2,_⟩:=(show ObjOk X.prog X.w H s.heap a (.dT kvs) from I.hok a _ ea)
  exact xeb PySem.W.kitx_dict I.kIn ⟨o,h1,h2.1⟩ e (fun z=>nomatch z) h
 | @ins a C dx fs ea cl ha hn htk hm =>
  cases (show u=Value.ref a from rx);obtain ⟨mA,O,_⟩:=zvx I.hok ea;obtain ⟨od,J,_⟩:=O.look;exact xeb (PySem.W.kitx_own (cl.get _) cl.hd ha hn htk hm) I.kIn J e (fun z=>nomatch z) h
end
structure Room (k:Nat) (A:Around):Prop where
 hd:A.handled=none
 dp:A.depth+3 * k+5 < recursionLimit
 un:A.units+16 * k+200 < cLine
theorem Room.mono {j k:Nat} {A:Around} (r:Room k A) (h:j<=k):Room j A:=⟨r.hd,by have:=r.dp;lia,by have:=r.un;lia⟩
theorem Room.deeper {k:Nat} {A:Around} (r:Room (k+1) A) (env:Env):Room k (A.deeper env) :=
 ⟨r.hd,by have:=r.dp;show A.depth+1+3 * k+5 < _;lia,by have:=r.un;show A.units+3+16 * k+200 < _;lia⟩
theorem Room.depth {k:Nat} {A:Around} (r:Room k A):A.depth < recursionLimit:=by have:=r.dp;lia
theorem Room.units {k:Nat} {A:Around} (r:Room k A):A.units+64 < cLine:=by have:=r.un;lia
theorem Room.units0 {k:Nat} {A:Around} (r:Room k A):A.units < cLine:=by have:=r.un;lia
def tNil:TA:=fun _ H Q=>Q [] H
def tCons (ta:TE) (tr:TA):TA:=fun σ H Q=>ta σ H fun x H1=>tr σ H1 fun xs H2=>Q (x::xs) H2
section
variable {X:Cx} {e:Expr} {es:List Expr} {te:TE} {t:TA} {pos:Pos}
theorem zqz:PA X [] tNil:=fun _ _ _ _ H Q I h=>Calls.spliced_nil ⟨[],H,I,.nil,h⟩
theorem zkp (ha:PE X e te) (hr:PA X es t) (hs:starEach (e::es) X.env=(false,eval e X.env)::starEach es X.env:=by rfl):PA X (e::es) (tCons te t):=by
 intro pos pins s σ H Q I h;rw[hs];show wpAny _ _ (spliced ((false,eval e X.env)::backTo pos (starEach es X.env))) _ _ s;refine xjt (thn (ha pins s σ H _ I h) fun u s1 hq0=>?_);obtain ⟨x,H1,I1,r1,q1⟩:=hq0;exact thn (hr pos pins s1 σ H1 _ I1 q1) fun us s2 ⟨xs,H2,I2,r2,q2⟩=>⟨x::xs,H2,I2,.cons r1 r2,q2⟩
def tTup (t:TA):TE:=fun σ H Q=>t σ H fun xs H1=>xs.length<=sizeLine/\∀p,H1 p=none->Q (.ref p) (upd H1 p (.tup xs))
def tLst (t:TA):TE:=fun σ H Q=>t σ H fun xs H1=>xs.length<=sizeLine/\∀p,H1 p=none->Q (.ref p) (upd H1 p (.lst xs))
theorem zzo {x1} (h:PA X es t):PE X (.Tuple es x1 pos) (tTup t):=by
 intro pins s σ H Q I hq;refine wpAny_Tuple_spliced (thn (h pos pins s σ H _ I hq) fun us s1 ⟨xs,H1,I1,r,z,q⟩=>⟨by rw[← r.length];exact z,?_⟩);have hf:H1 s1.heap.objs.size=none:=I1.hok.fresh (xbe _);refine ⟨.ref s1.heap.objs.size,upd H1 s1.heap.objs.size (.tup xs),I1.laid (t':=s1.toks) (fun b u e=>xbh _ e) (xbe _) ?_,rfl,q _ hf⟩;exact ⟨z,us,r,⟨_,xbt _ rfl,rfl,_,rfl⟩⟩
theorem zuq (h:PA X es t):PE X (.List es pos) (tLst t):=by
 intro pins s σ H Q I hq;refine wpAny_List_spliced (thn (h pos pins s σ H _ I hq) fun us s1 ⟨xs,H1,I1,r,z,q⟩=>⟨by rw[← r.length];exact z,?_⟩);have hf:H1 s1.heap.objs.size=none:=I1.hok.fresh (xbe _);refine ⟨.ref s1.heap.objs.size,upd H1 s1.heap.objs.size (.lst xs),I1.laid (t':=s1.toks) (fun b u e=>xbh _ e) (xbe _) ?_,rfl,q _ hf⟩;exact ⟨z,us,0,r,xbt _ rfl⟩
end
abbrev Sp:=List V->Hp->VK->XK->Prop
abbrev CXT:=List Env->Hp->Shared->XK->Value->Shared->Prop
structure Env0 (P:Program) (w:World) (K:Fg) (mg:Str->Option Value) (base:Heap) (A:Around) (outer:List Env) (s:Shared) (H:Hp):Prop where
 frames:A.frames=some outer
 mod:Mod K mg base
 bs:∀b o,base.get? b=some o->s.heap.get? b=some o/\H b=none
 bsz:base.objs.size<=s.heap.objs.size
 funs:s.heap.FunFrames base outer
 frf:∀b∈frs outer,H b=none
 hok:HOk P w H s.heap
 bare:AllBare s.gens
def CE (outer:List Env) (P:Program) (w:World) (H:Hp) (s:Shared) (Q:VK) (u:Value) (s':Shared):Prop :=
 ∃v H',s'.os=s.os/\AllBare s'.gens/\Un (frs outer) [] H H' s.heap s'.heap/\HOk P w H' s'.heap/\RelV v u/\Q v H'
def CR (CX:CXT) (outer:List Env) (P:Program) (w:World) (H:Hp) (s:Shared) (Q:VK) (E:XK) (r:Result) (s':Shared):Prop :=
 match r with
 | .ok (.ret u)=>CE outer P w H s Q u s'
 | .ok _=>False
 | .error e=>CX outer H s E e s'
structure FnOk (P:Program) (w:World) (K:Fg) (mg:Str->Option Value) (base:Heap) (CX:CXT) (k:Nat) (f:Addr) (fd:FuncData) (ps:List Str) (sp:Sp):Prop where
 len:∀vs H Q E,sp vs H Q E->vs.length=ps.length
 run:∀(A:Around) (outer:List Env) (s:Shared) (H:Hp) (args:Args) (us:List Value) (vs:List V) (Q:VK) (E:XK),Room k A->Env0 P w K mg base A outer s H->BindsTo s fd args (ps.zip us)->Vals vs us->sp vs H Q E ->
  codeAny (model P w) A (.call (.ref f) args) (CR CX outer P w H s Q E) s
section
variable {X:Cx} {pins:List (Addr × Obj)} {σ:St} {H:Hp} {s s':Shared}
theorem Inv.env0 (I:Inv X pins σ H s):Env0 X.prog X.w X.K X.mg X.base X.A X.stack s H :=
 ⟨I.ok.frames,I.ok.mod,I.bs,xbb I.ok.bsz I.sz,I.stack,I.stkFree,I.hok,I.bare⟩
theorem Inv.after {Q:VK} {u:Value} (I:Inv X pins σ H s) (h:CE X.stack X.prog X.w H s Q u s'):EP X pins σ Q u s':=by
 obtain ⟨v,H',os,bare,un,hok,r,q⟩:=h;obtain ⟨hh,g,d,t,os'⟩:=s';obtain rfl:os'=s.os:=os;exact ⟨v,H',I.call (h':=hh) (g':=g) (d':=d) (t':=t) (ch:=[]) un hok bare (fun b z=>absurd z (by simp)),r,q⟩
end
def tCall (sp:Sp) (dvs:List V) (E:XK) (t:TA):TE:=fun σ H Q=>t σ H fun vs H1=>sp (vs++dvs) H1 Q E
def Binds (K:Fg) (fd:FuncData) (ps:List Str) (ds:List Value):Prop :=
 ∀(s:Shared) (us:List Value),K.In s.heap->(us++ds).length=ps.length->BindsTo s fd ⟨us,[]⟩ (ps.zip (us++ds))
theorem Binds.all {K:Fg} {fd:FuncData} {ps:List Str} (h:∀us:List Value,us.length=ps.length->bindArgs fd ⟨us,[]⟩=pure (ps.zip us)):Binds K fd ps []:=fun s us _ hl=>by
 rw[xej] at hl ⊢;exact .of_eq (h us hl)
def Passes (CX:CXT) (X:Cx) (E:XK):Prop:=∀(pins:List (Addr × Obj)) (σ:St) (H:Hp) (s:Shared) (e:Value) (s':Shared),Inv X pins σ H s->CX X.stack H s E e s'->X.xe e s'
section
variable {X:Cx} {CX:CXT} {k:Nat} {f C:Addr} {fd:FuncData} {ps:List Str} {sp:Sp} {dvs:List V} {ds:List Value} {E:XK} {x m:Str} {p pos apos:Pos} {e o:Expr} {es:List Expr} {ta:TE} {t:TA}
theorem zzb {pins:List (Addr × Obj)} {σ:St} {H:Hp} {s:Shared} {Q:VK} {us:List Value} {vs:List V} (F:FnOk X.prog X.w X.K X.mg X.base CX k f fd ps sp) (hr:Room k X.A) (hb:Binds X.K fd ps ds) (hd:Vals dvs ds) (hx:Passes CX X E)
  (I:Inv X pins σ H s) (r:Vals vs us) (h:sp (vs++dvs) H Q E):wpAny (model X.prog X.w) X.A (call (.ref f) us) (EP X pins σ Q) X.xe s:=by
 have r2:Vals (vs++dvs) (us++ds):=r.append hd;have hl:(us++ds).length=ps.length:=by rw[← r2.length];exact F.len _ _ _ _ h
 refine wpAny_call (xjm (F.run X.A X.stack s H ⟨us,[]⟩ (us++ds) (vs++dvs) Q E hr I.env0 (hb s us I.kIn hl) r2 h) fun r s' hq=>?_);cases r with
 | error e=>exact hx pins σ H s e s' I hq
 | ok fl =>
  cases fl with
  | ret u=>exact I.after hq
  | next=>exact False.elim hq
  | brk=>exact False.elim hq
  | cont=>exact False.elim hq
theorem zuu (F:FnOk X.prog X.w X.K X.mg X.base CX k f fd ps sp) (hr:Room k X.A) (hg:Gl X x) (hm:X.mg x=some (.ref f)) (hk:PySem.W.keepIn X.K (.ref f)=true) (hb:Binds X.K fd ps ds) (hd:Vals dvs ds) (hx:Passes CX X E)
  (ha : PA X (e :: es) t) (hdb : (x == ("__debug__" : Str)) = false := by decide) (he : starEach (e :: es) X.env = (false, eval e X.env) :: starEach es X.env := by rfl) (hpl : (backTo pos (starEach es X.env)).any (·.1) = false := by rfl) :
  PE X (.Call (.Name x p) (e::es) [] pos) (tCall sp dvs E t):=by
 intro pins s σ H Q I h;refine xia (zvp I hg hm ?_ hdb);refine PySem.W.callWith_K (h₀:=X.base) I.ok.mod.kin hk (thn (ha pos pins s σ H _ I h) fun us s1 ⟨vs,H1,I1,r,q⟩=>⟨I1.kIn,?_⟩) he hpl;exact zzb F hr hb hd hx I1 r q
end
section
variable {X:Cx} {CX:CXT} {k:Nat} {f C:Addr} {fd:FuncData} {ps ks:List Str} {sp:Sp} {E:XK} {x m:Str} {p pos apos kpos:Pos} {e o:Expr} {es:List Expr} {kws:List Keyword} {te ta:TE} {t tk:TA} {nm:Option Str}
variable {g:List Value->List Value->List Value} {gV:List V->List V->List V}
end
structure FnScope (N P:List Str) (sc:Scope):Prop where
 kind:sc.kind=.function
 co:sc.isCoroutine=false
 gen:sc.isGenerator=false
 nd:N.Nodup
 pre:N.take P.length=P
 par:∀x∈P,sc.names.lookup x=some .local\/sc.names.lookup x=some .cell
 nofree:∀y∈sc.names,y.2≠.free
theorem ziy {kindOf:Str->Option NameKind} {x:Str}:∀{binds:List (Str × Value)} {m:Str->Option Value},(∀v,(x,v)∉binds)->bindL kindOf binds m x=m x
 | [],_,_=>rfl
 | (n,v)::r,m,h=>by
  unfold bindL;rw[ziy fun w hw=>h w (xbu _ hw)];split
  ·have:x≠n:=by rintro rfl;exact h v xbz
   simp[this]
  ·rfl
theorem zja {kindOf:Str->Option NameKind} {x:Str}:∀{binds:List (Str × Value)} {m:Str->Option Value},(∀v,(x,v)∉binds)->bindC kindOf binds m x=m x
 | [],_,_=>rfl
 | (n,v)::r,m,h=>by
  unfold bindC;rw[zja fun w hw=>h w (xbu _ hw)];split
  ·rfl
  ·have:x≠n:=by rintro rfl;exact h v xbz
   simp[this]
theorem ziz {kindOf:Str->Option NameKind} {x:Str} {v:Value}:∀{P:List Str} {vs:List Value} {i:Nat} {m:Str->Option Value},P.Nodup->P[i]?=some x->vs[i]?=some v->kindOf x=some .local ->
  bindL kindOf (P.zip vs) m x=some v
 | [],_,_,_,_,h,_,_=>by simp at h
 | _::_,[],_,_,_,_,h,_=>by simp at h
 | p::P,w::vs,0,m,nd,h1,h2,hk=>by
  simp at h1 h2;subst h1;subst h2
  show bindL kindOf ((p,w)::P.zip vs) m p=_;unfold bindL;rw[ziy fun v hv=>(xfj.mp nd).1 (xku hv).1,if_pos hk];simp
 | p::P,w::vs,i+1,m,nd,h1,h2,hk=>by
  show bindL kindOf ((p,w)::P.zip vs) m x=_;unfold bindL;exact ziz (i:=i) (xfj.mp nd).2 (by simpa using h1) (by simpa using h2) hk
theorem zjb {kindOf:Str->Option NameKind} {x:Str} {v:Value}:∀{P:List Str} {vs:List Value} {i:Nat} {m:Str->Option Value},P.Nodup->P[i]?=some x->vs[i]?=some v->kindOf x≠some .local ->
  bindC kindOf (P.zip vs) m x=some v
 | [],_,_,_,_,h,_,_=>by simp at h
 | _::_,[],_,_,_,_,h,_=>by simp at h
 | p::P,w::vs,0,m,nd,h1,h2,hk=>by
  simp at h1 h2;subst h1;subst h2
  show bindC kindOf ((p,w)::P.zip vs) m p=_;unfold bindC;rw[zja fun v hv=>(xfj.mp nd).1 (xku hv).1,if_neg hk];simp
 | p::P,w::vs,i+1,m,nd,h1,h2,hk=>by
  show bindC kindOf ((p,w)::P.zip vs) m x=_;unfold bindC;exact zjb (i:=i) (xfj.mp nd).2 (by simpa using h1) (by simpa using h2) hk
def start (N:List Str) (vs:List V):St:=vs.map some++List.replicate (N.length - vs.length) none
def cxOf (CX:CXT) (P:Program) (w:World) (K:Fg) (mg:Str->Option Value) (base:Heap) (N:List Str) (qual:Str) (scope:Scope) (f:Addr) (cd:Value) (A:Around) (outer:List Env) (s:Shared) (H:Hp) (E:XK):Cx where
 prog:=P
 w:=w
 K:=K
 mg:=mg
 base:=base
 A:=A.deeper (envOfC qual scope s.heap.objs.size f cd)
 N:=N
 s₀:=s
 H₀:=H
 env:=envOfC qual scope s.heap.objs.size f cd
 outer:=outer
 stack:=envOfC qual scope s.heap.objs.size f cd::outer
 ex:=[]
 calm:=true
 fn:=fun _=>true
 pn:=[]
 xe:=fun e s'=>wpAny (model P w) (A.deeper (envOfC qual scope s.heap.objs.size f cd)) (leaving (envOfC qual scope s.heap.objs.size f cd) e) (fun _ s''=>CX outer H s E e s'') (fun e' s''=>CX outer H s E e' s'') s'
theorem zly {sc:Scope} {n:Nat} {x:Str} (h:sc.names.lookup x=some .cell):∃c,(cellsFrom n sc.names []).lookup x=some c:=by
 have q:=PySem.W.cellsFrom_some sc.names n [] (.inl h);exact Option.isSome_iff_exists.mp q
theorem znw {CX:CXT} {P:Program} {w:World} {K:Fg} {mg:Str->Option Value} {base:Heap} {N ps:List Str} {qual:Str} {scope:Scope} {f:Addr} {cd:Value} {A:Around} {outer:List Env} {s s1:Shared} {H:Hp} {E:XK} {us:List Value} {vs:List V}
  (S:FnScope N ps scope) (hd:A.handled=none) (e0:Env0 P w K mg base A outer s H) (hl:vs.length=ps.length) (r:Vals vs us)
  (x:InCallC s s.heap.objs.size (bindL (envOfC qual scope s.heap.objs.size f cd).kindOf (ps.zip us) fun _=>none) (cellsFrom (s.heap.objs.size+1) scope.names []) (bindC (envOfC qual scope s.heap.objs.size f cd).kindOf (ps.zip us) fun _=>none) s1) :
  Inv (cxOf CX P w K mg base N qual scope f cd A outer s H E) [] (start N vs) H s1:=by
 have hpl:ps.length<=N.length:=by have:=congrArg List.length S.pre;rw[xee] at this;lia
 obtain ⟨h1,tk,rfl,hk⟩:=x.done;have noA:∀b:Addr,b∉(cxOf CX P w K mg base N qual scope f cd A outer s H E).ex:=fun b z=>absurd (show b∈([]:List Addr) from z) (by simp)
 refine ⟨⟨e0.mod,S.kind,rfl,rfl,xbe _,fun y z c h1 h2=>?_,fun y hy=>?_,fun y c _ h=>?_,fun _=>hd,Around.frames_deeper e0.frames,.inr ⟨rfl,rfl⟩,fun b z=>absurd z (noA b),e0.bs,e0.bsz,fun b _ _=>noA b,fun b z=>absurd z (noA b),e0.funs,e0.frf⟩,
  rfl,e0.bare,Un.kept hk,⟨_,x.toInCall.ns,fun i y v h1 h2 h3=>?_⟩,fun y c h=>⟨_,x.cell y c h⟩,e0.hok.fresh (xbe _),fun y c h=>?_,fun p hp=>absurd (show p∈([]:List (Addr × Obj)) from hp) (by simp),e0.hok.kept hk,?_,Hnd.none hd⟩
 ·exact name_of_addr x.apart (xfr h1) (xfr h2)
 ·have hy:scope.names.lookup y=some .cell\/scope.names.lookup y=some .free:=hy;rcases hy with hy | hy
  ·exact zly hy
  ·exact absurd rfl (S.nofree _ (xfr hy))
 ·exact xbp (x.above y c (xfr h))
 ·have hi:i < vs.length:=by
   unfold start at h2;by_cases hi:i < vs.length
   ·exact hi
   ·rw[xch (by simpa using hi)] at h2;rw[xgq] at h2;split at h2<;>cases h2
  have ha:vs[i]?=some v:=by
   unfold start at h2;rw[xbx (by simpa using hi),xcl] at h2;cases e:vs[i]? with
   | none=>rw[e] at h2;cases h2
   | some a=>rw[e] at h2;cases h2;rfl
  obtain ⟨u,hu,rv⟩:=r.get ha;have hp:ps[i]?=some y:=by
   rw[← S.pre,List.getElem?_take_of_lt (by lia)];exact h1
  have ndP:ps.Nodup:=by rw[← S.pre];exact S.nd.sublist (xkd _ _)
  refine ⟨u,rv,?_⟩;rcases S.par y (xcz hp) with k | k
  ·exact .inl ⟨k,ziz ndP hp hu k⟩
  ·obtain ⟨c,e⟩:=zly (n:=s.heap.objs.size+1) k;refine .inr ⟨.inl k,c,e,?_⟩;have q:=x.cell y c e;rw[zjb ndP hp hu (by show scope.names.lookup y≠_;rw[k];decide)] at q;exact q
 ·exact e0.hok.fresh (xbp (x.above y c (xfr h)))
 ·unfold start;show _=N.length;rw[xcd,xbd,xdr];lia
theorem zbee {CX:CXT} {P:Program} {w:World} {K:Fg} {mg:Str->Option Value} {base:Heap} {k:Nat} {f:Addr} {name qual:Str} {params:Arguments} {body:List Stmt} {scope:Scope} {dV kV doc pm cdv ct oc:Value} {an od:Option Addr}
  {osl:Array (Option Value)} {N ps:List Str} {sp:Sp} (lk:K.lookup f=some ⟨oc,od,.func (PySem.W.fnOf name qual params body scope dV kV doc pm an cdv ct),osl⟩) (hcd:PySem.W.codeIn K cdv qual=true) (S:FnScope N ps scope)
  (len:∀vs H Q E,sp vs H Q E->vs.length=ps.length)
  (hbody:∀(A:Around) (outer:List Env) (s:Shared) (H:Hp) (vs:List V) (Q:VK) (E:XK),Room k (A.deeper (envOfC qual scope s.heap.objs.size f cdv))->sp vs H Q E ->
   ∃t,PSs (cxOf CX P w K mg base N qual scope f cdv A outer s H E) body t/\t {nx:=fun _ H'=>Q .non H',rt:=Q} (start N vs) H) :
  FnOk P w K mg base CX (k+1) f (PySem.W.fnOf name qual params body scope dV kV doc pm an cdv ct) ps sp:=by
 refine ⟨len,fun A outer s H args us vs Q E hr e0 hb r hsp=>?_⟩;have hl:=len _ _ _ _ hsp;have KX:K.In s.heap:=e0.mod.kin.keeps fun b o e=>(e0.bs b o e).1
 have lim:s.heap.NoLimit:=e0.mod.nolimit.keeps fun b o e=>(e0.bs b o e).1
 have hkind:∀y∈ps.zip us,scope.names.lookup y.1=some .local\/(scope.names.lookup y.1=some .cell/\((cellsFrom (s.heap.objs.size+1) scope.names []).lookup y.1).isSome=true):=fun hq0 hy=>by
  obtain ⟨n,v⟩:=hq0;rcases S.par n (xku hy).1 with q | q
  ·exact .inl q
  ·exact .inr ⟨q,PySem.W.cellsFrom_some _ _ _ (.inl q)⟩
 refine codeAny_call_function hr.depth (KX _ _ lk) rfl S.co S.gen rfl (PySem.W.codeRec_of KX hcd) (hb _ _ _ _ ?_);refine wpAny_newFunctionEnv_cells S.kind hkind fun env he s1 x=>?_
 subst he;refine ⟨lim.keeps x.toInCall.keep,codeAny_func ?_⟩;obtain ⟨t,ht,hq⟩:=hbody A outer s H vs Q E (hr.deeper _) hsp;have I:Inv (cxOf CX P w K mg base N qual scope f cdv A outer s H E) [] (start N vs) H s1:=znw S hr.hd e0 hl r x;refine xdq (ht [] s1 (start N vs) H _ I hq) (fun fl s' hs=>?_) fun e s' hs=>hs
 have fin:∀{σ':St} {H':Hp} {v:V} {u:Value},Inv (cxOf CX P w K mg base N qual scope f cdv A outer s H E) [] σ' H' s'->RelV v u->Q v H'->CE outer P w H s Q u s' :=
  fun {σ' H' v u} J rv q=>⟨v,H',J.os,J.bare,J.base,J.hok,rv,q⟩
 cases fl with
 | ret u =>
  obtain ⟨v,σ',H',J,rv,q⟩:=hs;exact fin J rv q
 | next =>
  obtain ⟨σ',H',J,q⟩:=hs;exact fin (v:=V.non) (u:=Value.none) J rfl q
 | brk =>
  obtain ⟨_,_,_,q⟩:=hs;exact False.elim q
 | cont =>
  obtain ⟨_,_,_,q⟩:=hs;exact False.elim q
section
variable {X:Cx} {x:Str} {p pos:Pos} {e:Expr} {es:List Expr} {t:TA} {id T:String} {r:List V->Hp->VK->Prop}
def tCB (r:List V->Hp->VK->Prop) (t:TA):TE:=fun σ H Q=>t σ H fun vs H1=>r vs H1 Q
theorem zko (hc : CallR X (.builtin id) r) (hg : Gl X x) (hm : X.mg x = none) (hv : bootBuiltins x = some (.builtin id)) (ha : PA X (e :: es) t) (hn : x ≠ "__name__" := by decide) (hdb : (x == ("__debug__" : Str)) = false := by decide)
  (he:starEach (e::es) X.env=(false,eval e X.env)::starEach es X.env:=by rfl) (hpl:(backTo pos (starEach es X.env)).any (·.1)=false:=by rfl):PE X (.Call (.Name x p) (e::es) [] pos) (tCB r t):=by
 intro pins s σ H Q I h;refine xia (zlh I hg hm hv ?_ hn hdb);exact PyProof.Rows.callWith_builtin1 (thn (ha pos pins s σ H _ I h) fun us s1 ⟨vs,H1,I1,r1,q1⟩=>hc pins s1 σ H1 vs us Q I1 r1 q1) he hpl
theorem zdj (hc : CallR X (.type T) r) (hg : Gl X x) (hm : X.mg x = none) (hv : bootBuiltins x = some (.type T)) (ha : PA X (e :: es) t) (hn : x ≠ "__name__" := by decide) (hdb : (x == ("__debug__" : Str)) = false := by decide)
  (he:starEach (e::es) X.env=(false,eval e X.env)::starEach es X.env:=by rfl) (hpl:(backTo pos (starEach es X.env)).any (·.1)=false:=by rfl):PE X (.Call (.Name x p) (e::es) [] pos) (tCB r t):=by
 intro pins s σ H Q I h;refine xia (zlh I hg hm hv ?_ hn hdb);exact xjs (thn (ha pos pins s σ H _ I h) fun us s1 ⟨vs,H1,I1,r1,q1⟩=>hc pins s1 σ H1 vs us Q I1 r1 q1) he hpl
end
end L2
namespace HT
open PySem PyProof.Rows
def lexLt:List Int->List Int->Bool
 | [],[]=>false
 | [],_::_=>true
 | _::_,[]=>false
 | x::xs,y::ys=>if x=y then lexLt xs ys else decide (x < y)
theorem zbs (x y:Int) (xs ys:List Int):lexLt (x::xs) (y::ys)=if x=y then lexLt xs ys else decide (x < y):=rfl
theorem zcd:lexLt [] []=false:=rfl
theorem zbf (y:Int) (ys:List Int):lexLt [] (y::ys)=true:=rfl
theorem zbv (x:Int) (xs:List Int):lexLt (x::xs) []=false:=rfl
theorem zru (A:Around) (s:Shared) (a:Int) (t:Tok) (c:Int) (u:Tok):∃e,SeqAt.EqAt A s (.int a t) (.int c u) e/\(e=true↔a=c) :=
 ⟨(a == c),SeqAt.EqAt.int_int a t c u,by simp⟩
theorem zqk (A:Around) (s:Shared) (a:Int) (t:Tok) (c:Int) (u:Tok) (prog:Program) (w:World) (E:Value->Shared->Prop) (Q:Value->Shared->Prop) (h:Q (.bool (decide (a < c))) s) :
  wpAny (model prog w) A (richCompare .Lt (.int a t) (.int c u)) Q E s :=
 (PyProof.Rows.lt_int h:wpAny (model prog w) A (compareOp .Lt (.int a t) (.int c u)) Q E s)
section
open PySem.SeqAt
open PySem.AutoSeq1 (wpAny_loadPart')
open PySem.MeetsSeq PySem.MeetsSeq2 PySem.MeetsSeq3
theorem zdb (l b:Addr) (items items2:Array Value) (n n2:Nat) (dd dd2:Option Addr) (sl sl2:Array (Option Value)) (ns ms:List Int) (hi:IntsAre items.toList ns) (hj:IntsAre items2.toList ms) :
  Meets (Builtin.«tuple.__lt__» ⟨[.ref l,.ref b],[]⟩)
   (fun _ R s => s.heap.get? l = some { cls := .type "tuple", dict := dd, data := .seq items n, slots := sl } /\ s.heap.get? b = some { cls := .type "tuple", dict := dd2, data := .seq items2 n2, slots := sl2 } /\
    R (.ok (.ret (.bool (lexLt ns ms)))) s) :=
 .of_wp fun prog w A R s h=>by
  obtain ⟨hp,g,d,tk,os⟩:=s;obtain ⟨hl,hb,h⟩:=h
  have f2:=AutoSeq1.sub_tuple_tuple;have z1:items.size=ns.length:=by rw[← hi.length];simp
  have z2:items2.size=ms.length:=by rw[← hj.length];simp
  wp_walk using wpAny_loadPart' hl,wpAny_loadPart' hb,wpAny_forIn_list _ (fun rest b s'=>b.1=none/\s'=⟨hp,g,d,tk,os⟩/\∃(vs ws:List Value) (ns' ms':List Int),rest=vs.zip ws /\
   IntsAre vs ns'/\IntsAre ws ms'/\ns'.length+items2.size=ms'.length+items.size/\R (.ok (.ret (.bool (lexLt ns' ms')))) ⟨hp,g,d,tk,os⟩) _
  case turn =>
   rintro ⟨y,x⟩ rest b s' ⟨hb',rfl,vs,ws,ns',ms',hz,hvi,hwi,hlen,hR⟩;cases hvi with
   | nil=>rw[List.zip_nil_left] at hz;cases hz
   | cons a t hvi' =>
    cases hwi with
    | nil=>rw[List.zip_nil_right] at hz;cases hz
    | cons c u hwi' =>
     rw[List.zip_cons_cons] at hz;injection hz with hyx hrest
     injection hyx with hy hx
     subst hy hx;rw[zbs] at hR;simp only[xcb] at hlen;obtain ⟨e,he,hiff⟩:=zru A.in1 ⟨hp,g,d,tk,os⟩ a t c u;refine xba (he prog w _ _ ?_);cases e with
     | true =>
      rw[if_pos (hiff.mp rfl)] at hR
      wp_walk
      exact ⟨rfl,rfl,_,_,_,_,hrest,hvi',hwi',by lia,hR⟩
     | false =>
      rw[if_neg (fun q=>absurd (hiff.mpr q) xfd)] at hR;have hri:=zqk A.in1 ⟨hp,g,d,tk,os⟩ a t c u prog w
      wp_walk using hri
      exact ⟨_,rfl,by simpa using hR⟩
  case fin =>
   rintro ⟨b1,b2⟩ s' ⟨hb',rfl,vs,ws,ns',ms',hz,hvi,hwi,hlen,hR⟩;simp only at hb';subst hb';have hv:lexLt ns' ms'=decide (items.size < items2.size):=by
    cases hvi with
    | nil =>
     cases hwi with
     | nil =>
      simp only[xjg] at hlen;rw[zcd];exact (xct (by lia)).symm
     | cons c u hw =>
      simp only[xjg,xcb] at hlen;rw[zbf];exact (xdb (by lia)).symm
    | cons a t hv =>
     cases hwi with
     | nil =>
      simp only[xjg,xcb] at hlen;rw[zbv];exact (xct (by lia)).symm
     | cons c u hw =>
      rw[List.zip_cons_cons] at hz;cases hz
   rw[hv] at hR
   wp_walk
   exact ⟨_,rfl,by simpa [Builtin.Tuple.tupleCompareSizes] using hR⟩
  case h =>
   exact ⟨rfl,rfl,items.toList,items2.toList,ns,ms,rfl,hi,hj,by lia,h⟩
end
section
variable {prog:Program} {w:World} {A:Around} {E:Value->Shared->Prop} {s:Shared}
theorem zgi {l b:Addr} {items items2:Array Value} {ns ms:List Int} {Q:Value->Shared->Prop} (hl:IsTup s.heap l items) (hb:IsTup s.heap b items2) (hi:IntsAre items.toList ns) (hj:IntsAre items2.toList ms)
  (hu:A.units < cLine) (h:Q (.bool (lexLt ns ms)) s):wpAny (model prog w) A (compareOp .Lt (.ref l) (.ref b)) Q E s:=by
 obtain ⟨⟨cls,dd,data,sl⟩,ho,hc,n,hd⟩:=id hl;obtain ⟨⟨cls2,dd2,data2,sl2⟩,ho2,hc2,n2,hd2⟩:=id hb;simp only at hc hd hc2 hd2;subst hc hd hc2 hd2;exact richCompare_meets_room (op:=.Lt) ⟨_,ho,rfl⟩ ⟨_,ho2,rfl⟩ xjb PySem.F.entry_tuple_lt (PySem.F.args_tuple_lt_2 _ _) (zdb l b items items2 n n2 dd dd2 sl sl2 ns ms hi hj)
  ⟨ho,ho2,show Value.bool (lexLt ns ms)≠Value.notImplemented/\Q (.bool (lexLt ns ms)) s from ⟨(fun x=>nomatch x),h⟩⟩ hu
theorem zxn {t b:Addr} {vs ws:List Value} {Q:Value->Shared->Prop} (ht:IsTup s.heap t vs.toArray) (hb:IsTup s.heap b ws.toArray) (hv:vs≠[])
  (h1 : ws = [] -> Q (.ref t) s) (h2 : ws ≠ [] -> Q (.ref s.heap.objs.size) { s with heap := s.heap.push { cls := .type "tuple", data := .seq (vs ++ ws).toArray } })
  (hsz:vs.length+ws.length<=sizeLine):wpAny (model prog w) A (binaryOp .Add (.ref t) (.ref b)) Q E s:=by
 obtain ⟨⟨cls,dd,data,sl⟩,ho,hc,n,hd⟩:=id ht;obtain ⟨⟨cls2,dd2,data2,sl2⟩,ho2,hc2,n2,hd2⟩:=id hb;simp only at hc hd hc2 hd2;subst hc hd hc2 hd2;have e:vs.toArray++ws.toArray=(vs++ws).toArray:=by simp
 by_cases hw:ws=[]
 ·exact concat_meets ⟨_,ho,rfl⟩ ⟨_,ho2,rfl⟩ noFill_tuple_add seq_tuple_add xio xie (xhw _ _)
   (tuple_addW1 t b vs.toArray ws.toArray n n2 dd dd2 sl sl2 (by simpa using hv) (by simp[hw])) ⟨ho,ho2,h1 hw⟩
 ·refine concat_meets ⟨_,ho,rfl⟩ ⟨_,ho2,rfl⟩ noFill_tuple_add seq_tuple_add xio xie (xhw _ _)
   (tuple_addW2 t b vs.toArray ws.toArray n n2 dd dd2 sl sl2 (by simpa using hv) (by simpa using hw) (by rw[xbm,xbm];exact hsz)) ⟨ho,ho2,?_⟩
  rw[e];exact h2 hw
def sIx (n d:Nat):Option Int->Nat
 | none=>d
 | some v=>if v < 0 then (v+(n:Int)).toNat else min v.toNat n
theorem zyz (n d:Nat) (hd:d<=n) (o:Option Int):sIx n d o<=n:=by
 cases o with
 | none=>exact hd
 | some v =>
  show (if v < 0 then (v+(n:Int)).toNat else min v.toNat n)<=n;by_cases hv:v < 0
  ·rw[if_pos hv];lia
  ·rw[if_neg hv];exact xiv _ _
theorem zpy (v:Int) (n d:Nat):(if v < 0 then max (v+(n:Int)) 0 else min v (n:Int))=((sIx n d (some v):Nat):Int):=by
 show (if v < 0 then max (v+(n:Int)) 0 else min v (n:Int))=(((if v < 0 then (v+(n:Int)).toNat else min v.toNat n):Nat):Int)
 by_cases hv:v < 0
 ·simp only[if_pos hv];lia
 ·simp only[if_neg hv];lia
theorem zmi (lo hi:Option Int) (n:Nat):Builtin.Slice.sliceAdjust lo hi 1 (n:Int)=(((sIx n 0 lo:Nat):Int),((sIx n n hi:Nat):Int)):=by
 have h1:¬ ((1:Int) < 0):=by lia
 unfold Builtin.Slice.sliceAdjust;simp only[h1,xfl];refine Prod.ext ?_ ?_
 ·cases lo with
  | none=>rfl
  | some v=>exact zpy v n 0
 ·cases hi with
  | none=>rfl
  | some v=>exact zpy v n n
theorem zkn (i j:Nat):Builtin.Slice.slicePlaces (i:Int) (j:Int) 1=j - i:=by
 unfold Builtin.Slice.slicePlaces;have h1:(1:Int) > 0:=by lia
 simp only[h1,xet,Int.ediv_one];split<;>lia
theorem zgb {v:Value} {o:Option Int} {Q:Option Int->Shared->Prop} (p:IsPart v o) (h:Q o s):wpAny (model prog w) A (Builtin.Slice.slicePartIndex v) Q E s:=by
 cases p with
 | none=>exact slicePart_none h
 | int i t=>exact slicePart_int h
theorem zcb {sl:Addr} {vl vu:Value} {lo hi:Option Int} {n:Nat} {Q:Int × Int × Nat->Shared->Prop} (hs:s.heap.IsSliceOf sl vl vu .none) (pl:IsPart vl lo) (pu:IsPart vu hi)
  (h:Q (((sIx n 0 lo:Nat):Int),1,sIx n n hi - sIx n 0 lo) s):wpAny (model prog w) A (Builtin.Slice.sliceApplied (.ref sl) (pure (n:Int))) Q E s:=by
 obtain ⟨os,hos,hcs,hds⟩:=id hs;unfold Builtin.Slice.sliceApplied Builtin.Slice.sliceFields;refine xba (xba (wpAny_field hos hds (x:=vl) rfl (xba (wpAny_field hos hds (x:=vu) rfl (xba (wpAny_field hos hds (x:=.none) rfl (xbc ?_)))))));refine xba (slicePart_none ?_);show wpAny _ _ (if ((1:Int) == 0)=true then _ else _) _ _ s;rw[if_neg (by decide)];refine xba (zgb pl (xba (zgb pu (xba (xbc ?_)))));show wpAny _ _ (match Builtin.Slice.sliceAdjust lo hi 1 (n:Int) with | (lo,hi)=>pure (lo,(1:Int),Builtin.Slice.slicePlaces lo hi 1)) _ _ s;rw[zmi lo hi n];show wpAny _ _ (pure (((sIx n 0 lo:Nat):Int),(1:Int),Builtin.Slice.slicePlaces ((sIx n 0 lo:Nat):Int) ((sIx n n hi:Nat):Int) 1)) _ _ s;rw[zkn];exact xbc h
theorem zqs (xs:Array Value) (i k:Nat):((List.range k).filterMap fun (m:Nat)=>xs[((i:Int)+(m:Int) * 1).toNat]?).toArray=((xs.toList.drop i).take k).toArray:=by
 have e:(fun (m:Nat)=>xs[((i:Int)+(m:Int) * 1).toNat]?)=fun m=>xs[i+m]?:=by
  funext m
  have:((i:Int)+(m:Int) * 1).toNat=i+m:=by lia
  rw[this]
 rw[e];have:=pick_run xs i k;rw[List.filterMap_map] at this;have e2:((fun x=>xs[x]?) ∘ fun x=>i+x)=fun m=>xs[i+m]?:=rfl
 rw[e2] at this;rw[this]
theorem zdi {t sl:Addr} {items:Array Value} {vl vu:Value} {lo hi:Option Int} {Q:Value->Shared->Prop} (ht:IsTup s.heap t items) (hs:s.heap.IsSliceOf sl vl vu .none) (pl:IsPart vl lo) (pu:IsPart vu hi)
  (hw:¬ (sIx items.size 0 lo=0/\sIx items.size items.size hi=items.size))
  (h : Q (.ref s.heap.objs.size) { s with heap := s.heap.push { cls := .type "tuple", data := .seq ((items.toList.drop (sIx items.size 0 lo)).take (sIx items.size items.size hi - sIx items.size 0 lo)).toArray } })
  (hsz:items.size<=sizeLine):wpAny (model prog w) A (getItem (.ref t) (.ref sl)) Q E s:=by
 have htake:sizeOk (.seq ((items.toList.drop (sIx items.size 0 lo)).take (sIx items.size items.size hi - sIx items.size 0 lo)).toArray):=by
  show ((items.toList.drop (sIx items.size 0 lo)).take (sIx items.size items.size hi - sIx items.size 0 lo)).toArray.size<=sizeLine;rw[xbm,xee,xgk,xbq];lia
 have hj:sIx items.size items.size hi<=items.size:=zyz _ _ (xbe _) hi;obtain ⟨os,hos,hcs,hds⟩:=id hs;have hTs : s.TypeIs (.ref sl) "slice" := ⟨os, hos, hcs⟩
 unfold getItem
 try with_reducible refine xds ?_
 first | refine xba (xbc ?_) | skip
 refine xba (wpAny_sequenceKey ht.typeIs (by decide) ?_)
 refine xba (wpAny_callSpecial?_slot (name := Str.ofString "__getitem__") ht.typeIs xgp
  (xdw xgp ht.typeIs entry_tuple_getitem ?_ (args_tuple_getitem _ _)))
 show wpAny _ _ (Builtin.Tuple.tupleItemsOf (.ref t) >>= _) _ _ s;refine xba (tupleItemsOf_ ht ?_);refine xba (wpAny_typeOf hTs ?_);rw[if_pos (by decide)];refine xba (zcb hs pl pu ?_);have hno:¬ ((((sIx items.size 0 lo:Nat):Int) == 0 && (1:Int) == 1 && (sIx items.size items.size hi - sIx items.size 0 lo) == items.size)=true):=by
  intro q;rw[xfa,xfa] at q;have q1:((sIx items.size 0 lo:Nat):Int)=0:=eq_of_beq q.1.1;have q2:sIx items.size items.size hi - sIx items.size 0 lo=items.size:=eq_of_beq q.2;exact hw ⟨by lia,by lia⟩
 show wpAny _ _ (if (((sIx items.size 0 lo:Nat):Int) == 0 && (1:Int) == 1 && (sIx items.size items.size hi - sIx items.size 0 lo) == items.size)=true then _ else _) _ _ s;rw[if_neg hno,zqs]
 first
  | exact xba (m:=Builtin.Tuple.tupleExact _) (xdf (xbc ⟨_,rfl,xbc h⟩) htake)
  | exact xba (m:=Builtin.Tuple.tupleExact _) (xdf (xba (xbc (xbc ⟨_,rfl,xbc h⟩))) htake)
  | exact xba (xba (m:=Builtin.Tuple.tupleExact _) (xdf (xbc (xbc ⟨_,rfl,xbc h⟩)) htake))
  | exact xba (xba (m:=Builtin.Tuple.tupleExact _) (xdf (xbc ⟨_,rfl,xbc h⟩) htake))
end
end HT
namespace L2
open PySem PySem.Spec PyProof.Rows
abbrev TO:=St->Hp->(Option Int->Hp->Prop)->Prop
def PO (X:Cx) (e:Option Expr) (t:TO):Prop :=
 ∀(pins:List (Addr × Obj)) (s:Shared) (σ:St) (H:Hp) (Q:Option Int->Hp->Prop),Inv X pins σ H s->t σ H Q ->
  wpAny (model X.prog X.w) X.A (evalPart e X.env) (fun u s'=>∃o H',Inv X pins σ H' s'/\IsPart u o/\Q o H') X.xe s
def tNoPart:TO:=fun _ H Q=>Q none H
def tPart (t:TE):TO:=fun σ H Q=>t σ H fun x H1=>∃i,x=.int i/\Q (some i) H1
theorem zce {ns:List Int}:∀{us:List Value},Vals (ns.map V.int) us->IntsAre us ns:=by
 induction ns with
 | nil=>intro us r;rw[xko] at r;cases r;exact .nil
 | cons n ns ih =>
  intro us r;rw[xbw] at r;cases r with
  | cons r1 r2 =>
   obtain ⟨t,e⟩:=r1;subst e;exact .cons n t (ih r2)
section
variable {X:Cx} {e:Expr} {te:TE} {lo hi:Option Expr} {tl th:TO} {pos p2:Pos}
theorem zuj:PO X none tNoPart:=by
 intro pins s σ H Q I h;rw[evalPart_none];exact xbc ⟨none,H,I,.none,h⟩
theorem zui (h:PE X e te):PO X (some e) (tPart te):=by
 intro pins s σ H Q I hw;rw[evalPart_some];refine thn (h pins s σ H _ I hw) fun u s1 hq0=>?_
 obtain ⟨x,H1,I1,r1,q1⟩:=hq0;obtain ⟨i,rfl,q⟩:=q1;obtain ⟨t,rfl⟩:=r1;exact ⟨some i,H1,I1,.int i t,q⟩
def SlR (X:Cx) (r:V->Option Int->Option Int->Hp->VK->Prop):Prop :=
 ∀(pins:List (Addr × Obj)) (s:Shared) (σ:St) (H:Hp) (x:V) (v vl vu:Value) (lo hi:Option Int) (sl:Addr) (Q:VK),Inv X pins σ H s->RelV x v->s.heap.IsSliceOf sl vl vu .none->IsPart vl lo->IsPart vu hi->r x lo hi H Q ->
  ∃ T id, typeLookup (.type T) "__getitem__" = pure (some (.builtin id)) /\ s.TypeIs v T /\ wpAny (model X.prog X.w) X.A (getItem v (.ref sl)) (EP X pins σ Q) X.xe s
theorem SlR.or {r r':V->Option Int->Option Int->Hp->VK->Prop} (h:SlR X r) (h':SlR X r'):SlR X (fun x lo hi H Q=>r x lo hi H Q\/r' x lo hi H Q):=by
 intro pins s σ H x v vl vu lo hi sl Q I rx hs pl pu q;rcases q with q | q
 ·exact h pins s σ H x v vl vu lo hi sl Q I rx hs pl pu q
 ·exact h' pins s σ H x v vl vu lo hi sl Q I rx hs pl pu q
def tSl (r:V->Option Int->Option Int->Hp->VK->Prop) (te:TE) (tl th:TO):TE:=fun σ H Q=>te σ H fun x H1=>tl σ H1 fun l H2=>th σ H2 fun u H3=>r x l u H3 Q
theorem zqt {r:V->Option Int->Option Int->Hp->VK->Prop} (hr:SlR X r) (he:PE X e te) (hl:PO X lo tl) (hu:PO X hi th):PE X (.Subscript e (.Slice lo hi none p2) pos) (tSl r te tl th):=by
 intro pins s σ H Q I h;refine Subscript_ (thn (he pins s σ H _ I h) fun v s1 hq0=>?_);obtain ⟨x,H1,I1,r1,q1⟩:=hq0;refine wpAny_Slice (thn (hl pins s1 σ H1 _ I1 q1) fun vl s2 ⟨l,H2,I2,pl,q2⟩=>thn (hu pins s2 σ H2 _ I2 q2) fun vu s3 hq0=>?_);obtain ⟨u,H3,I3,pu,q3⟩:=hq0;rw[evalPart_none];refine xbc ?_;have I4 : Inv X pins σ H3 { s3 with heap := s3.heap.push { cls := .type "slice", data := .fields #[vl, vu, .none] } } := I3.kept (t' := s3.toks) fun b ob q => xbh _ q
 obtain ⟨T, id, hT, ht, hg⟩ := hr pins { s3 with heap := s3.heap.push { cls := .type "slice", data := .fields #[vl, vu, .none] } } σ H3 x v vl vu l u s3.heap.objs.size Q I4 r1 (Heap.IsSliceOf.new ..) pl pu q3
 show wpAny (model X.prog X.w) X.A (subscriptTail e (.Slice lo hi none p2) v (.ref s3.heap.objs.size)) (EP X pins σ Q) X.xe { s3 with heap := s3.heap.push { cls := .type "slice", data := .fields #[vl, vu, .none] } }
 exact tail_any (ops:=[.ref s3.heap.objs.size,v]) ht hT hg (by with_unfolding_all rfl)
def cutV (xs:List V) (lo hi:Option Int):List V:=(xs.drop (HT.sIx xs.length 0 lo)).take (HT.sIx xs.length xs.length hi - HT.sIx xs.length 0 lo)
theorem zfa (xs:List V) (lo hi:Option Int):(cutV xs lo hi).length<=xs.length:=by
 unfold cutV;rw[xee,xgk];lia
def rSlT (K:Fg):V->Option Int->Option Int->Hp->VK->Prop:=fun x lo hi H Q=>∃a xs,x=.ref a/\SqT K H a xs /\
 ¬ (HT.sIx xs.length 0 lo=0/\HT.sIx xs.length xs.length hi=xs.length)/\∀p,H p=none->Q (.ref p) (upd H p (.tup (cutV xs lo hi)))
theorem zys:SlR X (rSlT X.K):=by
 intro pins s σ H x v vl vu lo hi sl Q I rx hs pl pu h;obtain ⟨a,xs,rfl,hx,hw,q⟩:=h;cases rx;obtain ⟨its,r,ht,hz⟩:=I.tuple hx;have hlen:its.toArray.size=xs.length:=by rw[xbm];exact r.length.symm
 refine ⟨"tuple", _, xgp.lookup, ht.typeIs, ?_⟩
 refine HT.zdi ht hs pl pu (by rw[hlen];exact hw) ?_ (by rw[hlen];exact hz);rw[hlen];refine ⟨.ref s.heap.objs.size,_,I.laid (t':=s.toks) (o:=.tup (cutV xs lo hi)) (fun b ob q=>xbh _ q) (xbe _) ?_,rfl,q _ (I.hok.fresh (xbe _))⟩;exact ⟨xbb (zfa xs lo hi) hz,_,(r.drop (HT.sIx xs.length 0 lo)).take (HT.sIx xs.length xs.length hi - HT.sIx xs.length 0 lo),IsTup.new _ _⟩
def rLtT (K:Fg):R2:=fun x y H Q=>∃a b ns ms,x=.ref a/\y=.ref b/\SqT K H a (ns.map V.int)/\SqT K H b (ms.map V.int)/\Q (.bl (HT.lexLt ns ms)) H
theorem zzr (hu:X.A.units < cLine):OpR X (compareOp .Lt) (rLtT X.K):=by
 intro pins s σ H x y v u Q I rx ry h;obtain ⟨a,b,ns,ms,rfl,rfl,ha,hb,q⟩:=h;cases rx;cases ry;obtain ⟨its,r1,p1,_⟩:=I.tuple ha;obtain ⟨its2,r2,p2,_⟩:=I.tuple hb;have i1:IntsAre its.toArray.toList ns:=zce r1;have i2:IntsAre its2.toArray.toList ms:=zce r2;exact HT.zgi p1 p2 i1 i2 hu ⟨.bl (HT.lexLt ns ms),H,I,rfl,q⟩
def rCatT (K:Fg):R2:=fun x y H Q=>∃a b xs ys,x=.ref a/\y=.ref b/\SqT K H a xs/\SqT K H b ys/\xs≠[]/\xs.length+ys.length<=sizeLine /\
 (ys=[]->Q (.ref a) H)/\(ys≠[]->∀p,H p=none->Q (.ref p) (upd H p (.tup (xs++ys))))
theorem Vals.nil_iff {xs:List V} {us:List Value} (r:Vals xs us):us=[]↔xs=[]:=by
 cases r with
 | nil=>simp
 | cons _ _=>simp
theorem zvb:OpR X (binaryOp .Add) (rCatT X.K):=by
 intro pins s σ H x y v u Q I rx ry h;obtain ⟨a,b,xs,ys,rfl,rfl,ha,hb,hx,hz,q1,q2⟩:=h;cases rx;cases ry;obtain ⟨its,r1,p1,_⟩:=I.tuple ha;obtain ⟨its2,r2,p2,_⟩:=I.tuple hb;refine HT.zxn p1 p2 (fun z=>hx (r1.nil_iff.mp z)) (fun z=>⟨.ref a,H,I,rfl,q1 (r2.nil_iff.mp z)⟩) (fun z=>?_) (by rw[← r1.length,← r2.length];exact hz);refine ⟨.ref s.heap.objs.size,_,I.laid (t':=s.toks) (o:=.tup (xs++ys)) (fun b ob q=>xbh _ q) (xbe _) ?_,rfl,q2 (fun w=>z (r2.nil_iff.mpr w)) _ (I.hok.fresh (xbe _))⟩;exact ⟨by rw[xcd];exact hz,_,r1.append r2,IsTup.new _ _⟩
end
def ixN (n:Nat) (i:Int):Option Nat:=if 0<=i then (if i < n then some i.toNat else none) else if -(n:Int)<=i then some (i+n).toNat else none
def atI {α:Type} (xs:List α) (i:Int):Option α:=(ixN xs.length i).bind fun j=>xs[j]?
theorem zpk {n:Nat} {i:Int} {j:Nat} (h:ixN n i=some j):seqIndex? i n=some j/\j < n/\-(n:Int)<=i/\i < n:=by
 unfold ixN at h;by_cases h0:0<=i
 ·rw[if_pos h0] at h;by_cases h1:i < n
  ·rw[if_pos h1] at h;have e:i.toNat=j:=xck h;exact ⟨by rw[seqIndex_of h0 h1,e],by lia,by lia,h1⟩
  ·rw[if_neg h1] at h;cases h
 ·rw[if_neg h0] at h;by_cases h1:-(n:Int)<=i
  ·rw[if_pos h1] at h;have e:(i+n).toNat=j:=xck h;exact ⟨by rw[seqIndex_neg (by lia) h1,e],by lia,h1,by lia⟩
  ·rw[if_neg h1] at h;cases h
theorem zme {α:Type} {xs:List α} {i:Int} {v:α} (h:atI xs i=some v):∃j,seqIndex? i xs.length=some j/\xs[j]?=some v/\j < xs.length/\-(xs.length:Int)<=i/\i < xs.length:=by
 unfold atI at h;cases e:ixN xs.length i with
 | none=>rw[e] at h;cases h
 | some j =>
  rw[e] at h;obtain ⟨h1,h2,h3,h4⟩:=zpk e;exact ⟨j,h1,h,h2,h3,h4⟩
theorem zya {α:Type} {xs:List α} {j:Nat} {v:α} (h:xs[j]?=some v):atI xs (j:Int)=some v:=by
 have hj:j < xs.length:=(xbn.mp h).1;have e:ixN xs.length (j:Int)=some j:=by
  unfold ixN;rw[if_pos (by lia),if_pos (by lia)];simp
 unfold atI;rw[e];exact h
def PlainIx (b:Expr):Prop:=∀o i,subscripted b false o i=operate [o,i] (getItem o i)
def IxR (X:Cx) (r:R2):Prop :=
 ∀(value slice:Expr) (pins:List (Addr × Obj)) (s:Shared) (σ:St) (H:Hp) (x y:V) (v u:Value) (Q:VK),Inv X pins σ H s->RelV x v->RelV y u->r x y H Q ->
  subscripted slice false v u=operate [v,u] (getItem v u)->wpAny (model X.prog X.w) X.A (subscriptTail value slice v u) (EP X pins σ Q) X.xe s
def MtR (X:Cx) (id:String) (r:V->List V->Hp->VK->Prop):Prop :=
 ∀(pins:List (Addr × Obj)) (s:Shared) (σ:St) (H:Hp) (x:V) (xs:List V) (v:Value) (us:List Value) (Q:VK),Inv X pins σ H s->RelV x v->Vals xs us->r x xs H Q ->
  wpAny (model X.prog X.w) X.A (call (.builtin id) (v::us)) (EP X pins σ Q) X.xe s
section
variable {X:Cx} {a b:Expr} {ta tb:TE} {pos:Pos}
theorem IxR.or {r r':R2} (h:IxR X r) (h':IxR X r'):IxR X (fun x y H Q=>r x y H Q\/r' x y H Q):=by
 intro value slice pins s σ H x y v u Q I rx ry q hs;rcases q with q | q
 ·exact h value slice pins s σ H x y v u Q I rx ry q hs
 ·exact h' value slice pins s σ H x y v u Q I rx ry q hs
theorem zbds {r:R2} (hr:IxR X r) (ha:PE X a ta) (hb:PE X b tb) (hs:PlainIx b):PE X (.Subscript a b pos) (tOp r ta tb):=by
 intro pins s σ H Q I h;exact Subscript_ (binT ha hb I h fun v u s2 x y H2 I2 rx ry q=>hr a b pins s2 σ H2 x y v u Q I2 rx ry q (hs _ _))
def rIxL (K:Fg):R2:=fun x y H Q=>∃p xs i v,x=.ref p/\y=.int i/\SqL K H p xs/\atI xs i=some v/\Q v H
def rIxT (K:Fg):R2:=fun x y H Q=>∃p xs i v,x=.ref p/\y=.int i/\SqT K H p xs/\atI xs i=some v/\Q v H
def rIxS:R2:=fun x y H Q=>∃z i c,x=.str z/\y=.int i/\z.length<=sizeLine/\atI z.cps.toList i=some c/\Q (.str ⟨#[c]⟩) H
theorem zvt:IxR X (rIxL X.K):=by
 intro value slice pins s σ H x y v u Q I rx ry h hs;obtain ⟨p,xs,i,z,rfl,rfl,hq,he,q⟩:=h;cases rx;obtain ⟨t,rfl⟩:=ry;obtain ⟨its,r,pl,hz⟩:=I.list hq;obtain ⟨j,h1,h2,h3,h4,h5⟩:=zme he;obtain ⟨w,ew,rw'⟩:=r.get h2;have hl:=r.length;have hn:=line63;have fin:EP X pins σ Q w s:=⟨z,H,I,rw',q⟩
 by_cases h0:0<=i
 ·have hj:i.toNat=j:=by
   rw[seqIndex_of h0 h5] at h1;exact xck h1
  exact item_listR pl.isList h0 (by lia) (by rw[hj];simpa using ew) fin hs
 ·have hj:(i+(its.toArray.size:Int)).toNat=j:=by
   rw[seqIndex_neg (by lia) h4] at h1;rw[xbm,← hl];exact xck h1
  exact subscriptTail_builtinR (x:=w) pl.isList.typeIs slot_list_getitem.lookup
   (wpAny_getItem_list_neg (Q:=fun r s'=>r=w/\EP X pins σ Q r s') pl.isList (by lia) (by rw[xbm]<;>lia) (by lia) (by rw[hj];simpa using ew) ⟨rfl,fin⟩) hs
theorem zbak:IxR X (rIxT X.K):=by
 intro value slice pins s σ H x y v u Q I rx ry h hs;obtain ⟨p,xs,i,z,rfl,rfl,hq,he,q⟩:=h;cases rx;obtain ⟨t,rfl⟩:=ry;obtain ⟨its,r,pl,hz⟩:=I.tuple hq;obtain ⟨j,h1,h2,h3,h4,h5⟩:=zme he;obtain ⟨w,ew,rw'⟩:=r.get h2;have hl:=r.length;have hn:=line63;have fin:EP X pins σ Q w s:=⟨z,H,I,rw',q⟩
 exact subscriptTail_builtinR (x:=w) pl.typeIs xib.lookup
  (getItem_tuple (j:=j) (Q:=fun r s'=>r=w/\EP X pins σ Q r s') pl (by lia) (by lia) (by rw[xbm,← hl];exact h1) (by simpa using ew) ⟨rfl,fin⟩) hs
theorem zbal:IxR X rIxS:=by
 intro value slice pins s σ H x y v u Q I rx ry h hs;obtain ⟨z,i,c,rfl,rfl,hz,he,q⟩:=h;obtain ⟨t,rfl⟩:=rx;obtain ⟨t',rfl⟩:=ry;obtain ⟨j,h1,h2,h3,h4,h5⟩:=zme he;have hl:z.cps.toList.length=z.length:=by simp[Str.length]
 rw[hl] at h1 h4 h5;have hn:=line63
 exact tail_any (typeIs_str s z t) slot_str_getitem.lookup (getItem_str (c:=c) (by
  have e1:decide (i < -(2 ^ 63:Int))=false:=xct (by lia);have e2:decide (i ≥ 2 ^ 63)=false:=xct (by lia)
  rw[e1,e2,Bool.or_false]) (by rw[h1];simpa using h2) ⟨.str ⟨#[c]⟩,H,I.tok _,⟨_,rfl⟩,q⟩) hs
def rIx (K:Fg):R2:=fun x y H Q=>rIxL K x y H Q\/rIxT K x y H Q\/rIxS x y H Q
theorem zbam:IxR X (rIx X.K):=zvt.or (zbak.or zbal)
theorem zlc (its : List Value) (n j : Nat) (u : Value) : Obj.mapSeq (·.setIfInBounds j u) { cls := .type "list", data := .seq its.toArray n } = { cls := .type "list", data := .seq (its.set j u).toArray n } := by
 simp[Obj.mapSeq]
theorem Inv.lst {pins:List (Addr × Obj)} {σ:St} {H:Hp} {s:Shared} {p:Addr} {xs:List V} (I:Inv X pins σ H s) (h:H p=some (.lst xs)) :
  ∃ (its : List Value) (n : Nat), Vals xs its /\ s.heap.get? p = some { cls := .type "list", data := .seq its.toArray n } /\ xs.length <= sizeLine := by
 obtain ⟨z,its,n,r,e⟩:=I.hok p _ h;exact ⟨its,n,r,e,z⟩
theorem Inv.lstUpd {pins:List (Addr × Obj)} {σ:St} {H:Hp} {s:Shared} {p:Addr} {xs ys:List V} {its its':List Value} {n n':Nat} {f:Obj->Obj} (I:Inv X pins σ H s) (h:H p=some (.lst xs))
  (ho : s.heap.get? p = some { cls := .type "list", data := .seq its.toArray n }) (hf : f { cls := .type "list", data := .seq its.toArray n } = { cls := .type "list", data := .seq its'.toArray n' }) (r : Vals ys its') (hz : ys.length <= sizeLine) (t : Nat) :
  Inv X pins σ (upd H p (.lst ys)) {s with heap:=s.heap.update p f,toks:=t}:=by
 have e : (s.heap.update p f).get? p = some { cls := .type "list", data := .seq its'.toArray n' } := by
  rw[xdy f ho (by rw[hf]<;>rfl),hf]
 refine I.write (x:=p) (e:=p) (by rw[h];trivial) (.inl rfl) (fun b u hb q=>(xfv _ _ (xfc hb)).trans q) ⟨_,e⟩ ?_;exact ⟨hz,its',n',r,e⟩
def rSetL:V->V->V->Hp->(Hp->Prop)->Prop:=fun o i v H Q=>∃p xs k j,o=.ref p/\i=.int k/\H p=some (.lst xs)/\ixN xs.length k=some j/\Q (upd H p (.lst (xs.set j v)))
theorem zqi:PSet X rSetL:=by
 intro pins s σ H o i v ov iv u Q I ro ri rv h;obtain ⟨p,xs,k,j,rfl,rfl,hp,hj,q⟩:=h;cases ro;obtain ⟨t,rfl⟩:=ri;obtain ⟨its,n,r,ho,hz⟩:=I.lst hp;obtain ⟨h1,h2,h3,h4⟩:=zpk hj;have hl:=r.length;have hn:=line63;have I':Inv X pins σ (upd H p (.lst (xs.set j v))) {s with heap:=s.heap.update p (Obj.mapSeq (·.setIfInBounds j u))} :=
  I.lstUpd hp ho (zlc its n j u) (r.set rv j) (by rw[xfz];exact hz) s.toks
 by_cases h0:0<=k
 ·have hk:k.toNat=j:=by
   rw[seqIndex_of h0 h4] at h1;exact xck h1
  exact PySem.W.ki_setAt ho h0 (by lia) (by rw[xbm,← hl];exact h4) (by rw[hk];exact ⟨_,I',q⟩)
 ·have hk:(k+(its.toArray.size:Int)).toNat=j:=by
   rw[seqIndex_neg (by lia) h3] at h1;rw[xbm,← hl];exact xck h1
  exact PySem.W.ki_setBack ho (by lia) (by rw[xbm,← hl];exact h3) (by lia) (by rw[hk];exact ⟨_,I',q⟩)
theorem zhf (lo hi:Option Int) (n:Nat):(sliceBounds lo hi none n).1=((HT.sIx n 0 lo:Nat):Int)/\(sliceBounds lo hi none n).2.1=((HT.sIx n n hi:Nat):Int)/\(sliceBounds lo hi none n).2.2=1:=by
 refine ⟨?_,?_,rfl⟩
 ·cases lo with
  | none=>simp[sliceBounds,HT.sIx]
  | some i =>
   simp only[sliceBounds,HT.sIx,Option.getD_none,show (1:Int) > 0 by decide,xet];by_cases h:i < 0
   ·simp only[h,xet]<;>lia
   ·simp only[h,xfl]<;>lia
 ·cases hi with
  | none=>simp[sliceBounds,HT.sIx]
  | some i =>
   simp only[sliceBounds,HT.sIx,Option.getD_none,show (1:Int) > 0 by decide,xet];by_cases h:i < 0
   ·simp only[h,xet]<;>lia
   ·simp only[h,xfl]<;>lia
theorem zga (its:List Value) (lo hi:Option Int):slicePick its.toArray lo hi none=((its.drop (HT.sIx its.length 0 lo)).take (HT.sIx its.length its.length hi - HT.sIx its.length 0 lo)).toArray:=by
 obtain ⟨h1,h2,h3⟩:=zhf lo hi its.toArray.size;unfold slicePick;rw[h1,h2,h3];simp only[sliceRange_one,pick_run,xbm]<;>rfl
def rSlL (K:Fg):V->Option Int->Option Int->Hp->VK->Prop:=fun x lo hi H Q=>∃a xs,x=.ref a/\SqL K H a xs/\∀p,H p=none->Q (.ref p) (upd H p (.lst (cutV xs lo hi)))
theorem ztv:SlR X (rSlL X.K):=by
 intro pins s σ H x v vl vu lo hi sl Q I rx hs pl pu h;obtain ⟨a,xs,rfl,hx,q⟩:=h;cases rx;obtain ⟨its,r,ht,hz⟩:=I.list hx;have hlen:=r.length;refine ⟨"list", _, slot_list_getitem.lookup, ht.isList.typeIs, ?_⟩
 refine wpAny_getItem_list_slice ht.isList hs pl pu .none (by simp) ?_ (by rw[xbm]<;>lia);rw[zga,← hlen];refine ⟨.ref s.heap.objs.size,_,I.laid (t':=s.toks) (o:=.lst (cutV xs lo hi)) (fun b ob q=>xbh _ q) (xbe _) ?_,rfl,q _ (I.hok.fresh (xbe _))⟩;exact ⟨xbb (zfa xs lo hi) hz,_,0,(r.drop (HT.sIx xs.length 0 lo)).take (HT.sIx xs.length xs.length hi - HT.sIx xs.length 0 lo),xbt _ rfl⟩
theorem zbx : CallR X (.builtin "len") (fun xs H Q => ∃ p ys, xs = [.ref p] /\ (SqL X.K H p ys \/ SqT X.K H p ys) /\ Q (.int ys.length) H) := by
 intro pins s σ H xs us Q I r h;obtain ⟨p,ys,rfl,hq,q⟩:=h;obtain ⟨u,rfl,rx⟩:=vals1 r;cases rx;have hn:=line63;rcases hq with hq | hq
 ·obtain ⟨its,r',pl,hz⟩:=I.list hq;have hlen:=r'.length;exact Calls.call_len_list pl.isList (by simp only[xbm]<;>lia) ⟨.int ys.length,H,I.tok _,⟨s.toks+1,by rw[xbm,hlen]⟩,q⟩
 ·obtain ⟨its,r',pl,hz⟩:=I.tuple hq;have hlen:=r'.length;exact len_tuple pl (by simp only[xbm]<;>lia) ⟨.int ys.length,H,I.tok _,⟨s.toks+1,by rw[xbm,hlen]⟩,q⟩
theorem CallR.or {f:Value} {r r':List V->Hp->VK->Prop} (h:CallR X f r) (h':CallR X f r'):CallR X f (fun xs H Q=>r xs H Q\/r' xs H Q):=by
 intro pins s σ H xs us Q I rs q;rcases q with q | q
 ·exact h pins s σ H xs us Q I rs q
 ·exact h' pins s σ H xs us Q I rs q
theorem zbo : CallR X (.type "tuple") (fun xs H Q => ∃ p ys, xs = [.ref p] /\ ((SqL X.K H p ys /\ ∀ l, H l = none -> Q (.ref l) (upd H l (.tup ys))) \/ (SqT X.K H p ys /\ Q (.ref p) H))) := by
 intro pins s σ H xs us Q I r h;obtain ⟨p,ys,rfl,h⟩:=h;obtain ⟨u,rfl,rx⟩:=vals1 r;cases rx;rcases h with ⟨hq,q⟩ | ⟨hq,q⟩
 ·obtain ⟨its,r',pl,hz⟩:=I.list hq;have hlen:=r'.length;refine call_tuple_list pl.isList (fun h' kp=>?_) (by simp only[xbm]<;>lia);have I1:Inv X pins σ H {s with heap:=h'}:=I.kept (t':=s.toks) kp;have I2 : Inv X pins σ (upd H h'.objs.size (.tup ys)) { s with heap := h'.push { cls := .type "tuple", data := .seq its.toArray } } :=
   I1.laid (t':=s.toks) (fun b o e=>xbh _ e) (xbe _) (show ObjOk X.prog X.w _ _ _ (.tup ys) from ⟨hz,its,r',IsTup.new _ _⟩)
  exact ⟨.ref h'.objs.size,_,I2,rfl,q _ (I1.hok.fresh (xbe _))⟩
 ·obtain ⟨its,r',pl,hz⟩:=I.tuple hq;exact call_tuple_same pl ⟨.ref p,H,I,rfl,q⟩
def tyV (K:Fg) (T:String) (x:V) (H:Hp):Prop:=match x with
 | .str _ => T = "str"
 | .int _ => T = "int"
 | .ref p => (T = "list" /\ ∃ xs, SqL K H p xs) \/ (T = "tuple" /\ ∃ o, K.lookup p = some o /\ o.cls = .type "tuple" /\ o.dict = none) \/
  (T = "dict" /\ ((∃ kvs, H p = some (.dK kvs)) \/ ∃ kvs, H p = some (.dT kvs))) \/ (T = "set" /\ ∃ S n, H p = some (.set S n))
 | _=>False
theorem ztp {pins:List (Addr × Obj)} {σ:St} {H:Hp} {s:Shared} {T:String} {x:V} {v:Value} (I:Inv X pins σ H s) (r:RelV x v) (ty:tyV X.K T x H) :
  s.TypeIs v T/\∀a,v=.ref a->∃ob,s.heap.get? a=some ob/\ob.dict=none:=by
 cases x with
 | str z =>
  obtain ⟨t,rfl⟩:=r;cases (show T = "str" from ty)
  exact ⟨typeIs_str s z t,fun _ e=>nomatch e⟩
 | int i =>
  obtain ⟨t,rfl⟩:=r;cases (show T = "int" from ty)
  exact ⟨typeIs_int s i t,fun _ e=>nomatch e⟩
 | ref p =>
  cases r;rcases ty with ⟨rfl,xs,hq⟩ | ⟨rfl,o,hk,hc,hd⟩ | ⟨rfl,hk⟩ | ⟨rfl,S,n,hk⟩
  ·obtain ⟨its,_,pl,_⟩:=I.list hq;refine ⟨pl.isList.typeIs,fun a e=>?_⟩;cases e;obtain ⟨o,n,e,c,hd,_⟩:=pl;exact ⟨o,e,hd⟩
  ·refine ⟨⟨o,I.kIn p o hk,hc⟩,fun a e=>?_⟩;cases e;exact ⟨o,I.kIn _ o hk,hd⟩
  ·have z:∃o,s.heap.get? p=some o/\o.ExactDict:=by
    rcases hk with ⟨kvs,hk⟩ | ⟨kvs,hk⟩
    ·obtain ⟨_,_,_,_,o,_,_,e,ex,_⟩:=I.hok p _ hk;exact ⟨o,e,ex⟩
    ·obtain ⟨_,_,_,_,o,_,_,e,ex,_⟩:=I.hok p _ hk;exact ⟨o,e,ex⟩
   obtain ⟨o,e,ex⟩:=z;refine ⟨⟨o,e,ex.1⟩,fun a e2=>?_⟩;cases e2;exact ⟨o,e,ex.2.1⟩
  ·obtain ⟨o,_,_,_,e,ex,_⟩:=I.hok p _ hk;refine ⟨⟨o,e,ex.1⟩,fun a e2=>?_⟩;cases e2;exact ⟨o,e,ex.2.1⟩
 | _=>exact False.elim ty
def tBM0 (K:Fg) (T:String) (r:V->List V->Hp->VK->Prop) (to:TE):TE:=fun σ H Q=>to σ H fun x H1=>tyV K T x H1/\r x [] H1 Q
def tBM (K:Fg) (T:String) (r:V->List V->Hp->VK->Prop) (to:TE) (t:TA):TE:=fun σ H Q=>to σ H fun x H1=>tyV K T x H1/\t σ H1 fun xs H2=>r x xs H2 Q
variable {o e:Expr} {es:List Expr} {to:TE} {t:TA} {name:Str} {apos cpos:Pos} {T id:String} {r:V->List V->Hp->VK->Prop}
theorem zzq (pa : PlainAttrs T) (slot : Slot T name id) (hty : typeOf (.builtin id) = pure (.type "method_descriptor")) (hm : MtR X id r) (ho : PE X o to)
  (hbase:attributeBase o name X.env (eval o X.env)=eval o X.env:=by rfl) (hline:(apos.endLine == cpos.line)=true:=by rfl):PE X (.Call (.Attribute o name apos) [] [] cpos) (tBM0 X.K T r to):=by
 intro pins s σ H Q I h;refine wpAny_Call_method0_late hbase hline (thn (ho pins s σ H _ I h) fun v s1 hq0=>?_);obtain ⟨x,H1,I1,r1,ty,q1⟩:=hq0;obtain ⟨h1,h2⟩:=ztp I1 r1 ty;exact ⟨T,id,pa,slot,hty,h1,h2,xip rfl (PySem.evalArgs_none (hm pins s1 σ H1 x [] v [] Q I1 r1 .nil q1))⟩
theorem zbdt (pa : PlainAttrs T) (slot : Slot T name id) (hty : typeOf (.builtin id) = pure (.type "method_descriptor")) (hm : MtR X id r) (ho : PE X o to) (ha : PA X (e :: es) t)
  (hbase:attributeBase o name X.env (eval o X.env)=eval o X.env:=by rfl)
  (hfew:((backTo cpos (starEach (e::es) X.env)).all (fun x=>!x.1) && (backToKw cpos (keywordEach [] X.env)).all (fun x=>x.1.isSome)
   && decide ((e::es).length+([]:List Keyword).length+(if ([]:List Keyword).isEmpty then 0 else 1) < 30))=true:=by rfl)
  (hline:(apos.endLine == cpos.line)=true:=by rfl) (hs:starEach (e::es) X.env=(false,eval e X.env)::starEach es X.env:=by rfl) (hplain:(backTo cpos (starEach es X.env)).any (·.1)=false:=by rfl) :
  PE X (.Call (.Attribute o name apos) (e::es) [] cpos) (tBM X.K T r to t):=by
 intro pins s σ H Q I h;refine wpAny_Call_method_late hbase hfew hline rfl (thn (ho pins s σ H _ I h) fun v s1 hq0=>?_);obtain ⟨x,H1,I1,r1,ty,q1⟩:=hq0;obtain ⟨h1,h2⟩:=ztp I1 r1 ty;refine ⟨T,id,pa,slot,hty,h1,h2,?_⟩;have hA:=ha cpos pins s1 σ H1 _ I1 q1;rw[hs] at hA ⊢;refine xip (by show (false || (backTo cpos (starEach es X.env)).any (·.1))=false;rw[hplain]<;>rfl) (Calls.evalArgs_plain ?_);exact thn hA fun us s2 ⟨vs,H2,I2,r2,q2⟩=>hm pins s2 σ H2 x vs v us Q I2 r1 r2 q2
/- xs.append(e),list.index on a module's tuple .. are MtR facts of 06m -/
end
def MtM (X:Cx) (id:String) (r:V->List V->Hp->VK->Prop):Prop :=
 ∀(pins:List (Addr × Obj)) (s:Shared) (σ:St) (H:Hp) (x:V) (xs:List V) (v:Value) (us:List Value) (Q:VK),Inv X pins σ H s->RelV x v->Vals xs us->r x xs H Q ->
  wpAny (model X.prog X.w) X.A (call (.builtin id) (v::us)) (EP X pins σ Q) X.xe s
theorem Vals.one:∀{x:V} {us:List Value},Vals [x] us->∃u,us=[u]/\RelV x u
 | _,_,.cons r .nil=>⟨_,rfl,r⟩
theorem Vals.zero:∀{us:List Value},Vals [] us->us=[]
 | _,.nil=>rfl
theorem Vals.reverse {xs:List V} {us:List Value} (h:Vals xs us):Vals xs.reverse us.reverse:=by
 induction h with
 | nil=>exact .nil
 | cons r t ih=>rw[xih,xih];exact Vals.append ih (.cons r .nil)
section
variable {X:Cx} {pins:List (Addr × Obj)} {σ:St} {H:Hp} {s:Shared} {l b:Addr} {xs ys zs:List V}
theorem Inv.lset {its its':List Value} {n:Nat} {f:Array Value->Array Value} {t':Nat} (I:Inv X pins σ H s) (hH:H l=some (.lst xs))
  (e : s.heap.get? l = some { cls := .type "list", data := .seq its.toArray n }) (hf : f its.toArray = its'.toArray) (hv : Vals ys its') (hz : ys.length <= sizeLine) :
  Inv X pins σ (upd H l (.lst ys)) {s with heap:=s.heap.update l (Obj.mapSeq f),toks:=t'}:=by
 have q:=PySem.IsL.update e f;rw[hf] at q;refine I.write (x:=l) (e:=l) (by rw[hH];exact trivial) (.inl rfl) (fun b' u hb hu=>(xfv s.heap (Obj.mapSeq f) (xfc hb)).trans hu) ⟨_,q⟩ ?_;exact ⟨hz,its',_,hv,q⟩
theorem Inv.lnew {its:List Value} {t':Nat} (I:Inv X pins σ H s) (hv:Vals ys its) (hz:ys.length<=sizeLine) :
  Inv X pins σ (upd H s.heap.objs.size (.lst ys)) { s with heap := s.heap.push { cls := .type "list", data := .seq its.toArray }, toks := t' } :=
 I.laid (fun _ _ q=>xbh _ q) (xbe _) ⟨hz,its,0,hv,xbt _ rfl⟩
theorem Inv.fresh (I:Inv X pins σ H s):H s.heap.objs.size=none:=I.hok.fresh (xbe _)
theorem Inv.lstM (I : Inv X pins σ H s) (hH : H l = some (.lst xs)) : xs.length <= sizeLine /\ ∃ (its : List Value) (n : Nat), Vals xs its /\ xs.length = its.length /\ s.heap.get? l = some { cls := .type "list", data := .seq its.toArray n } := by
 obtain ⟨z,its,n,r,e⟩:=I.hok l _ hH;exact ⟨z,its,n,r,r.length,e⟩
end
section
variable {X:Cx}
def rAppend:V->List V->Hp->VK->Prop:=fun x vs H Q=>∃l xs y,x=.ref l/\vs=[y]/\H l=some (.lst xs)/\xs.length < sizeLine/\Q .non (upd H l (.lst (xs++[y])))
theorem zfn : MtM X "list.append" rAppend := by
 intro pins s σ H x vs v us Q I rx rv h;obtain ⟨l,xs,y,rfl,rfl,hH,hz,q⟩:=h;cases rx;obtain ⟨u,rfl,ru⟩:=rv.one;obtain ⟨z,its,n,r,hl,e⟩:=I.lstM hH;refine call_meets F.slot_list_append ⟨_,e,rfl⟩ F.entry_list_append (F.args_list_append_2 _ _) (PySem.list_append l its.toArray n u (by rw[xbm];lia)) ⟨e,?_⟩;refine ⟨.non,_,I.lset (its':=its++[u]) hH e (by simp) (r.append (.cons ru .nil)) ?_,rfl,q⟩;rw[xcd,List.length_singleton];lia
def rReverse:V->List V->Hp->VK->Prop:=fun x vs H Q=>∃l xs,x=.ref l/\vs=[]/\H l=some (.lst xs)/\Q .non (upd H l (.lst xs.reverse))
theorem zkz : MtM X "list.reverse" rReverse := by
 intro pins s σ H x vs v us Q I rx rv h;obtain ⟨l,xs,rfl,rfl,hH,q⟩:=h;cases rx;have hus:=rv.zero;subst hus;obtain ⟨z,its,n,r,hl,e⟩:=I.lstM hH;refine call_meets F.slot_list_reverse ⟨_,e,rfl⟩ F.entry_list_reverse (F.args_list_reverse_1 _) (AutoSeq1.list_reverse_list_0 l its.toArray n (by rw[xbm];lia)) ⟨e,?_⟩;refine ⟨.non,_,I.lset (its':=its.reverse) hH e (by simp) r.reverse ?_,rfl,q⟩;rw[List.length_reverse];lia
def rCat:R2:=fun x y H Q=>∃l b xs zs,x=.ref l/\y=.ref b/\H l=some (.lst xs)/\H b=some (.lst zs)/\xs.length+zs.length<=sizeLine/\∀p,H p=none->Q (.ref p) (upd H p (.lst (xs++zs)))
theorem zzs:OpR X (binaryOp .Add) rCat:=by
 intro pins s σ H x y v u Q I rx ry h;obtain ⟨l,b,xs,zs,rfl,rfl,hH,hB,hz,q⟩:=h;cases rx;cases ry;obtain ⟨z,its,n,r,hl,e⟩:=I.lstM hH;obtain ⟨z2,its2,n2,r2,hl2,e2⟩:=I.lstM hB;refine PySem.P.add_list e e2 ?_ (by rw[xbm,xbm];lia);have ea:its.toArray++its2.toArray=(its++its2).toArray:=by simp
 rw[ea];exact ⟨.ref _,_,I.lnew (t':=s.toks) (r.append r2) (by rw[xcd];lia),rfl,q _ I.fresh⟩
end
section
variable {prog:Program} {w:World} {A:Around} {E:Value->Shared->Prop} {s:Shared}
end
section
variable {X:Cx}
end
section
variable {κ:Type} [DecidableEq κ]
def valV (kvs:List (κ × V)) (k:κ):Option V:=(kvs.find? fun kv=>decide (kv.1=k)).map (·.2)
def putK (kvs:List (κ × V)) (k:κ) (v:V):List (κ × V) :=
 if (kvs.any fun kv=>decide (kv.1=k))=true then kvs.map (fun kv=>if kv.1=k then (kv.1,v) else kv) else kvs++[(k,v)]
theorem zfd {p:κ × V} {r:List (κ × V)} {k:κ} (e:p.1=k):valV (p::r) k=some p.2:=by simp[valV,xex,e]
theorem zfe {p:κ × V} {r:List (κ × V)} {k:κ} (e:¬ p.1=k):valV (p::r) k=valV r k:=by simp[valV,xex,e]
theorem zka (k:κ):∀kvs:List (κ × V),(kvs.any fun kv=>decide (kv.1=k))=(valV kvs k).isSome
 | []=>rfl
 | p::r=>by
  rw[xis];by_cases e:p.1=k
  ·simp only[zfd e,xdb e,Bool.true_or,Option.isSome_some]
  ·rw[zfe e,xct e,Bool.false_or];exact zka k r
theorem zew (kvs:List (κ × V)) (k:κ) (v:V):(putK kvs k v).length<=kvs.length+1:=by
 unfold putK;split
 ·rw[xbd];lia
 ·rw[xcd,xcb,xjg];lia
theorem RelO.isSome_eq {o:Option V} {u:Option Value} (r:RelO o u):o.isSome=u.isSome:=by
 cases o with
 | none=>cases u with
  | none=>rfl
  | some _=>exact (show False from r).elim
 | some _=>cases u with
  | none=>exact (show False from r).elim
  | some _=>rfl
theorem RelO.getD {o:Option V} {u:Option Value} {d:V} {d':Value} (r:RelO o u) (rd:RelV d d'):RelV (o.getD d) (u.getD d'):=by
 cases o with
 | none=>cases u with
  | none=>exact rd
  | some _=>exact (show False from r).elim
 | some _=>cases u with
  | none=>exact (show False from r).elim
  | some _=>exact r
theorem KV.val {kvs:List (κ × V)} {vs:List (κ × Value)} (r:KV kvs vs) (k:κ):RelO (valV kvs k) (valueAt vs k):=by
 unfold KV at r
 induction r with
 | nil=>exact True.intro
 | @cons p q ps qs h t ih =>
  obtain ⟨h1,h2⟩:=h;by_cases e:p.1=k
  ·have e':q.1=k:=h1.symm.trans e;have b:valueAt (q::qs) k=some q.2:=by simp[valueAt,xex,e']
   rw[zfd e,b];exact h2
  ·have e':¬ q.1=k:=fun z=>e (h1.trans z)
   have b:valueAt (q::qs) k=valueAt qs k:=by simp[valueAt,xex,e']
   rw[zfe e,b];exact ih
theorem KV.any {kvs:List (κ × V)} {vs:List (κ × Value)} (r:KV kvs vs) (k:κ):(kvs.any fun kv=>decide (kv.1=k))=vs.any fun kv=>decide (kv.1=k):=by
 unfold KV at r
 induction r with
 | nil=>rfl
 | cons h t ih=>rw[xis,xis,ih,h.1]
theorem KV.repl {kvs:List (κ × V)} {vs:List (κ × Value)} (r:KV kvs vs) (k:κ) {y:V} {u:Value} (ry:RelV y u) :
  KV (kvs.map fun kv=>if kv.1=k then (kv.1,y) else kv) (vs.map fun kv=>if kv.1=k then (kv.1,u) else kv):=by
 unfold KV at r ⊢
 induction r with
 | nil=>exact .nil
 | @cons p q ps qs h t ih =>
  rw[xbw,xbw];refine .cons ?_ ih;obtain ⟨h1,h2⟩:=h;by_cases e:p.1=k
  ·rw[if_pos e,if_pos (h1.symm.trans e)];exact ⟨h1,ry⟩
  ·rw[if_neg e,if_neg (fun z=>e (h1.trans z))];exact ⟨h1,h2⟩
theorem KV.put {kvs:List (κ × V)} {vs:List (κ × Value)} (r:KV kvs vs) (k:κ) {y:V} {u:Value} (ry:RelV y u):KV (putK kvs k y) (stored vs k u):=by
 unfold putK stored;rw[r.any k];by_cases e:(vs.any fun kv=>decide (kv.1=k))=true
 ·rw[if_pos e,if_pos e];exact r.repl k ry
 ·rw[if_neg e,if_neg e];exact Paired.snoc r ⟨rfl,ry⟩
theorem KV.length {kvs:List (κ × V)} {vs:List (κ × Value)} (r:KV kvs vs):kvs.length=vs.length:=xir r
end
theorem zyg {P:Program} {w:World} {k:Key} {u:Value} (r:RelV (kV k) u):(mixKind P w).is k u=true:=by
 cases k with
 | inl i=>obtain ⟨t,e⟩:=(show ∃t,u=Value.int i t from r);subst e;exact zjr P w i t
 | inr x=>obtain ⟨t,e⟩:=(show ∃t,u=Value.str x t from r);subst e;exact zjq P w x t
theorem zil {P:Program} {w:World}:∀{ks:List Key} {us:List Value},Vals (ks.map kV) us->ItemsAre (mixKind P w) ks us
 | [],_,r=>by rw[xko] at r;cases r;exact .nil
 | k::ks,_,r=>by
  rw[xbw] at r;cases r with
  | cons h t=>exact .cons (zyg h) (zil t)
abbrev KT (H:Hp):List (List Key × V)->List (List Key × Addr × Value)->Prop:=Paired fun p q=>p.1=q.1/\H q.2.1=some (.tup (p.1.map kV))/\RelV p.2 q.2.2
theorem KT.val {H:Hp} {kvs:List (List Key × V)} {xs:List (List Key × Addr × Value)} (r:KT H kvs xs) (k:List Key):RelO (valV kvs k) ((atKey xs k).map (·.2)):=by
 induction r with
 | nil=>exact True.intro
 | @cons p q ps qs h t ih =>
  obtain ⟨h1,_,h2⟩:=h;by_cases e:p.1=k
  ·have e':q.1=k:=h1.symm.trans e;have b:atKey (q::qs) k=some q.2:=by simp[atKey,xex,e']
   rw[zfd e,b];exact h2
  ·have e':¬ q.1=k:=fun z=>e (h1.trans z)
   have b:atKey (q::qs) k=atKey qs k:=by simp[atKey,xex,e']
   rw[zfe e,b];exact ih
theorem KT.repl {H:Hp} {kvs:List (List Key × V)} {xs:List (List Key × Addr × Value)} (r:KT H kvs xs) (k:List Key) {y:V} {u:Value} (ry:RelV y u) :
  KT H (kvs.map fun kv=>if kv.1=k then (kv.1,y) else kv) (xs.map (putAt k u)):=by
 induction r with
 | nil=>exact .nil
 | @cons p q ps qs h t ih =>
  rw[xbw,xbw];refine .cons ?_ ih;obtain ⟨h1,h2,h3⟩:=h;unfold putAt;by_cases e:p.1=k
  ·rw[if_pos e,if_pos (h1.symm.trans e)];exact ⟨h1,h2,ry⟩
  ·rw[if_neg e,if_neg (fun z=>e (h1.trans z))];exact ⟨h1,h2,h3⟩
theorem KT.put {H:Hp} {kvs:List (List Key × V)} {xs:List (List Key × Addr × Value)} (r:KT H kvs xs) (k:List Key) {b:Addr} {y:V} {u:Value} (hb:H b=some (.tup (k.map kV))) (ry:RelV y u) :
  KT H (putK kvs k y) (storedH xs k b u):=by
 have e:(kvs.any fun kv=>decide (kv.1=k))=(atKey xs k).isSome:=by
  rw[zka,(r.val k).isSome_eq,Option.isSome_map]
 unfold putK storedH;rw[e];by_cases q:(atKey xs k).isSome=true
 ·rw[if_pos q,if_pos q];exact r.repl k ry
 ·rw[if_neg q,if_neg q];exact Paired.snoc r ⟨rfl,hb,ry⟩
theorem KT.keeps {H H':Hp} {kvs:List (List Key × V)} {xs:List (List Key × Addr × Value)} (r:KT H kvs xs) (ht:∀b ys,H b=some (.tup ys)->H' b=some (.tup ys)):KT H' kvs xs :=
 Paired.mapP r fun _ _ z=>⟨z.1,ht _ _ z.2.1,z.2.2⟩
section
variable {P:Program} {w:World} {H:Hp} {h:Heap} {a:Addr}
theorem zbcv {u:HO} (ok:HOk P w H h) (e:Rd H a u):ObjOk P w H h a u:=e.ok ok
theorem zwq {kvs:List (Key × V)} (ok:HOk P w H h) (e:Rd H a (.dK kvs)):kvs.length<=sizeLine/\(a == sysModules)=false/\∃vs,KV kvs vs/\h.DictOf (mixKind P w) a vs :=
 show ObjOk P w H h a (.dK kvs) from zbcv ok e
theorem zben {kvs:List (Key × V)} (ok:HOk P w H h) (e:H a=some (.dK kvs)):kvs.length<=sizeLine/\(a == sysModules)=false/\∃vs,KV kvs vs/\h.DictOf (mixKind P w) a vs:=zwq ok (.inl e)
theorem znq {ks:List Key} (ok:HOk P w H h) (e:H a=some (.tup (ks.map kV))):(tupleKind (mixKind P w)).is h ks a:=by
 obtain ⟨_,its,r,o,h1,h2,n,h3⟩:=(show ObjOk P w H h a (.tup (ks.map kV)) from ok a _ e)
 exact ⟨o,its.toArray,n,h1,h2,h3,by simpa using zil r⟩
theorem zwj {kvs:List (List Key × V)} (ok:HOk P w H h) (e:Rd H a (.dT kvs)):kvs.length<=sizeLine/\(a == sysModules)=false /\
  ∃xs,KT H kvs xs/\h.DictOfH (tupleKind (mixKind P w)) a xs:=by
 obtain ⟨z,y,xs,r,o,es,ep,h1,h2,h3,h4,h5⟩:=(show ObjOk P w H h a (.dT kvs) from zbcv ok e)
 refine ⟨z,y,xs,r,o,es,ep,h1,h2,h3,h4,fun x hx=>?_,h5⟩;have all:∀{l:List (List Key × V)} {m:List (List Key × Addr × Value)},KT H l m->∀x∈m,(tupleKind (mixKind P w)).is h x.1 x.2.1:=by
  intro l m q
  induction q with
  | nil=>intro x hx;exact nomatch hx
  | @cons p q ps qs hq t ih =>
   intro x hx;rcases xbo.mp hx with e | hx
   ·subst e;exact znq ok (by rw[← hq.1];exact hq.2.1)
   ·exact ih x hx
 exact all r x hx
theorem zbel {kvs:List (List Key × V)} (ok:HOk P w H h) (e:H a=some (.dT kvs)):kvs.length<=sizeLine/\(a == sysModules)=false /\
 ∃xs,KT H kvs xs/\h.DictOfH (tupleKind (mixKind P w)) a xs:=zwj ok (.inl e)
end
def DGet (H:Hp) (a:Addr) (y:V) (r:Option V):Prop :=
 (∃kvs k,Rd H a (.dK kvs)/\y=kV k/\r=valV kvs k)\/∃kvs k b,Rd H a (.dT kvs)/\y=.ref b/\H b=some (.tup (k.map kV))/\r=valV kvs k
def DPut (H:Hp) (a:Addr) (y v:V) (H':Hp):Prop :=
 (∃kvs k,H a=some (.dK kvs)/\y=kV k/\kvs.length < sizeLine/\H'=upd H a (.dK (putK kvs k v))) \/
 ∃kvs k b,H a=some (.dT kvs)/\y=.ref b/\H b=some (.tup (k.map kV))/\kvs.length < sizeLine/\H'=upd H a (.dT (putK kvs k v))
theorem DPut.t {H:Hp} {a b:Addr} {kvs:List (List Key × V)} {k:List Key} {v:V} (e:H a=some (.dT kvs)) (eb:H b=some (.tup (k.map kV))) (hl:kvs.length < sizeLine) :
 DPut H a (.ref b) v (upd H a (.dT (putK kvs k v))):=.inr ⟨kvs,k,b,e,rfl,eb,hl,rfl⟩
section
variable {X:Cx} {pins:List (Addr × Obj)} {σ:St} {H:Hp} {s:Shared} {a:Addr} {y v:V} {u r:Value} {o:Option V} {A:Around} {E:Value->Shared->Prop}
theorem Inv.big (I:Inv X pins σ H s):sysModules < s.heap.objs.size:=by
 have h:mainGlobals < s.heap.objs.size:=(I.mod.glob.keeps I.bk).lt;exact xhg (by decide) h
theorem zoj {Q:Value->Shared->Prop} (hu:A.units+1 < cLine) (I:Inv X pins σ H s) (g:DGet H a y (some v)) (ry:RelV y u) (h:∀w' s',Inv X pins σ H s'->RelV v w'->Q w' s') :
  wpAny (model X.prog X.w) A (getItem (.ref a) u) Q E s:=by
 rcases g with ⟨kvs,k,e,ey,l⟩ | ⟨kvs,k,b,e,ey,eb,l⟩
 ·subst ey;obtain ⟨z,hd,vs,rel,dd⟩:=zwq I.hok e;obtain ⟨w',hw,rw'⟩:=RelO.some_of (v:=v) (o:=valueAt vs k) (by rw[l];exact rel.val k);exact wpAny_getItem_of (zyg ry) dd.mapOf hw (h w' _ (I.tok _) rw')
 ·subst ey;cases (show u=Value.ref b from ry);obtain ⟨z,hd,xs,rel,dd⟩:=zwj I.hok e;obtain ⟨w',hw,rw'⟩:=RelO.some_of (v:=v) (o:=(atKey xs k).map (·.2)) (by rw[l];exact rel.val k);obtain ⟨p,hp,hp2⟩:=xdg.mp hw;refine wpAny_getItem_heap (xjz hu) (znq I.hok eb) dd hp ?_;rw[hp2];exact h w' _ (I.tok _) rw'
theorem zpx {h':Heap} {t':Nat} {ob:HO} (I:Inv X pins σ H s) (mu:Mut (H a)) (hs:Heap.SameBut a s.heap h') (he:∃q,h'.get? a=some q) (new:ObjOk X.prog X.w (upd H a ob) h' a ob) :
  Inv X pins σ (upd H a ob) {s with heap:=h',toks:=t'} :=
 I.write (x:=a) (e:=a) mu (.inl rfl) (fun b q hb z=>(hs.2 b hb).trans z) he new
theorem zbbn {P:Program} {w:World} {H':Hp} {h':Heap} {kvs:List (Key × V)} {vs:List (Key × Value)} (z:kvs.length<=sizeLine) (hd:(a == sysModules)=false) (rel:KV kvs vs) (dd:h'.DictOf (mixKind P w) a vs) :
 ObjOk P w H' h' a (.dK kvs):=⟨z,hd,vs,rel,dd⟩
theorem zoi {H':Hp} {Q:Unit->Shared->Prop} (hu:A.units+1 < cLine) (I:Inv X pins σ H s) (g:DPut H a y v H') (ry:RelV y u) (rv:RelV v r) (h:∀s',Inv X pins σ H' s'->Q () s') :
  wpAny (model X.prog X.w) A (setItem (.ref a) u r) Q E s:=by
 rcases g with ⟨kvs,k,e,ey,l,eH⟩ | ⟨kvs,k,b,e,ey,eb,l,eH⟩
 ·subst ey eH;obtain ⟨z,hd,vs,rel,dd⟩:=zben I.hok e;have hz:vs.length<=sizeLine:=by rw[← rel.length];exact z
  have hl:(putK kvs k v).length<=sizeLine:=by have:=zew kvs k v;lia
  refine wpAny_setItem_pairs (hsz:=hz) (zyg ry) dd fun h' dd' hs=>h _ ?_
  have he:∃q,h'.get? a=some q:=let ⟨q,_,_,hq,_⟩:=dd';⟨q,hq⟩
  exact zpx I (by rw[e];exact True.intro) hs he (zbbn hl hd (rel.put k rv) dd')
 ·subst ey eH;cases (show u=Value.ref b from ry);obtain ⟨z,hd,xs,rel,dd⟩:=zbel I.hok e;have hz:xs.length<=sizeLine:=by rw[← xir rel];exact z
  have hl:(putK kvs k v).length<=sizeLine:=by have:=zew kvs k v;lia
  refine wpAny_setItem_heap (hsz:=hz) (xjz hu) (znq I.hok eb) dd fun h' dd' hs=>h _ ?_
  obtain ⟨q,es,ep,hq,h2,h3,h4,_,h5⟩:=dd';refine zpx I (by rw[e];exact True.intro) hs ⟨q,hq⟩ ⟨hl,hd,_,(rel.put k eb rv).keeps fun c ys ec=>?_,q,es,ep,hq,h2,h3,h4,h5⟩;rw[zp (zbeb ec e (fun z=>nomatch z))];exact ec
end
section
variable {X:Cx} {pins:List (Addr × Obj)} {σ:St} {H:Hp} {s:Shared} {a:Addr} {kvs:List (Key × V)} {k:Key} {u:Value} {A:Around} {E:Value->Shared->Prop}
end
def NoSl (i:Expr):Prop:=∀ov iv,subscripted i false ov iv=operate [ov,iv] (getItem ov iv)
theorem ztt {prog:Program} {w:World} {A:Around} {E:Value->Shared->Prop} {s:Shared} {env:Env} {value slice:Expr} {pos:Pos} {T id:String} {Q:Value->Shared->Prop}
  (hl : typeLookup (.type T) "__getitem__" = pure (some (.builtin id))) (hs : NoSl slice)
  (h:wpAny (model prog w) A (eval value env) (fun o s₁=>wpAny (model prog w) A (eval slice env) (fun i s₂=>s₂.TypeIs o T/\wpAny (model prog w) A (getItem o i) Q E s₂) E s₁) E s) :
  wpAny (model prog w) A (eval (.Subscript value slice pos) env) Q E s:=by
 refine Subscript_ (xdq h (fun o s₁ h₁=>xdq h₁ (fun i s₂ h₂=>?_) fun _ _ x=>x) fun _ _ x=>x);obtain ⟨hT,h₂⟩:=h₂;unfold subscriptTail;refine xba ?_;rw[getitemInPython_of_ne hT.not_modules];refine xba (wpAny_specialOf hT hl ?_);have fin:wpAny (model prog w) A (subscripted slice false o i) (fun r s₃=>wpAny (model prog w) A (letTemporaryGo value o r >>= fun _=>pure r) Q E s₃) E s₂:=by
  rw[hs o i];exact wpAny_operating (xdq h₂ (fun r s₃ h₃=>xba (wpAny_letTemporaryGo (xbc h₃))) fun _ _ x=>x)
 first
  | exact xbc (xba fin)
  | exact xba (xbc (xba fin))
  | exact xba fin
theorem zjt {X : Cx} {pins : List (Addr × Obj)} {σ : St} {H : Hp} {s : Shared} {a : Addr} {y : V} {o : Option V} (I : Inv X pins σ H s) (g : DGet H a y o) : s.TypeIs (.ref a) "dict" := by
 rcases g with ⟨kvs,k,e,_,_⟩ | ⟨kvs,k,b,e,_,_,_⟩
 ·obtain ⟨_,_,vs,_,dd⟩:=zwq I.hok e;exact dd.typeIs
 ·obtain ⟨_,_,xs,_,dd⟩:=zwj I.hok e;exact dd.typeIs
def tDGet (td ty:TE):TE:=fun σ H Q=>td σ H fun x H1=>ty σ H1 fun y H2=>∃a v,x=.ref a/\DGet H2 a y (some v)/\Q v H2
def sDPut (td ty tv:TE):TS:=fun D σ H=>tv σ H fun v H1=>td σ H1 fun x H2=>ty σ H2 fun y H3=>∃a H4,x=.ref a/\DPut H3 a y v H4/\D.nx σ H4
section
variable {X:Cx} {o i e value:Expr} {pos pos' tpos:Pos} {td ty tv:TE}
theorem zur (hu:X.A.units+1 < cLine) (ho:PE X o td) (hi:PE X i ty) (hs:NoSl i):PE X (.Subscript o i pos) (tDGet td ty):=by
 intro pins s σ H Q I h;refine ztt PySem.F.slot_dict_getitem.lookup hs (thn (ho pins s σ H _ I h) fun u s1 ⟨x,H1,I1,rx,q1⟩=>thn (hi pins s1 σ H1 _ I1 q1) fun iv s2 hq0=>?_);obtain ⟨y,H2,I2,ry,a,v,ex,g,q2⟩:=hq0;subst ex;obtain rfl:u=Value.ref a:=rx;exact ⟨zjt I2 g,zoj hu I2 g ry fun w' s3 I3 rw'=>⟨v,H2,I3,rw',q2⟩⟩
theorem zuh (hu:X.A.units+1 < cLine) (ho:PE X o td) (hi:PE X i ty) (hv:PE X value tv) (hs:swapsWith value (some (.Subscript o i pos')) pos.line X.env=pure false) :
  PS X (.Assign [.Subscript o i pos'] value pos) (sDPut td ty tv):=by
 intro pins s σ H D I h;refine wpAny_Assign_Subscript (thn (hv pins s σ H _ I h) fun r s1 ⟨v,H1,I1,rv,q1⟩=>thn (ho pins s1 σ H1 _ I1 q1) fun u s2 ⟨x,H2,I2,rx,q2⟩=>thn (hi pins s2 σ H2 _ I2 q2) fun iv s3 hq0=>?_) hs;obtain ⟨y,H3,I3,ry,a,H4,ex,g,q3⟩:=hq0;subst ex;obtain rfl:u=Value.ref a:=rx;exact zoi hu I3 g ry rv fun s4 I4=>⟨σ,H4,I4,q3⟩
end
theorem zrw {P : Program} {w : World} {H : Hp} (h : Heap) (hb : sysModules < h.objs.size) : ObjOk P w H (h.push { cls := .type "dict", data := .dict #[] }) h.objs.size (.dT []) :=
 ⟨xec _,xei.mpr (xfc (xbv hb)),[],.nil,_,#[],0,xbt _ rfl,⟨rfl,rfl,rfl⟩,rfl,rfl,xft⟩
def tDNewT:TE:=fun _ H Q=>∀p,H p=none->Q (.ref p) (upd H p (.dT []))
section
variable {X:Cx} {pos:Pos}
theorem zqu:PE X (.Dict [] [] pos) tDNewT:=fun pins s σ H Q I h =>
 wpAny_Dict_empty ⟨.ref s.heap.objs.size,_,I.laid (a:=s.heap.objs.size) (o:=.dT []) (t':=s.toks) (fun _ _ q=>xbh _ q) (xbe _) (zrw s.heap I.big),rfl,h _ (I.hok.fresh (xbe _))⟩
end
structure M2 (X:Cx) (o:Expr) (m:Str) (apos:Pos) (e f:Expr) (cpos:Pos):Prop where
 base:attributeBase o m X.env (eval o X.env)=eval o X.env
 few:((backTo cpos (starEach [e,f] X.env)).all (fun x=>!x.1) && (backToKw cpos (keywordEach [] X.env)).all (fun x=>x.1.isSome)
  && decide (([e,f]:List Expr).length+([]:List Keyword).length+(if ([]:List Keyword).isEmpty then 0 else 1) < 30))=true
 line:(apos.endLine == cpos.line)=true
 trees:backTo cpos (starEach [e,f] X.env)=[(false,eval e X.env),(false,eval f X.env)]
def IsD (H:Hp) (a:Addr):Prop:=(∃kvs,Rd H a (.dK kvs))\/∃kvs,Rd H a (.dT kvs)
theorem zbap {X:Cx} {pins:List (Addr × Obj)} {σ:St} {H:Hp} {s:Shared} {a:Addr} (I:Inv X pins σ H s) (d:IsD H a) :
  s.TypeIs (.ref a) "dict" /\ (∀ b, Value.ref a = .ref b -> ∃ ob, s.heap.get? b = some ob /\ ob.dict = none) /\ (a == sysModules) = false := by
 rcases d with ⟨kvs,e⟩ | ⟨kvs,e⟩
 ·obtain ⟨_,hd,vs,_,dd⟩:=zwq I.hok e;refine ⟨dd.typeIs,fun b q=>?_,hd⟩;cases q;obtain ⟨ob,_,_,h1,h2,_⟩:=dd;exact ⟨ob,h1,h2.2.1⟩
 ·obtain ⟨_,hd,xs,_,dd⟩:=zwj I.hok e;refine ⟨dd.typeIs,fun b q=>?_,hd⟩;cases q;obtain ⟨ob,_,_,h1,h2,_⟩:=dd;exact ⟨ob,h1,h2.2.1⟩
section
variable {X:Cx} {pins:List (Addr × Obj)} {σ:St} {H:Hp} {s:Shared} {a:Addr} {y d:V} {u r:Value} {o:Option V} {A:Around} {E:Value->Shared->Prop}
theorem zbbs {Q:Value->Shared->Prop} (hu:A.units+1 < cLine) (I:Inv X pins σ H s) (g:DGet H a y o) (ry:RelV y u) (rd:RelV d r) (h:∀w' s',Inv X pins σ H s'->RelV (o.getD d) w'->Q w' s') :
  wpAny (model X.prog X.w) A (call (.builtin "dict.get") [.ref a, u, r]) Q E s := by
 rcases g with ⟨kvs,k,e,ey,l⟩ | ⟨kvs,k,b,e,ey,eb,l⟩
 ·subst ey;obtain ⟨z,hd,vs,rel,dd⟩:=zwq I.hok e;refine call_meetsIn xjc dd.typeIs PySem.F.entry_dict_get (PySem.F.args_dict_get_3 _ _ _) (meets_dict_get_default (mixKind X.prog X.w) a (zyg ry) hd r) ⟨_,dd.mapOf,h _ _ (I.tok _) ?_⟩;rw[l];exact (rel.val k).getD rd
 ·subst ey;cases (show u=Value.ref b from ry);obtain ⟨z,hd,xs,rel,dd⟩:=zwj I.hok e;refine call_meetsIn xjc dd.typeIs PySem.F.entry_dict_get (PySem.F.args_dict_get_3 _ _ _) (meetsH_dict_get_default (tupleKind (mixKind X.prog X.w)) a b hd r) ⟨xjz hu,k,xs,znq I.hok eb,dd,h _ _ (I.tok _) ?_⟩;rw[l];exact (rel.val k).getD rd
end
def tDGet2 (td ty tx:TE):TE:=fun σ H Q=>td σ H fun x H1=>∃a,x=.ref a/\IsD H1 a/\ty σ H1 fun y H2=>tx σ H2 fun z H3=>∃o,DGet H3 a y o/\Q (o.getD z) H3
section
variable {X:Cx} {o e f:Expr} {apos cpos:Pos} {td ty tx:TE}
theorem zqv (hu : X.A.units + 1 < cLine) (ho : PE X o td) (he : PE X e ty) (hf : PE X f tx) (m : M2 X o "get" apos e f cpos) : PE X (.Call (.Attribute o "get" apos) [e, f] [] cpos) (tDGet2 td ty tx) := by
 intro pins s σ H Q I h;refine wpAny_Call_method m.base m.few m.line PySem.F.plainAttrs_dict xjc PySem.F.type_dict_get (thn (ho pins s σ H _ I h) fun u s1 hq0=>?_);obtain ⟨x,H1,I1,rx,a,ex,d,q1⟩:=hq0;subst ex;obtain rfl:u=Value.ref a:=rx;obtain ⟨t1,t2,_⟩:=zbap I1 d;refine ⟨t1,t2,?_⟩;rw[m.trees]
 refine xip rfl (Calls.evalArgs_plain (xjt (thn (he pins s1 σ H1 _ I1 q1) fun iv s2 ⟨y,H2,I2,ry,q2⟩ =>
  xjt (thn (hf pins s2 σ H2 _ I2 q2) fun fv s3 ⟨z,H3,I3,rz,ov,g,q3⟩=>Calls.spliced_nil ?_))))
 exact zbbs hu I3 g ry rz fun w' s4 I4 rw'=>⟨_,H3,I4,rw',q3⟩
end
section
variable {X:Cx} {pins:List (Addr × Obj)} {σ:St} {H:Hp} {s:Shared} {a:Addr} {kvs:List (Key × V)} {A:Around} {E:Value->Shared->Prop}
end
section
variable {X:Cx} {pins:List (Addr × Obj)} {σ:St} {H:Hp} {s:Shared} {a:Addr} {y:V} {u:Value} {A:Around} {E:Value->Shared->Prop}
end
end L2
namespace Att
open PySem PySem.W PySem.Calls PyProof.Rows
theorem zem {P:Params} {h:Heap}:∀(ns:List Int) (vs:List Value),WellAll P h vs (ns.map WData.int)->IntsAre vs ns:=by
 intro ns
 induction ns with
 | nil =>
  intro vs w;rw[xko] at w;cases w;exact .nil
 | cons n ns ih =>
  intro vs w;rw[xbw] at w;cases w with
  | cons a b =>
   cases a;exact .cons _ _ (ih _ b)
theorem zna {l:OpenLaw} {n:Nat} (hn:l.most=some n) {P:Params} {h:Heap} {args:List WData} {vals:List Value}
  (hpre:l.row.toRowW.claim.pre args=true) (hwl:WellAll P h vals args) :
  ∃ a vs ns, vals = [Value.ref a] /\ args = [WData.list (ns.map WData.int)] /\ h.get? a = some { cls := .type "list", data := .seq vs.toArray } /\ IntsAre vs ns /\ ns.length <= n := by
 have hsh:WShape.hasAll [] args [.list .int]=true:=(pre_splitW hpre).1;have hc:l.pre.holds [] {args:=args}=true:=(pre_splitW hpre).2;obtain ⟨d,r,rfl,h1,h2⟩:=hasAllW_cons hsh;obtain rfl:=hasAllW_nil h2;obtain ⟨xs,rfl,h3⟩:=hasW_list h1;obtain ⟨ns,rfl⟩:=items_int h3;have hlen:ns.length<=n:=by
  unfold OpenLaw.pre at hc;have h4:(WTm.not (.lt (.lit (.int (n:Int))) (.len (.arg 0)))).holds [] {args:=[.list (ns.map .int)]}=true:=by
   have h4:=(holds_andW hc).1;rw[hn] at h4;exact h4
  have h5:=condW_of h4 (w_not (w_lt w_lit (w_len_list (w_arg rfl))));rw[xbd] at h5;refine xby fun q=>?_
  have q':(n:Int) < ((ns.length:Nat):Int):=by lia
  first
   | (rw[xdb q'] at h5;exact absurd h5 (by decide))
   | (simp at h5;lia)
 cases hwl with
 | cons w1 w2 =>
  cases w2;cases w1 with
  | list ho hall=>exact ⟨_,_,ns,rfl,rfl,ho,zem ns _ hall,hlen⟩
theorem znd (l:OpenLaw) (args:List WData):l.row.toRowW.claim.post args (.bool true) args=true :=
 postW_of (r:=l.row.toRowW) (X:=(true == true))
  (show WShape.has [] (.bool true) .bool=true by first | rfl | decide | simp[WShape.has,WShape.arms,WShape.armsAll])
  (show (WTm.eq .res (.lit (.bool true))).value [] {args:=args,res:=some (.bool true),after:=args}=some (.bool (true == true)) from w_eq_bool (w_res rfl) w_lit) rfl
theorem attach_call {l:OpenLaw} {n:Nat} {q:Program} {loose:List Str} {XP:(Str->Option Value)->Heap->Prop} {YP:World->Heap->Prop} {d:DefRec}
  (hn:l.most=some n) (hdf:d.params.defaults=[])
  (call:∀(w:World) (s₀ s₁:Shared) (mg mb:Str->Option Value) (fa:Addr) (o:Obj) (pm cd doc:Value) (a:Addr) (vs:List Value) (ns:List Int),
   Ground q loose [] XP w s₀ mg mb s₁.heap->YP w s₁.heap ->
   s₁.heap.get? fa=some o->o.data=.func (docDef d.name d.params d.body d.scope pm cd doc)->s₁.heap.CodeRec cd d.name->mg d.name=some (.ref fa) ->
   s₁.heap.get? a = some { cls := .type "list", data := .seq vs.toArray } -> IntsAre vs ns -> ns.length <= n -> s₁.gens = #[] ->
   codeAny (model l.prog w) callerA (.call (.ref fa) ⟨[.ref a],[]⟩) (fun r s'=>r=.ok (.ret (.bool true))/\OldK s₁.heap s'.heap/\s'.os=s₁.os/\AllBare s'.gens) s₁) :
  WalkO q loose XP YP l.row.toRowW d [] (fun f vs=>PySem.call f vs):=by
 intro w s₀ s₁ mg mb G Y fa o pm cd doc dV kV ho hd hcd hD hmg hg args vals as hpre hlay hrd hwl hlo;obtain rfl:dV=.none:=Dflts.none hD hdf;obtain rfl:kV=.none:=Dflts.noKw hD;obtain ⟨a,vs,ns,rfl,rfl,hobj,hints,hlen⟩:=zna hn hpre hwl;refine enter_call (xjm (call w s₀ s₁ mg mb fa o pm cd doc a vs ns G Y ho (fd_plain hd) hcd hmg hobj hints hlen hg) fun r s' hq=>?_);obtain ⟨rfl,h2,h3,h4⟩:=hq;exact ⟨.inl ⟨.bool true,.bool true,[],rfl,fun _=>rfl,.bool true,znd l _,fun _=>⟨List.Pairwise.nil,fun _ hm=>(nomatch hm)⟩⟩,h2,h3,h4⟩
section
variable {prog:Program} {w:World} {A:Around} {E:Value->Shared->Prop} {s:Shared} {K:Frag}
end
end Att
namespace L2
open PySem PySem.Spec PyProof.Rows
theorem zhz:∀{vs:List Value} {ns:List Int},IntsAre vs ns->Vals (ns.map V.int) vs
 | _,_,.nil=>.nil
 | _,_,.cons n t h=>.cons ⟨t,rfl⟩ (zhz h)
def Only (H:Hp):Prop:=∀b,H b=none\/∃o xs,H b=some (.frz o (.lst xs))
theorem zrn {P:Program} {w:World} {K:Fg} {mg mb:Str->Option Value} {CX:CXT} {k:Nat} {fa a:Addr} {fd:FuncData} {x:Str} {sp:Sp} {s₁:Shared} {vs:List Value} {ns:List Int}
  (KX : K.In s₁.heap) (hns : s₁.heap.Ns mainGlobals mg) (hb : s₁.heap.Ns builtinsNs mb) (hbb : ∀ x : Str, x ≠ "__name__" -> mb x = bootBuiltins x) (hlim : s₁.heap.NoLimit) (hg : s₁.gens = #[])
  (ha : s₁.heap.get? a = some { cls := .type "list", data := .seq vs.toArray }) (hi : IntsAre vs ns) (hl : ns.length <= sizeLine) (hr : Room k callerA)
  (F:∀base:Heap,K.In base->base.Ns mainGlobals mg->FnOk P w K mg base CX k fa fd [x] sp) (hbind:∀(s:Shared) (u:Value),BindsTo s fd ⟨[u],[]⟩ [(x,u)])
  (hsp:∀H:Hp,Only H->SqL K H a (ns.map V.int)->sp [.ref a] H (fun v _=>v=.bl true) fun _ _ _=>False)
  (hCX:∀H e s',CX [] H s₁ (fun _ _ _=>False) e s'->False) :
  codeAny (model P w) callerA (.call (.ref fa) ⟨[.ref a],[]⟩) (fun r s'=>r=.ok (.ret (.bool true))/\OldK s₁.heap s'.heap/\s'.os=s₁.os/\AllBare s'.gens) s₁:=by
 have rv:=zhz hi;have lenV:=hi.length;have core:∀H:Hp,Only H->SqL K H a (ns.map V.int)->HOk P w H s₁.heap->(∀b,H b≠none->b=a)->(H a≠none->K.lookup a=none) ->
   codeAny (model P w) callerA (.call (.ref fa) ⟨[.ref a],[]⟩) (fun r s'=>r=.ok (.ret (.bool true))/\OldK s₁.heap s'.heap/\s'.os=s₁.os/\AllBare s'.gens) s₁:=by
  intro H hO hS hok hA hK;have base_of:∀{b:Addr} {o:Obj},s₁.heap.get? b=some o->H b=none->(hidT s₁.heap H).get? b=some o:=fun e n=>zrs e n
  have noA:∀{b:Addr} {o:Obj} {es:Array DictEntry} {ep:Nat},s₁.heap.get? b=some o->o.data=.dict es ep->H b=none:=fun {b o es ep} e d=>by
   cases q:H b with
   | none=>rfl
   | some u =>
    have e':b=a:=hA b (by rw[q];simp);subst e';rw[ha] at e;cases e
    have d':Data.seq vs.toArray _=Data.dict es ep:=d;cases d'
  have nsK:∀{b:Addr} {m:Str->Option Value},s₁.heap.Ns b m->(hidT s₁.heap H).Ns b m:=fun {b m} ⟨o,es,ep,e,d,r⟩=>⟨o,es,ep,base_of e (noA e d),d,r⟩
  have hKb:K.In (hidT s₁.heap H):=fun b o e=>base_of (KX b o e) (by
   cases q:H b with
   | none=>rfl
   | some u =>
    have e':b=a:=hA b (by rw[q];simp);subst e'
    rw[hK (by rw[q];simp)] at e;cases e)
  have hM:Mod K mg (hidT s₁.heap H):=⟨hKb,nsK hns,⟨mb,nsK hb,hbb⟩,let ⟨mc,h1,h2⟩:=hlim;⟨mc,nsK h1,h2⟩⟩
  have e0:Env0 P w K mg (hidT s₁.heap H) callerA [] s₁ H:=⟨rfl,hM,fun b o e=>zvd e,xcu (znz _ _),trivial,fun b hb=>absurd (show b∈([]:List Addr) from hb) (by simp),hok,.of_eq hg⟩
  refine xjm ((F _ hKb (nsK hns)).run callerA [] s₁ H ⟨[.ref a],[]⟩ [.ref a] [.ref a] _ _ hr e0 (hbind s₁ (.ref a)) (.cons rfl .nil) (hsp H hO hS)) fun r s' h=>?_
  cases r with
  | error e=>exact (hCX H e s' h).elim
  | ok fl =>
   cases fl with
   | next=>exact False.elim h
   | brk=>exact False.elim h
   | cont=>exact False.elim h
   | ret u =>
    obtain ⟨v,H',os,bare,un,hok',r',q⟩:=h;have q':v=.bl true:=q;subst q';obtain rfl:u=Value.bool true:=r';refine ⟨rfl,OldK.of_keep fun b o e=>?_,os,bare⟩;cases q:H b with
    | none=>exact un.keep b o e q (by intro z;exact absurd (show b∈([]:List Addr) from z) (by simp)) (by simp)
    | some u =>
     rcases hO b with z | ⟨ob,xs,z⟩
     ·rw[q] at z;cases z
     ·have z2:=un.frzs b ob _ z;obtain ⟨e1,_⟩:=hok b _ z;obtain ⟨e2,_⟩:=hok' b _ z2;rw[e] at e1;cases e1
      exact e2
 cases hk:K.lookup a with
 | some o =>
  have e:=KX a o hk;rw[ha] at e;cases e;refine core (fun _=>none) (fun _=>.inl rfl) (.inr ⟨_,vs.toArray,_,hk,rfl,rfl,rfl,by rw[xbm,lenV];exact hl,by simpa using rv⟩) (fun b u z=>by have z':(none:Option HO)=some u:=z;cases z') (fun b z=>absurd rfl z) fun z=>absurd rfl z
 | none =>
  refine core (fun b => if b = a then some (.frz { cls := .type "list", data := .seq vs.toArray } (.lst (ns.map V.int))) else none) (fun b => ?_) (.inl (.inr ⟨{ cls := .type "list", data := .seq vs.toArray }, if_pos rfl⟩)) (fun b u z => ?_) (fun b z => ?_) fun _ => hk
  ·by_cases hb:b=a
   ·exact .inr ⟨_,_,if_pos hb⟩
   ·exact .inl (if_neg hb)
  ·by_cases hb:b=a
   ·have z':=(if_pos hb).symm.trans z;cases z';subst hb;exact ⟨ha,by rw[xbd];exact hl,vs,_,rv,ha⟩
   ·have z':=(if_neg hb).symm.trans z;cases z'
  ·by_cases hb:b=a
   ·exact hb
   ·exact absurd (if_neg hb) z
theorem ztj {l:PySem.W.OpenLaw} {n k:Nat} {q:Program} {loose:List Str} {XP:(Str->Option Value)->Heap->Prop} {YP:World->Heap->Prop} {d:DefRec} {K:Params->Fg} {CX:World->CXT} {sp:World->Sp} {x:Str}
  (hn:l.most=some n) (hn2:n<=sizeLine) (hdf:d.params.defaults=[]) (hr:Room k callerA)
  (hY:∀(w:World) (h:Heap),YP w h->(K w.params).In h)
  (F:∀(w:World) (mg:Str->Option Value) (fa:Addr) (h:Heap),(K w.params).In h->h.Ns mainGlobals mg->mg d.name=some (.ref fa) ->
   ∃fd:FuncData,(∀(s:Shared) (u:Value),BindsTo s fd ⟨[u],[]⟩ [(x,u)]) /\
    ∀base:Heap,(K w.params).In base->base.Ns mainGlobals mg->FnOk l.prog w (K w.params) mg base (CX w) k fa fd [x] (sp w))
  (hsp:∀(w:World) (H:Hp) (a:Addr) (ns:List Int),ns.length<=n->Only H->SqL (K w.params) H a (ns.map V.int)->sp w [.ref a] H (fun v _=>v=.bl true) fun _ _ _=>False)
  (hCX:∀(w:World) (H:Hp) (s:Shared) (e:Value) (s':Shared),CX w [] H s (fun _ _ _=>False) e s'->False) :
  PySem.W.WalkO q loose XP YP l.row.toRowW d [] (fun f vs=>PySem.call f vs):=by
 refine Att.attach_call hn hdf fun w s₀ s₁ mg mb fa o pm cd doc a vs ns G Y ho hd hcd hmg hobj hints hlen hg=>?_
 have KX:=hY w _ Y;obtain ⟨fd,hb,hF⟩:=F w mg fa _ KX G.T.g hmg;exact zrn KX G.T.g G.T.b G.T.builtins G.T.nolimit hg hobj hints (xbb hlen hn2) hr hF hb (fun H hO hS=>hsp w H a ns hlen hO hS) fun H e s'=>hCX w H s₁ e s'
end L2
/- THE LAST THEOREM (shape;LID,My.* are yours):
 My.Adr: a structure of the addresses that your layer names (classes,functions);My.Txt K t: a structure (Prop) of the equations over K;
 My.txt_mk : {K} {implicit addresses ..} (e1 : nsIn K mainGlobals "law" = some (some (.ref f))) (e2 : K.lookup f = some ⟨oc, od, .func (fnOf "law" "law" params body scope dV kV doc pm an cdv ct), sl⟩) (e3 : codeIn K cdv "law" = true) .. : ∃ t, My.Txt K t
(the tactic k_is has no namespace: write k_is) -/
namespace L2
open PySem PySem.Spec PyProof.Rows
def defArgs (s:Stmt):Arguments:=match s with
 | .FunctionDef _ a _ _ _ _ _ _ _ _=>a
 | _=>{posonlyargs:=[],args:=[],vararg:=none,kwonlyargs:=[],kw_defaults:=[],kwarg:=none,defaults:=[]}
def defBody (s:Stmt):List Stmt:=match s with
 | .FunctionDef _ _ b _ _ _ _ _ _ _=>b
 | _=>[]
def defScope (s:Stmt):Scope:=match s with
 | .FunctionDef _ _ _ _ _ _ sc _ _ _=>sc
 | _=>{kind:=.function,names:=[],isGenerator:=false,isCoroutine:=false}
abbrev CX0:CXT:=fun _ _ _ _ _ _=>False
abbrev E0:XK:=fun _ _ _=>False
theorem pass0 {X:Cx}:Passes CX0 X E0:=fun _ _ _ _ _ _ _ h=>h.elim
structure Fun (K:Fg) (x qual:Str) (st:Stmt) (f:Addr) (fd:FuncData):Prop where
 ex:∃(oc:Value) (od:Option Addr) (kV doc pm:Value) (an:Option Addr) (cdv ct:Value) (osl:Array (Option Value)),
  fd=PySem.W.fnOf x qual (defArgs st) (defBody st) (defScope st) .none kV doc pm an cdv ct/\K.lookup f=some ⟨oc,od,.func fd,osl⟩/\PySem.W.codeIn K cdv qual=true
 kp:PySem.W.keepIn K (.ref f)=true
section
variable {P:Program} {w:World} {K:Fg} {mg:Str->Option Value} {base:Heap}
theorem Fun.ok {x qual:Str} {st:Stmt} {f:Addr} {fd:FuncData} {N ps:List Str} {k:Nat} {sp:Sp} (F:Fun K x qual st f fd) (S:FnScope N ps (defScope st)) (len:∀vs H Q E,sp vs H Q E->vs.length=ps.length)
  (hbody:∀(cdv:Value) (A:Around) (outer:List Env) (s:Shared) (H:Hp) (vs:List V) (Q:VK) (E:XK),Room k (A.deeper (envOfC qual (defScope st) s.heap.objs.size f cdv))->sp vs H Q E ->
   ∃t,PSs (cxOf CX0 P w K mg base N qual (defScope st) f cdv A outer s H E).nox (defBody st) t/\t {nx:=fun _ H'=>Q .non H',rt:=Q} (start N vs) H):FnOk P w K mg base CX0 (k+1) f fd ps sp:=by
 obtain ⟨oc,od,kV,doc,pm,an,cdv,ct,osl,rfl,lk,hcd⟩:=F.ex;refine zbee lk hcd S len fun A outer s H vs Q E hr hsp=>?_
 obtain ⟨t,h,q⟩:=hbody cdv A outer s H vs Q E hr hsp;exact ⟨t,h.nox,q⟩
theorem Fun.binds {x qual:Str} {st:Stmt} {f:Addr} {fd:FuncData} {ps:List Str} (F:Fun K x qual st f fd)
  (h:∀(kV doc pm:Value) (an:Option Addr) (cdv ct:Value) (us:List Value),us.length=ps.length->bindArgs (PySem.W.fnOf x qual (defArgs st) (defBody st) (defScope st) .none kV doc pm an cdv ct) ⟨us,[]⟩=pure (ps.zip us)):Binds K fd ps []:=by
 obtain ⟨oc,od,kV,doc,pm,an,cdv,ct,osl,rfl,lk,hcd⟩:=F.ex;exact .all (h kV doc pm an cdv ct)
theorem zbat {x qual:Str} {st:Stmt} {f:Addr} {oc:Value} {od an:Option Addr} {osl:Array (Option Value)} {kV doc pm cdv ct:Value} (l:K.lookup f=some ⟨oc,od,.func (PySem.W.fnOf x qual (defArgs st) (defBody st) (defScope st) .none kV doc pm an cdv ct),osl⟩)
 (c:PySem.W.codeIn K cdv qual=true) (k:PySem.W.keepIn K (.ref f)=true):Fun K x qual st f (PySem.W.fnOf x qual (defArgs st) (defBody st) (defScope st) .none kV doc pm an cdv ct):=⟨⟨oc,od,kV,doc,pm,an,cdv,ct,osl,rfl,l,c⟩,k⟩
end
theorem zbar {A:Around} {k:Nat} (hr:Room k A):A.units+1 < cLine:=xcr (xcc (by decide:1<=64) _) hr.units
section
variable {X:Cx}
theorem pv (i : Nat) {x : Str} {pos : Pos} (hN : X.N[i]? = some x := by rfl) (hv : Vis X.env.scope x := by first | exact Or.inl rfl | exact Or.inr (Or.inl rfl) | exact Or.inr (Or.inr rfl)) (hd : (x == ("__debug__" : Str)) = false := by decide)
 (hcd : (x == ("__classdict__" : Str)) = false := by decide) : PE X (.Name x pos) (tVar i) := zzn hN hv hd hcd
end
theorem iteF {A B:Prop} (h:B):if false=true then A else B:=by
 rw[if_neg xfd];exact h
theorem iteT {A B:Prop} (h:A):if true=true then A else B:=by
 rw[if_pos rfl];exact h
section
variable {X:Cx}
end
section
variable {κ:Type} [DecidableEq κ]
end
section
variable {P:Program} {w:World} {B:Around} {R:Result->Shared->Prop} {sh:Shared}
abbrev NoX:Value->Shared->Prop:=fun _ _=>False
abbrev testsOf (cs:List Expr) (ev:Env):Sem Bool :=
 forIn cs true fun d b=>if b=true then do let z ← isTrue d ev (eval d ev);pure (ForInStep.yield z) else pure (ForInStep.yield b)
def CompStep (P:Program) (w:World) (B:Around) (tg x:Expr) (cs:List Expr) (ev:Env) (i l:Value) (K:Shared->Prop) (v:Value) (sa:Shared):Prop :=
 wpAny (model P w) B (letOwnedTupleGo tg i v) (fun _ sb=>wpAny (model P w) B (assign tg ev v) (fun _ sc=>wpAny (model P w) B (testsOf cs ev) (fun ok sd =>
  if ok = true then wpAny (model P w) B (eval x ev) (fun y se => wpAny (model P w) B (call (.builtin "list.append") [l, y]) (fun _ sf => K sf) NoX se) NoX sd else K sd) NoX sc) NoX sb) NoX sa
theorem ziu {tg it x:Expr} {cs:List Expr} {sc:Scope} {ps:Pos} {i l:Value} {ev:Env} (J:Nat->Shared->Prop)
  (go:∀k sk,J k sk->wpAny (model P w) B (pyNext i) (fun o sa=>match o with
   | none=>R (.ok .next) sa
   | some v=>CompStep P w B tg x cs ev i l (fun sf=>∃k',k' < k/\J k' sf) v sa) NoX sk)
  (k:Nat) (hJ:J k sh):codeAny (model P w) B (.compLoop (.ListComp x [⟨tg,it,cs,0⟩] sc ps) 0 i l ev) R sh:=by
 have none_:∀{E:Value->Shared->Prop} (e:Value) (z:Shared),NoX e z->E e z:=fun _ _ z=>z.elim
 refine codeAny_loop rfl J (fun k sk hk=>wpAny_noted (by
  rw[compTurn_list];refine xba (xkc (xba (xdq (go k sk hk) (fun o sa ho=>?_) none_)))
  match o,ho with
  | none,ho=>exact xbc ho
  | some v,ho =>
   refine xba (xdq ho (fun _ sb hb=>xba (xdq hb (fun _ sc' hc=>xba (xdq hc (fun ok sd hd=>?_) none_)) none_)) none_)
   match ok,hd with
   | false,hd=>exact xbc (And.intro rfl hd)
   | true,hd=>exact xba (xba (xdq hd (fun y se he=>xba (xdq he (fun _ sf hf=>xbc (xbc (And.intro rfl hf))) none_)) none_)))) k hJ
end
theorem zhq {env:Env}:∀(names:List (Str × NameKind)) (acc:List (Str × Addr)),(∀y∈names,y.2=.free->∃c,env.cells.lookup y.1=some c)->(∀x c,acc.lookup x=some c->env.cells.lookup x=some c) ->
  ∃cl:List (Str × Addr),(forIn names acc (fun x r=>if (x.2 == NameKind.free)=true then do let a ← cellOf env x.1;pure (ForInStep.yield ((x.1,a)::r)) else pure (ForInStep.yield r)):Sem (List (Str × Addr)))=pure cl /\
   (∀x c,cl.lookup x=some c->env.cells.lookup x=some c)/\(∀x c,acc.lookup x=some c->∃c',cl.lookup x=some c')/\∀x,(x,NameKind.free)∈names->∃c,cl.lookup x=some c:=by
 intro names
 induction names with
 | nil=>intro acc _ ha;exact ⟨acc,rfl,ha,fun x c e=>⟨c,e⟩,fun x z=>(nomatch z)⟩
 | cons y r ih =>
  intro acc hf ha;obtain ⟨n,k⟩:=y;by_cases hk:k=.free
  ·subst hk;obtain ⟨c,hc⟩:=hf (n,.free) xbz rfl
   obtain ⟨cl,e,h1,h2,h3⟩:=ih ((n,c)::acc) (fun y hy=>hf y (xbu _ hy)) (fun x c' e=>by
    rw[xdl] at e;by_cases hx:x=n
    ·subst hx;rw[xeo] at e;cases e;exact hc
    ·rw[xei.mpr hx] at e
     exact ha x c' e)
   refine ⟨cl,?_,h1,fun x c' e'=>?_,fun x hx=>?_⟩
   ·rw[List.forIn_cons];simp only[xeo,ite_true];have q:cellOf env n=pure c:=by unfold cellOf;rw[hc]
    rw[q];simp only[pure_bind];exact e
   ·by_cases hx:x=n
    ·subst hx;exact h2 x c (by rw[xdl,xeo])
    ·exact h2 x c' (by rw[xdl,xei.mpr hx];exact e')
   ·rcases xbo.mp hx with z | z
    ·cases z;exact h2 n c (by rw[xdl,xeo])
    ·exact h3 x z
  ·obtain ⟨cl,e,h1,h2,h3⟩:=ih acc (fun y hy=>hf y (xbu _ hy)) ha;refine ⟨cl,?_,h1,h2,fun x hx=>?_⟩
   ·rw[List.forIn_cons];have hb:(k == NameKind.free)=false:=by simpa using hk
    simp only[hb,xdk,xfl,pure_bind];exact e
   ·rcases xbo.mp hx with z | z
    ·cases z;exact absurd rfl hk
    ·exact h3 x z
theorem zgv {scope:Scope} {env:Env} (h:∀y∈scope.names,y.2=.free->∃c,env.cells.lookup y.1=some c) :
  ∃cl,closureFor scope env=pure cl/\(∀x c,cl.lookup x=some c->env.cells.lookup x=some c)/\∀x,(x,NameKind.free)∈scope.names->∃c,cl.lookup x=some c:=by
 obtain ⟨cl,e,h1,_,h3⟩:=zhq (env:=env) scope.names [] h (fun x c e=>(nomatch e));refine ⟨cl,?_,h1,h3⟩;unfold closureFor;have e':=congrArg (fun m=>m >>= fun r=>(pure r:Sem (List (Str × Addr)))) e;simp only[pure_bind] at e';exact e'
theorem zk {env:Env}:∀{names:List (Str × NameKind)} {x:Str} {k:NameKind},(names.map fun (n,k)=>if (k == NameKind.free && env.scope.kind == .function && env.kindOf n == some .cell) then (n,NameKind.cell) else (n,k)).lookup x=some k ->
  names.lookup x=some k\/(k=.cell/\names.lookup x=some .free)
 | [],_,_,h=>by simp at h
 | (n,k')::r,x,k,h=>by
  have ih:=@zk env r x k;have h':List.lookup x ((if (k' == NameKind.free && env.scope.kind == .function && env.kindOf n == some .cell)=true then (n,NameKind.cell) else (n,k'))::_)=_:=h;cases hx:x == n with
  | true =>
   by_cases hc:(k' == NameKind.free && env.scope.kind == .function && env.kindOf n == some .cell)=true
   ·rw[if_pos hc] at h';simp only[xdl,hx] at h' ⊢;cases h';rw[xfa,xfa] at hc;exact .inr ⟨rfl,by rw[eq_of_beq hc.1.1]⟩
   ·rw[if_neg hc] at h';simp only[xdl,hx] at h' ⊢;exact .inl h'
  | false =>
   have h2:(r.map fun (n,k)=>if (k == NameKind.free && env.scope.kind == .function && env.kindOf n == some .cell) then (n,NameKind.cell) else (n,k)).lookup x=some k:=by
    by_cases hc:(k' == NameKind.free && env.scope.kind == .function && env.kindOf n == some .cell)=true
    ·rw[if_pos hc] at h';simp only[xdl,hx] at h';exact h'
    ·rw[if_neg hc] at h';simp only[xdl,hx] at h';exact h'
   simp only[xdl,hx];exact ih h2
def cxC (X:Cx) (N:List Str) (scope:Scope) (cl:List (Str × Addr)) (C:Addr) (fp:List Addr) (s:Shared) (H:Hp):Cx :=
 {X with N:=N,s₀:=s,H₀:=H,env:=compEnvC scope cl C X.env,outer:=X.stack,ex:=fp,fn:=fun _=>false,pn:=[],xe:=fun _ _=>False}
def startC (k:Nat) (is:List Nat) (σ:St):St:=List.replicate k none++is.map fun i=>(σ[i]?).getD none
structure CompScope (X:Cx) (N:List Str) (k:Nat) (is:List Nat) (scope:Scope):Prop where
 kind:scope.kind=.function
 nocell:∀y∈scope.names,y.2≠.cell
 names:∀y∈scope.names,y.2=.local->scope.names.lookup y.1=some .local
 frees:∀y∈scope.names,y.2=.free->X.env.kindOf y.1=some .cell\/X.env.kindOf y.1=some .free
 len:N.length=k+is.length
 own:∀j i,is[j]?=some i->∃x,N[k+j]?=some x/\X.N[i]?=some x/\scope.names.lookup x=some .free
theorem zbc {x:Str} {k:NameKind} {l:List (Str × NameKind)} (h:l.lookup x=some k):(x,k)∈l:=xfr h
section
variable {X:Cx} {pins:List (Addr × Obj)} {σ:St} {H:Hp} {s:Shared}
theorem zrq {N:List Str} {k:Nat} {is:List Nat} {scope:Scope} {cl:List (Str × Addr)} {fp:List Addr} {h1:Heap} {tk:Nat} (S:CompScope X N k is scope) (I:Inv X pins σ H s)
  (c1:∀x c,cl.lookup x=some c->X.env.cells.lookup x=some c) (c2:∀x,(x,NameKind.free)∈scope.names->∃c,cl.lookup x=some c)
  (hf:∀b∈fp,FpOk X pins H b) (hfo:∀b∈fp,∃o,s.heap.get? b=some o) (hn:h1.Ns s.heap.objs.size (fun _=>none)) (hk:∀b o,s.heap.get? b=some o->h1.get? b=some o) :
  Inv (cxC X N scope cl s.heap.objs.size fp s H) [] (startC k is σ) H {s with heap:=h1,toks:=tk}:=by
 have hC:∀b o,s.heap.get? b=some o->b≠s.heap.objs.size:=fun b o e=>xbv (xbl e)
 have nfs:∀b∈fp,b∉frs X.stack:=fun b hb z=>by
  rcases xbo.mp (I.stkSub b z) with e | e
  ·exact (hf b hb).2.1 e
  ·exact (hf b hb).2.2.1 e
 refine ⟨⟨I.ok.mod,S.kind,I.ok.glob,I.ok.blt,xbe _,fun x y c e1 e2=>I.ok.inj x y c (c1 x c e1) (c1 y c e2),fun x hx=>?_,fun x c z=>?_,I.ok.hd,I.ok.frames,.inl rfl,fun b hb=>⟨?_,fun x c e=>?_⟩,I.bs,xbb I.ok.bsz I.sz,fun b o e hb=>?_,nfs,I.stack,I.stkFree⟩,
  rfl,I.bare,Un.kept hk,⟨_,hn,fun i x v e1 e2 e3=>?_⟩,fun x c e=>?_,I.hok.fresh (xbe _),fun x c e=>I.freeC x c (c1 x c e),fun p hp=>(nomatch hp),I.hok.kept hk,?_,I.hnd⟩
 ·have hx':(scope.names.map fun (n,k)=>if (k == NameKind.free && X.env.scope.kind == .function && X.env.kindOf n == some .cell) then (n,NameKind.cell) else (n,k)).lookup x=some .cell\/(scope.names.map fun (n,k)=>if (k == NameKind.free && X.env.scope.kind == .function && X.env.kindOf n == some .cell) then (n,NameKind.cell) else (n,k)).lookup x=some .free:=hx;have q:scope.names.lookup x=some .free:=by
   rcases hx' with z | z
   ·rcases zk z with q | ⟨_,q⟩
    ·exact absurd rfl (S.nocell _ (zbc q))
    ·exact q
   ·rcases zk z with q | ⟨q,_⟩
    ·exact q
    ·cases q
  exact c2 x (zbc q)
 ·cases z
 ·obtain ⟨o,e⟩:=hfo b hb;exact hC b o e
 ·exact (hf b hb).2.2.2.2.1 x c (c1 x c e)
 ·rcases (hf b hb).2.2.2.1 with z | z
  ·exact I.ok.noex b o e z
  ·exact absurd (xbf (xbl (I.ok.bs b o e).1) z) (xez _)
 ·-- a name of the def around
  unfold startC at e2;have hi:k<=i:=by
   rcases xfk i k with z | z
   ·rw[xbx (by rw[xdr];exact z),xgq,if_pos z] at e2;cases e2
   ·exact z
  rw[xch (by rw[xdr];exact hi),xdr,xcl] at e2;cases ej:is[i - k]? with
  | none=>rw[ej] at e2;cases e2
  | some j =>
   rw[ej] at e2;have e2':(σ[j]?).getD none=some v:=xck e2;obtain ⟨y,y1,y2,y3⟩:=S.own (i - k) j ej;have ey:y=x:=by
    have z:N[i]?=some y:=by rw[← y1];congr 1;lia
    have e1':N[i]?=some x:=e1;rw[z] at e1';exact xck e1'
   subst ey;have e4:σ[j]?=some (some v):=by
    cases q:σ[j]? with
    | none=>rw[q] at e2';cases e2'
    | some o=>rw[q] at e2';exact congrArg some e2'
   have kd:=S.frees _ (zbc y3) rfl;have vis:Vis X.env.scope y:=.inr kd;obtain ⟨m,_,hl⟩:=I.loc;obtain ⟨u,r,lk⟩:=hl j y v y2 e4 vis;refine ⟨u,r,?_⟩;rcases lk with ⟨z,_⟩ | ⟨_,c,e5,cc⟩
   ·rcases kd with q | q<;>(rw[q] at z;cases z)
   ·obtain ⟨c',e6⟩:=c2 y (zbc y3);have:c'=c:=by
     have z:=c1 y c' e6;rw[e5] at z;exact (xck z).symm
    subst this;refine .inr ⟨?_,c',e6,?_⟩
    ·rcases e3 with z | z | z
     ·exact absurd (zk z) (by
       rw[y3];rintro (q | ⟨q,_⟩)
       ·cases q
       ·cases q)
     ·exact .inl z
     ·exact .inr z
    ·obtain ⟨o,ho,hd⟩:=cc;exact ⟨o,hk _ o ho,hd⟩
 ·obtain ⟨v,o,ho,hd⟩:=I.cell x c (c1 x c e);exact ⟨v,o,hk _ o ho,hd⟩
 ·unfold startC;rw[xcd,xdr,xbd];exact S.len.symm
theorem zrr {N:List Str} {scope:Scope} {cl:List (Str × Addr)} {fp:List Addr} {σ':St} {H':Hp} {s':Shared} {h':Heap} (I:Inv X pins σ H s) (hf:∀b∈fp,FpOk X pins H b) (J:Inv (cxC X N scope cl s.heap.objs.size fp s H) [] σ' H' s')
  (hs:Heap.SameBut s.heap.objs.size s'.heap h'):Inv X pins σ H' {s' with heap:=h'}:=by
 have hC:∀b o,s.heap.get? b=some o->b≠s.heap.objs.size:=fun b o e=>xbv (xbl e)
 have hH:H' s.heap.objs.size=none:=J.free;have B:Un (frs X.stack) fp H H' s.heap s'.heap:=J.base
 have U:Un (frs X.stack) fp H H' s.heap h':=⟨fun b o e n h1 h2=>hs.extBut b o (hC b o e) (B.keep b o e n h1 h2),fun b o e n h1 h2=>by
   obtain ⟨sl,q⟩:=B.slot b o e n h1 h2;exact ⟨sl,hs.extBut b _ (hC b o e) q⟩,B.free,fun b o e hx=>by
   obtain ⟨o',q⟩:=B.there b o e hx
   exact ⟨o',hs.extBut b o' (hC b o e) q⟩,B.tups,B.frzs,B.tbls⟩
 refine I.call' (s':={s' with heap:=h'}) J.os U (fun a o e=>?_) J.bare (fun b hb=>⟨(hf b hb).2.2.2.1,(hf b hb).2.1,(hf b hb).2.2.2.2.1,(hf b hb).2.2.2.2.2⟩);refine (J.hok a o e).stay (fun b u hb q=>hs.extBut b u ?_ q) (fun _ q=>q) fun _ _ q=>q
 rcases hb with z | z
 ·intro y;rw[z] at y;rw[y,hH] at e;cases e
 ·intro y;rw[y,hH] at z;cases z
end
structure OffC (X:Cx) (pins:List (Addr × Obj)) (H:Hp) (C:Addr):Prop where
 free:H C=none
 loc:C≠X.env.locals
 young:X.s₀.heap.objs.size<=C
 cell:∀x c,X.env.cells.lookup x=some c->c≠C
 pin:∀p∈X.pn++pins,p.1≠C
theorem OffC.back {X:Cx} {pins:List (Addr × Obj)} {σ:St} {H:Hp} {C:Addr} {s:Shared} {h':Heap} (o:OffC X pins H C) (I:Inv X pins σ H s) (hs:Heap.SameBut C s.heap h'):Inv X pins σ H {s with heap:=h'} :=
 I.turned (t':=s.toks) (fun b u hb e=>hs.extBut b u hb e) o.free o.loc (.inr o.young) o.cell o.pin
def nxC (p:Addr) (te:TE) (tc:TT) (N:St->Hp->Prop):St->Hp->Prop:=fun σ2 H3=>tc σ2 H3 fun b H4 =>
 if b=true then te σ2 H4 fun y H5=>∃xs,H5 p=some (.lst xs)/\xs.length < sizeLine/\N σ2 (upd H5 p (.lst (xs++[y]))) else N σ2 H4
def CompG (J:It) (g:TG) (tc:TT) (te:TE) (Q:VK) (p:Addr) (σ:St) (H:Hp):Prop:=∃W:Nat->Nat->St->Hp->Prop,(∃m,W 0 m σ H) /\
 ∀i m σ' H',W i m σ' H'->(J.stop i H'/\Q (.ref p) H')\/(J.go i H'/\∃N:St->Hp->Prop,(∀σ2 H2,N σ2 H2->∃m',m' < m/\W (i+1) m' σ2 H2)/\∀x H2,J.yld i H' x H2->g x σ' H2 (nxC p te tc N))
def tComp (wi:TI) (k:Nat) (is:List Nat) (g:TG) (tc:TT) (te:TE):TE:=fun σ H Q=>wi σ H fun J H1=>∀p,H1 p=none->CompG J g tc te Q p (startC k is σ) (upd H1 p (.lst []))
def tYes:TT:=fun _ H Q=>Q true H
section
variable {X:Cx} {tg iter elt:Expr} {ifs:List Expr} {wi:TI} {g:TG} {tc:TT} {te:TE} {N:List Str} {k:Nat} {is:List Nat} {scope:Scope} {pos:Pos}
def PIf (X:Cx) (ifs:List Expr) (t:TT):Prop :=
 ∀(pins:List (Addr × Obj)) (s:Shared) (σ:St) (H:Hp) (Q:Bool->Hp->Prop),Inv X pins σ H s->t σ H Q ->
  wpAny (model X.prog X.w) X.A (forIn ifs true fun c r=>if r=true then do let ok ← isTrue c X.env (eval c X.env);pure (ForInStep.yield ok) else pure (ForInStep.yield r)) (TP X pins σ Q) X.xe s
theorem zul:PIf X [] tYes:=fun pins s σ H Q I h=>wpAny_tests_nil ⟨H,I,h⟩
theorem zuk {c:Expr} {t:TT} (h:PT X c t):PIf X [c] t:=fun pins s σ H Q I hq=>wpAny_tests_one (h pins s σ H Q I hq)
theorem zgu (hcalm:X.calm=true) (hg:∀cl C fp s H,PG (cxC X N scope cl C fp s H) tg g) (hc:∀cl C fp s H,PIf (cxC X N scope cl C fp s H) ifs tc) (he:∀cl C fp s H,PE (cxC X N scope cl C fp s H) elt te)
  (S:CompScope X N k is scope) {pins:List (Addr × Obj)} {σ:St} {H2:Hp} {s2:Shared} {cl:List (Str × Addr)} {it:Addr} {fp:List Addr} {tn:Nat->Heap->Prop} {J:It} {Q:VK} {E:Value->Shared->Prop} {RR:Value->Addr->Result->Shared->Prop}
  (I2:Inv X pins σ H2 s2) (T:Turn X.prog X.w X.K tg J fp it tn) (st2:tn 0 s2.heap) (f2:∀b∈fp,FpOk X pins H2 b)
  (c1:∀x c,cl.lookup x=some c->X.env.cells.lookup x=some c) (c2:∀x,(x,NameKind.free)∈scope.names->∃c,cl.lookup x=some c)
  (h:∀p,H2 p=none->∃W:Nat->Nat->St->Hp->Prop,(∃m,W 0 m (startC k is σ) (upd H2 p (.lst []))) /\
   ∀i m σ' H',W i m σ' H'->(J.stop i H'/\Q (.ref p) H')\/(J.go i H'/\∃N:St->Hp->Prop,(∀σ2 H2,N σ2 H2->∃m',m' < m/\W (i+1) m' σ2 H2)/\∀x H2,J.yld i H' x H2->g x σ' H2 (nxC p te tc N)))
  (hR:∀(p C:Addr) (s':Shared) (H':Hp) (m:Str->Option Value),OffC X pins H' C->s'.heap.Ns C m->Inv X pins σ H' s'->Q (.ref p) H'->RR (.ref p) C (.ok .next) s') :
  wpAny (model X.prog X.w) X.A (newList []) (fun acc s₃=>wpAny (model X.prog X.w) X.A (newFunctionEnv scope X.env.globals cl [] X.env.qual none .none (some X.env)) (fun cenv s₄ =>
   codeAny (model X.prog X.w) X.A (.compStart (.ListComp elt [⟨tg,iter,ifs,0⟩] scope pos) 0 (.ref it) acc {cenv with scope:=relabel scope X.env}) (RR acc cenv.locals) s₄) E s₃) E s2:=by
 refine xdf ?_;have fresh:H2 s2.heap.objs.size=none:=I2.fresh;have I3 : Inv X pins σ (upd H2 s2.heap.objs.size (.lst [])) { s2 with heap := s2.heap.push { cls := .type "list", dict := none, data := .seq ([] : List Value).toArray } } := I2.lnew (t' := s2.toks) (.nil) (by decide)
 generalize hs3 : ({ s2 with heap := s2.heap.push { cls := .type "list", dict := none, data := .seq ([] : List Value).toArray } } : Shared) = s3 at I3
 have k3:∀b o,s2.heap.get? b=some o->s3.heap.get? b=some o:=fun b o e=>by rw[← hs3];exact xbh _ e
 refine wpAny_newFunctionEnv S.nocell (by intro y hy;simp at hy) (fun h₁ hns₁ hsb₁=>?_) S.kind;have st3:tn 0 s3.heap:=T.keep _ _ _ st2 fun b _ o e=>k3 b o e
 have f3:∀b∈fp,FpOk X pins (upd H2 s2.heap.objs.size (.lst [])) b:=fun b hb=>by
  obtain ⟨o,e,_⟩:=T.obj _ _ st2 b hb;exact ⟨by rw[zp (xbv (xbl e))];exact (f2 b hb).1,(f2 b hb).2⟩
 have k4:∀b o,s3.heap.get? b=some o->h₁.get? b=some o:=fun b o e=>hsb₁.extBut b o (xbv (xbl e)) (xbh _ e)
 have J4:=zrq (tk:=s3.toks+([]:List (Str × Value)).length) S I3 c1 c2 f3 (fun b hb=>let ⟨o,e,_⟩:=T.obj _ _ st3 b hb;⟨o,e⟩) hns₁ k4;obtain ⟨W,⟨m0,w0⟩,turn⟩:=h s2.heap.objs.size fresh;have st4:tn 0 h₁:=T.keep _ _ _ st3 fun b _ o e=>k4 b o e
 have loop:codeAny (model X.prog X.w) X.A (.compLoop (.ListComp elt [⟨tg,iter,ifs,0⟩] scope pos) 0 (.ref it) (.ref s2.heap.objs.size) (compEnvC scope cl s3.heap.objs.size X.env)) (RR (.ref s2.heap.objs.size) s3.heap.objs.size) {s3 with heap:=h₁,toks:=s3.toks+([]:List (Str × Value)).length}:=by
  have stat:∀{H':Hp},(∀b∈fp,H' b=none)->∀b∈fp,FpOk (cxC X N scope cl s3.heap.objs.size fp s3 (upd H2 s2.heap.objs.size (.lst []))) [] H' b:=fun {H'} hn b hb=>by
   obtain ⟨o,e,_⟩:=T.obj _ _ st3 b hb;refine ⟨hn b hb,xbv (xbl e),J4.ok.exfs b hb,.inl hb,fun x c e'=>(f3 b hb).2.2.2.2.1 x c (c1 x c e'),fun p hp=>(nomatch hp)⟩
  refine ziu (fun n s'=>∃i σ' H',Inv (cxC X N scope cl s3.heap.objs.size fp s3 (upd H2 s2.heap.objs.size (.lst []))) [] σ' H' s'/\tn i s'.heap/\(∀b∈fp,H' b=none)/\W i n σ' H') ?_ m0
   ⟨0,_,_,J4,st4,fun b hb=>(f3 b hb).1,w0⟩
  rintro n s5 ⟨i,σ5,H5,I5,st5,fr5,w5⟩;rcases turn i n σ5 H5 w5 with ⟨stop,q⟩ | ⟨go,N',hN',step⟩
  ·refine thn (T.done (cxC X N scope cl s3.heap.objs.size fp s3 (upd H2 s2.heap.objs.size (.lst []))) rfl rfl rfl hcalm i [] s5 σ5 H5 _ I5 (stat fr5) st5 stop) fun r s6 hq0=>?_
   obtain ⟨hr,I6⟩:=hq0;subst hr;obtain ⟨m,hm,_⟩:=I6.loc;refine hR _ _ s6 H5 m ⟨I6.free,xgj I3.lt,I3.sz,fun x c e=>?_,fun p hp=>xbv (xbl (I3.pin p hp).1)⟩ hm (zrr (h':=s6.heap) I3 f3 I6 (.refl ..)) q;obtain ⟨v,o,ho,_⟩:=I3.cell x c e;exact xbv (xbl ho)
  ·refine thn (T.item (cxC X N scope cl s3.heap.objs.size fp s3 (upd H2 s2.heap.objs.size (.lst []))) rfl rfl rfl hcalm i [] s5 σ5 H5 _ I5 (stat fr5) st5 go) fun r s6 hq0=>?_
   obtain ⟨u,hr,h6⟩:=hq0;subst hr;refine thn h6 fun _ s7 hq0=>?_
   obtain ⟨x,H7,I7,r7,y7,st7,fr7⟩:=hq0;have I7':=I7.pinned (stat fr7) (T.obj _ _ st7);refine thn (hg cl s3.heap.objs.size fp s3 _ _ s7 σ5 H7 x u _ I7' r7 (step x H7 y7)) fun _ s8 hq0=>?_
   obtain ⟨σ8,H8,I8,q8⟩:=hq0;refine thn (hc cl s3.heap.objs.size fp s3 _ _ s8 σ8 H8 _ I8 q8) fun b s9 hq0=>?_
   obtain ⟨H9,I9,q9⟩:=hq0;have again:∀{σ':St} {H':Hp} {s':Shared} {m':Nat},Inv (cxC X N scope cl s3.heap.objs.size fp s3 (upd H2 s2.heap.objs.size (.lst []))) ([]++pinsAt fp s7.heap) σ' H' s'->m' < n->W (i+1) m' σ' H' ->
     ∃m,m < n/\∃i σ' H',Inv (cxC X N scope cl s3.heap.objs.size fp s3 (upd H2 s2.heap.objs.size (.lst []))) [] σ' H' s'/\tn i s'.heap/\(∀b∈fp,H' b=none)/\W i m σ' H':=fun {σ' H' s' m'} I' hm w'=>by
    refine ⟨m',hm,i+1,σ',H',I'.unpinned,T.keep _ _ _ st7 fun b hb o e=>(I'.pin (b,o) (xci _ (xci _ (zbr hb e)))).1,fun b hb=>?_,w'⟩;obtain ⟨o,e,d⟩:=T.obj _ _ st7 b hb;exact (I'.pin (b,o) (xci _ (xci _ (zbr hb e)))).2.1
   cases b with
   | false =>
    obtain ⟨m',hm,w'⟩:=hN' _ _ q9;exact again I9 hm w'
   | true =>
    refine thn (he cl s3.heap.objs.size fp s3 _ _ s9 σ8 H9 _ I9 q9) fun v s10 hq0=>?_
    obtain ⟨y,H10,I10,r10,xs,hxs,hz,n10⟩:=hq0;obtain ⟨m',hm,w'⟩:=hN' _ _ n10;refine thn (zfn (X:=cxC X N scope cl s3.heap.objs.size fp s3 (upd H2 s2.heap.objs.size (.lst []))) _ s10 σ8 H10 (.ref s2.heap.objs.size) [y] _ [v] (fun _ H'=>H'=upd H10 s2.heap.objs.size (.lst (xs++[y]))) I10 rfl (.cons r10 .nil) ⟨_,xs,y,rfl,rfl,hxs,hz,rfl⟩) fun _ s11 hq0=>?_
    obtain ⟨_,H11,I11,_,e11⟩:=hq0;subst e11;exact again I11 hm w'
 have hs3' : s2.heap.push { cls := .type "list", dict := none, data := .seq ([] : List Value).toArray } = s3.heap := by rw [← hs3]
 have fin:=codeAny_compStart_list (elt:=elt) (target:=tg) (iter:=iter) (ifs:=ifs) (rest:=[]) (scope:=scope) (pos:=pos) loop (T.self X.A 0 _ _ _ st4 loop);exact fin
theorem zeg (S:CompScope X N k is scope) {pins:List (Addr × Obj)} {σ:St} {H:Hp} {s:Shared} (I:Inv X pins σ H s) :
  ∃cl,closureFor scope X.env=pure cl/\(∀x c,cl.lookup x=some c->X.env.cells.lookup x=some c)/\∀x,(x,NameKind.free)∈scope.names->∃c,cl.lookup x=some c :=
 zgv fun y hy hf=>I.ok.has y.1 (S.frees y hy hf)
theorem zus (hcalm:X.calm=true) (hi:PI X tg iter wi) (hg:∀cl C fp s H,PG (cxC X N scope cl C fp s H) tg g) (hc:∀cl C fp s H,PIf (cxC X N scope cl C fp s H) ifs tc) (he:∀cl C fp s H,PE (cxC X N scope cl C fp s H) elt te)
  (S:CompScope X N k is scope) (hs:∀x,foldedSetIterable iter X.env x=pure x:=by intro _;rfl):PE X (.ListComp elt [⟨tg,iter,ifs,0⟩] scope pos) (tComp wi k is g tc te):=by
 intro pins s σ H Q I h;obtain ⟨cl,e,c1,c2⟩:=zeg S I;rw[eval_ListComp];refine xic (use:=none) rfl hs e S.kind S.names (thn (hi pins s σ H _ I h) fun xv s1 h1=>thn h1 fun itv s2 h2=>?_);obtain ⟨it,fp,tn,J,H2,e2,I2,T,st2,f2,h3⟩:=h2;subst e2;refine zgu (Q:=Q) (RR:=fun acc C=>compPost (model X.prog X.w) X.A X.xe none (EP X pins σ Q) acc C) hcalm hg hc he S I2 T st2 f2 c1 c2 h3 ?_;intro p C s' H' m off hm I' q;exact ⟨m,hm,fun h' hs'=>⟨.ref p,H',off.back I' hs',rfl,q⟩⟩
theorem zpa {i:Nat} {x:Str} {pos':Pos} (hcalm:X.calm=true) (hN:X.N.Nodup) (hxi:X.N[i]?=some x) (hx:Loc X.env.scope x) (hi:PI X tg iter wi) (hg:∀cl C fp s H,PG (cxC X N scope cl C fp s H) tg g) (hc:∀cl C fp s H,PIf (cxC X N scope cl C fp s H) ifs tc)
  (he:∀cl C fp s H,PE (cxC X N scope cl C fp s H) elt te) (S:CompScope X N k is scope) {spos:Pos} (hsw:swapsWith (.ListComp elt [⟨tg,iter,ifs,0⟩] scope pos) (some (.Name x pos')) spos.line X.env=pure true:=by rfl)
  (hf:X.fn x=true\/X.env.scope.names.lookup x=some .local:=by first | exact .inl rfl | exact .inr rfl | assumption)
  (hs:∀x,foldedSetIterable iter X.env x=pure x:=by intro _;rfl):PS X (.Assign [.Name x pos'] (.ListComp elt [⟨tg,iter,ifs,0⟩] scope pos) spos) (tAsg (tComp wi k is g tc te) (gName i)):=by
 intro pins s σ H D I h;obtain ⟨cl,e,c1,c2⟩:=zeg S I;rw[exec_Assign_Name_used (hs:=hsw)];refine xba (xkc (xba (?_:wpAny _ X.A _ _ _ s)));show wpAny _ X.A (do let _ ← comprehension (.ListComp elt [⟨tg,iter,ifs,0⟩] scope pos) scope X.env _ (newList []) false (eval iter X.env) (some (assign (.Name x pos') X.env))) _ _ s
 refine xba (xdq (xic (use:=some (assign (.Name x pos') X.env)) (Q:=fun _ s'=>SP X pins D .next s') rfl hs e S.kind S.names
  (thn (hi pins s σ H _ I h) fun xv s1 h1=>thn h1 fun itv s2 h2=>?_)) (fun _ s' hq=>xbc (xbc hq)) fun _ _ e=>e)
 obtain ⟨it,fp,tn,J,H2,e2,I2,T,st2,f2,h3⟩:=h2;subst e2;refine zgu (Q:=fun v H'=>gName i v σ H' D.nx) (RR:=fun acc C=>compPost (model X.prog X.w) X.A X.xe (some (assign (.Name x pos') X.env)) (fun _ s'=>SP X pins D .next s') acc C) hcalm hg hc he S I2 T st2 f2 c1 c2 h3 ?_;intro p C s' H' m off hm I' q;show wpAny _ X.A (assign (.Name x pos') X.env (.ref p)) _ _ _;refine xkj (zff (v:=.ref p) I' hN hxi hx rfl (fun s'' I'' hq0=>?_) hf);obtain ⟨a,hsb,ha⟩:=hq0;have hCa:C≠a:=by
  rcases ha with z | z
  ·rw[z];exact off.loc
  ·exact (off.cell x a z).symm
 exact ⟨m,hm.sameBut hsb hCa,fun h' hs'=>⟨_,H',off.back I'' hs',q⟩⟩
end
section
variable {g:TG} {tc:TT} {te:TE} {Q:VK} {σ:St} {H:Hp} {p:Addr}
end
def Callee (P:Program) (w:World) (K:Fg) (mg:Str->Option Value) (base:Heap) (x:Str) (k:Nat) (ps:List Str) (sp:Sp):Prop :=
 ∃f fd,FnOk P w K mg base CX0 k f fd ps sp/\Binds K fd ps []/\PySem.W.keepIn K (.ref f)=true/\mg x=some (.ref f)
section
variable {X:Cx} {x:Str} {k:Nat} {ps:List Str} {sp:Sp} {p pos:Pos} {e:Expr} {es:List Expr} {t:TA}
theorem zqw (c : Callee X.prog X.w X.K X.mg X.base x k ps sp) (hr : Room k X.A) (hg : Gl X x) (ha : PA X (e :: es) t) (hdb : (x == ("__debug__" : Str)) = false := by decide)
  (he:starEach (e::es) X.env=(false,eval e X.env)::starEach es X.env:=by rfl) (hpl:(backTo pos (starEach es X.env)).any (·.1)=false:=by rfl) :
  PE X (.Call (.Name x p) (e::es) [] pos) (tCall sp [] E0 t):=by
 obtain ⟨f,fd,F,b,kp,m⟩:=c;exact zuu F hr hg m kp b .nil pass0 ha hdb he hpl
end
def TopF (K:Fg) (x:Str) (st:Stmt):Prop :=
 ∃f fd,PySem.W.nsIn K mainGlobals x=some (some (.ref f))/\Fun K x x st f fd
theorem zfy {K:Fg} {x:Str} {st:Stmt} {f:Addr} {od an:Option Addr} {sl:Array (Option Value)} {oc kV dc pm cd ct:Value}
  (a:PySem.W.nsIn K mainGlobals x=some (some (.ref f))) (l:K.lookup f=some ⟨oc,od,.func (PySem.W.fnOf x x (defArgs st) (defBody st) (defScope st) .none kV dc pm an cd ct),sl⟩) (c:PySem.W.codeIn K cd x=true) (k:PySem.W.keepIn K (.ref f)=true):TopF K x st :=
 ⟨f,_,a,zbat l c k⟩
theorem zom {P:Program} {w:World} {K:Fg} {mg:Str->Option Value} {base h:Heap} {x:Str} {st:Stmt} {N ps:List Str} {k:Nat} {sp:Sp} (T:TopF K x st) (X:K.In h) (G:h.Ns mainGlobals mg) (S:FnScope N ps (defScope st))
  (bd:∀(kV doc pm:Value) (an:Option Addr) (cdv ct:Value) (us:List Value),us.length=ps.length->bindArgs (PySem.W.fnOf x x (defArgs st) (defBody st) (defScope st) .none kV doc pm an cdv ct) ⟨us,[]⟩=pure (ps.zip us))
  (len:∀vs H Q E,sp vs H Q E->vs.length=ps.length)
  (hbody:∀(f:Addr) (cdv:Value) (A:Around) (outer:List Env) (s:Shared) (H:Hp) (vs:List V) (Q:VK) (E:XK),Room k (A.deeper (envOfC x (defScope st) s.heap.objs.size f cdv))->sp vs H Q E ->
   ∃t,PSs (cxOf CX0 P w K mg base N x (defScope st) f cdv A outer s H E).nox (defBody st) t/\t {nx:=fun _ H'=>Q .non H',rt:=Q} (start N vs) H):Callee P w K mg base x (k+1) ps sp:=by
 obtain ⟨f,fd,a,F⟩:=T;exact ⟨f,fd,F.ok S len (hbody f),F.binds bd,F.kp,PySem.W.mg_of X G a⟩
section
variable {X:Cx}
theorem zfb : CallR X (.builtin "isinstance") (fun xs H Q => ∃ x T t b, xs = [x, .ty T] /\ TyOf X.K H x t /\ PySem.W.kitOne X.K t (.type T) = some b /\ Q (.bl b) H) := by
 intro pins s σ H xs us Q I r h;obtain ⟨x,T,t,b,rfl,ty,e,q⟩:=h;obtain ⟨u,w',rfl,ru,rw'⟩:=vals2 r;cases (show w'=Value.type T from rw');exact znv I ru ty e fun tk=>⟨.bl b,H,I.tok tk,rfl,q⟩
def CDivP (i j:Int):Prop:=0 < j/\j < 2 ^ 1000
theorem zks:OpR X (binaryOp .FloorDiv) (rI CDivP fun i j=>.int (i / j)):=opI fun i j _ _ _ _ _ hc q=>by
 have e:i.fdiv j=i / j:=Int.fdiv_eq_ediv_of_nonneg i (by have:=hc.1;lia);refine floordiv_int (by have:=hc.1;lia) (by rw[e];exact q) (.inl (PyProof.noPylong_of_log2 ?_));have h1:j.natAbs < 2 ^ 1000:=by
  have h2:=hc.1;have h3:=hc.2;have h4:(j.natAbs:Int)=j:=by lia
  have h5:(j.natAbs:Int) < ((2 ^ 1000:Nat):Int):=by
   rw[h4];exact_mod_cast h3
  exact_mod_cast h5
 have h0:j.natAbs≠0:=by have:=hc.1;lia
 have:=(Nat.log2_lt h0).mpr h1;lia
end
section
variable {X:Cx} {st:Stmt} {t:TS}
end
def compLook (XN:List Str) (xs:List (Str × NameKind)) (N:List Str) (k:Nat) (is:List Nat) (scope:Scope):Bool :=
 (scope.kind == .function) && scope.names.all (fun y=>y.2 != .cell) && scope.names.all (fun y=>y.2 != .local || scope.names.lookup y.1 == some .local) &&
 scope.names.all (fun y=>y.2 != .free || (xs.lookup y.1 == some .cell || xs.lookup y.1 == some .free)) && (N.length == k+is.length) &&
 (List.range is.length).all (fun j=>match is[j]?,N[k+j]? with
  | some i,some x=>XN[i]? == some x && scope.names.lookup x == some .free
  | _,_=>false)
theorem zcs {X:Cx} {N:List Str} {k:Nat} {is:List Nat} {scope:Scope} (h:compLook X.N X.env.scope.names N k is scope=true):CompScope X N k is scope:=by
 unfold compLook at h;simp only[xfa,xef] at h;obtain ⟨⟨⟨⟨⟨h1,h2⟩,h3⟩,h4⟩,h5⟩,h6⟩:=h;refine ⟨eq_of_beq h1,fun y hy e=>?_,fun y hy e=>?_,fun y hy e=>?_,eq_of_beq h5,fun j i e=>?_⟩
 ·have:=h2 y hy;rw[e] at this;simp at this
 ·have:=h3 y hy;rw[e] at this;simp at this;exact this
 ·have:=h4 y hy;rw[e] at this;simp at this;exact this
 ·have hj:j < is.length:=(xbn.mp e).1;have:=h6 j (xco.mpr hj);rw[e] at this;cases e2:N[k+j]? with
  | none=>rw[e2] at this;cases this
  | some x =>
   rw[e2] at this;simp only[xfa,xfm] at this;exact ⟨x,rfl,this.1,this.2⟩
theorem zor : bootBuiltins "len" = some (.builtin "len") := by decide +kernel
theorem zbcb : bootBuiltins "abs" = some (.builtin "abs") := by decide +kernel
theorem zxr : bootBuiltins "min" = some (.builtin "min") := by decide +kernel
theorem zxs : bootBuiltins "max" = some (.builtin "max") := by decide +kernel
theorem zjw : bootBuiltins "sum" = some (.builtin "sum") := by decide +kernel
theorem zix : bootBuiltins "sorted" = some (.builtin "sorted") := by decide +kernel
theorem zdf : bootBuiltins "isinstance" = some (.builtin "isinstance") := by decide +kernel
theorem zxt : bootBuiltins "int" = some (.type "int") := by decide +kernel
theorem zeh : bootBuiltins "tuple" = some (.type "tuple") := by decide +kernel
theorem zpz : bootBuiltins "list" = some (.type "list") := by decide +kernel
theorem zbca : bootBuiltins "set" = some (.type "set") := by decide +kernel
theorem zqf {H:Hp} {p:Addr} {o:HO} (h:H p=some o):upd H p o=H:=by
 funext b
 unfold upd;split
 ·subst b;exact h.symm
 ·rfl
section
variable {X:Cx} {K:Fg}
end
end L2
namespace Srt
open PySem PySem.W PyProof.Rows
section
variable (r:Nat->Nat)
def lt (i j:Nat):Bool:=decide (r i < r j)
def At (p:Array Nat) (i:Nat):Nat:=r (p.getD i 0)
def Up (p:Array Nat) (n:Nat):Prop:=∀i j,i<=j->j < n->At r p i<=At r p j
end
section
variable {r:Nat->Nat} {p:Array Nat} {n:Nat}
end
section
variable {n:Nat}
end
section
variable {P:Program} {w:World} {B:Around} {E:Value->Shared->Prop} {st:Shared}
def midHeap (h : Heap) (d : Addr) (xs : List Value) : Heap := ((h.update d (Obj.mapSeq fun _ => (#[] : Array Value))).push (seqObj "tuple" xs.toArray 0)).push (seqObj "list" #[] 0)
theorem zeu {h:Heap} {d b:Addr} {xs:List Value} {ob:Obj} (ne:b≠d) (e:h.get? b=some ob):(midHeap h d xs).get? b=some ob :=
 xbh _ (xbh _ ((Heap.get?_update_ne _ _ _ _ ne).trans e))
def Answers (P:Program) (w:World) (B:Around) (r:Nat->Nat) (xs:List Value) (sg:Shared):Prop :=
 ∃κ,(∀R:SortKind->Shared->Prop,R κ sg->wpAny (model P w) B (keyKind' xs.toArray) R (fun _ _=>False) sg) /\
  ∀i j C,i < xs.length->j < xs.length->C (lt r i j) sg->kas_ask P w B κ xs i j C sg
def outOf (xs:List Value) (p:Array Nat):Array Value:=List.toArray (p.toList.map fun i=>xs.getD i Value.none)
theorem zmz {xs:List Value} (h:xs.length < 2):(xs.toArray.zip xs.toArray).map (·.2)=outOf xs (List.toArray (List.range xs.length)):=by
 unfold outOf
 match xs,h with
 | [],_=>simp
 | [_],_=>simp[List.range_succ]
 | _::_::_,h=>exact absurd h (by simp)
end
end Srt
namespace Srt
open PySem PySem.W PyProof.Rows HT
theorem zdy:∀a:List Int,lexLt a a=false
 | []=>rfl
 | x::a=>by rw[zbs,if_pos rfl];exact zdy a
theorem zdk:∀{a b c:List Int},lexLt a b=true->lexLt b c=true->lexLt a c=true
 | _,[],[],_,h=>by rw[zcd] at h;cases h
 | _,_::_,[],_,h=>by rw[zbv] at h;cases h
 | [],[],_::_,h,_=>by rw[zcd] at h;cases h
 | _::_,[],_::_,h,_=>by rw[zbv] at h;cases h
 | [],_::_,_::_,_,_=>zbf _ _
 | x::a,y::b,z::c,h1,h2=>by
  rw[zbs] at h1 h2 ⊢;by_cases e1:x=y
  ·rw[if_pos e1] at h1;subst e1;by_cases e2:x=z
   ·rw[if_pos e2] at h2 ⊢;exact zdk h1 h2
   ·rw[if_neg e2] at h2 ⊢;exact h2
  ·rw[if_neg e1] at h1;have h1':=xfp h1;by_cases e2:y=z
   ·subst e2;rw[if_neg e1];exact h1
   ·rw[if_neg e2] at h2;have h2':=xfp h2;rw[if_neg (by lia)];exact xdb (by lia)
theorem zgk:∀a b:List Int,lexLt a b=true\/a=b\/lexLt b a=true
 | [],[]=>.inr (.inl rfl)
 | [],_::_=>.inl (zbf _ _)
 | _::_,[]=>.inr (.inr (zbf _ _))
 | x::a,y::b=>by
  rw[zbs,zbs];by_cases e:x=y
  ·subst e;rw[if_pos rfl,if_pos rfl];rcases zgk a b with h | h | h
   ·exact .inl h
   ·exact .inr (.inl (by rw[h]))
   ·exact .inr (.inr h)
  ·rw[if_neg e,if_neg (fun z=>e z.symm)];rcases Int.lt_or_gt_of_ne e with h | h
   ·exact .inl (xdb h)
   ·exact .inr (.inr (xdb h))
theorem zno {a b:List Int} (h:lexLt a b=true):lexLt b a=false:=by
 cases e:lexLt b a with
 | false=>rfl
 | true=>have:=zdk h e;rw[zdy] at this;cases this
theorem zlw {p q:Nat->Bool} (hpq:∀x,p x=true->q x=true):∀{l:List Nat} {y:Nat},y∈l->q y=true->p y=false->l.countP p < l.countP q
 | [],_,h,_,_=>nomatch h
 | x::l,y,h,h1,h2=>by
  have mono:∀l:List Nat,l.countP p<=l.countP q:=fun l=>List.countP_mono_left fun x _=>hpq x
  rcases xbo.mp h with rfl | h
  ·rw[xgr h1,xif (by rw[h2];decide)];exact Nat.lt_succ_of_le (mono l)
  ·have ih:=zlw hpq h h1 h2;by_cases c:p x=true
   ·rw[xgr c,xgr (hpq x c)];lia
   ·rw[xif c];by_cases d:q x=true
    ·rw[xgr d];lia
    ·rw[xif d];exact ih
def rank (ks:List (List Int)) (i:Nat):Nat:=(List.range ks.length).countP fun k=>lexLt (ks.getD k []) (ks.getD i [])
theorem zgf {ks:List (List Int)} {i j:Nat} (hi:i < ks.length) (hj:j < ks.length):lt (rank ks) i j=lexLt (ks.getD i []) (ks.getD j []):=by
 have up:∀{a b:Nat},a < ks.length->lexLt (ks.getD a []) (ks.getD b [])=true->rank ks a < rank ks b:=fun {a b} ha h =>
  zlw (fun x hx=>zdk hx h) (xco.mpr ha) h (zdy _)
 cases e:lexLt (ks.getD i []) (ks.getD j []) with
 | true=>exact xdb (up hi e)
 | false =>
  refine xct fun h=>?_
  rcases zgk (ks.getD i []) (ks.getD j []) with z | z | z
  ·rw[e] at z;cases z
  ·unfold rank at h;rw[z] at h;exact absurd h (xez _)
  ·have:=up hj z;lia
section
variable {prog:Program} {w:World} {A:Around} {s:Shared} {b:Bool} {Q:Bool->Shared->Prop}
theorem zlg:∀{us ws:List Value} {ns ms:List Int} (i:Nat),IntsAre us ns->IntsAre ws ms->Q (lexLt ns ms) s->KatLex prog w A b (decide (us.length < ws.length)) Q (us.zip ws) i s
 | _,_,_,_,_,.nil,.nil,h=>h
 | _,_,_,_,_,.nil,.cons _ _ _,h=>h
 | _,_,_,_,_,.cons _ _ _,.nil,h=>h
 | _,_,_,_,i,.cons x t (vs:=us) (ns:=ns) r1,.cons y u (vs:=ws) (ns:=ms) r2,h=>by
  rw[zbs] at h;refine kat_cons (wpAny_eqBool_int (kat_go (fun e=>kat_yes ?_) fun e=>kat_no ?_))
  ·rw[if_pos (eq_of_beq e)] at h;have q:=zlg (i+1) r1 r2 h;have ee:decide ((Value.int x t::us).length < (Value.int y u::ws).length)=decide (us.length < ws.length):=by
    rw[xcb,xcb,xgu];simp
   rw[ee];exact q
  ·rw[if_neg (xei.mp e)] at h;cases hb:(b && i == 0) with
   | true=>exact oneLt_int h
   | false=>exact kat_one _ _ (PyProof.Rows.lt_int h)
end
end Srt
namespace L2
open PySem PySem.Spec PyProof.Rows PySem.W
theorem zhy:∀{as:List Addr} {us:List Value},Vals (as.map V.ref) us->us=as.map Value.ref
 | [],_,.nil=>rfl
 | a::as,_,.cons r t=>by
  rw[show _=Value.ref a from r,zhy t]
  rfl
def TupsAt (K:Fg) (H:Hp) (ps:List (Addr × List Int)):Prop:=∀p∈ps,SqT K H p.1 (p.2.map V.int)
theorem zg {α β:Type} (f:α->β) (d:β) {l:List α} {i:Nat} {x:α} (h:l[i]?=some x):(l.map f).getD i d=f x:=by
 rw[xbk,xcl,h]
 rfl
section
variable {X:Cx}
end
end L2
namespace L2
open PySem PySem.Spec PyProof.Rows
mutual
inductive DAt (K:Fg) (H:Hp):V->PyData->Prop
 | non:DAt K H .non .none
 | bl (b:Bool):DAt K H (.bl b) (.bool b)
 | int (i:Int):DAt K H (.int i) (.int i)
 | str (x:Str):DAt K H (.str x) (.str x)
 | lst {a:Addr} {xs:List V} {ds:List PyData}:SqL K H a xs->DAll K H xs ds->DAt K H (.ref a) (.list ds)
 | tup {a:Addr} {xs:List V} {ds:List PyData}:SqT K H a xs->DAll K H xs ds->DAt K H (.ref a) (.tuple ds)
inductive DAll (K:Fg) (H:Hp):List V->List PyData->Prop
 | nil:DAll K H [] []
 | cons {x:V} {xs:List V} {d:PyData} {ds:List PyData}:DAt K H x d->DAll K H xs ds->DAll K H (x::xs) (d::ds)
end
section
variable {X:Cx} {pins:List (Addr × Obj)} {σ:St} {H:Hp} {s:Shared}
mutual
theorem zdv (I:Inv X pins σ H s):∀{v:V} {d:PyData} {u:Value},DAt X.K H v d->RelV v u->∃as,Reads s.heap u d as
 | _,_,_,.non,r=>by cases r;exact ⟨_,.none⟩
 | _,_,_,.bl b,r=>by cases r;exact ⟨_,.bool b⟩
 | _,_,_,.int i,r=>by obtain ⟨t,rfl⟩:=r;exact ⟨_,.int i t⟩
 | _,_,_,.str x,r=>by obtain ⟨t,rfl⟩:=r;exact ⟨_,.str x t⟩
 | _,_,_,.lst h all,r=>by
  cases r;obtain ⟨its,rv,⟨o,n,e,c,_,dd⟩,_⟩:=I.list h;obtain ⟨as,q⟩:=zcx I all rv;exact ⟨_,.list e c dd q⟩
 | _,_,_,.tup h all,r=>by
  cases r;obtain ⟨its,rv,⟨o,e,c,n,dd⟩,_⟩:=I.tuple h;obtain ⟨as,q⟩:=zcx I all rv;exact ⟨_,.tuple e c dd q⟩
theorem zcx (I:Inv X pins σ H s):∀{vs:List V} {ds:List PyData} {us:List Value},DAll X.K H vs ds->Vals vs us->∃as,ReadsAll s.heap us ds as
 | _,_,_,.nil,.nil=>⟨_,.nil⟩
 | _,_,_,.cons h t,.cons r rs=>by
  obtain ⟨as,q⟩:=zdv I h r;obtain ⟨bs,q'⟩:=zcx I t rs;exact ⟨_,.cons q q'⟩
end
end
def rEqX (K:Fg) (neg:Bool):R2:=fun x y H Q=>∃dx dy,DAt K H x dx/\DAt K H y dy/\PySem.SeqAt.shaped dx=true/\PySem.SeqAt.shaped dy=true/\Q (.bl (if neg then !PyData.eqv dx dy else PyData.eqv dx dy)) H
section
variable {X:Cx}
theorem zjk (hu:X.A.units+64 < cLine):OpR X (compareOp .Eq) (rEqX X.K false):=by
 intro pins s σ H x y v u Q I r1 r2 h;obtain ⟨dx,dy,a1,a2,a3,a4,q⟩:=h;obtain ⟨as,ra⟩:=zdv I a1 r1;obtain ⟨bs,rb⟩:=zdv I a2 r2;exact eq_dataH ra rb a3 a4 hu ⟨.bl (PyData.eqv dx dy),H,I,rfl,q⟩
theorem zuz (hu:X.A.units+64 < cLine):OpR X (compareOp .NotEq) (rEqX X.K true):=by
 intro pins s σ H x y v u Q I r1 r2 h;obtain ⟨dx,dy,a1,a2,a3,a4,q⟩:=h;obtain ⟨as,ra⟩:=zdv I a1 r1;obtain ⟨bs,rb⟩:=zdv I a2 r2;exact ne_dataH ra rb a3 a4 hu ⟨.bl (!PyData.eqv dx dy),H,I,rfl,q⟩
end
def dI (ns:List Int):List PyData:=ns.map PyData.int
def dRow (ns:List Int):PyData:=.tuple (dI ns)
theorem zsm:∀a b:List Int,PyData.eqvAll (dI a) (dI b)=decide (a=b)
 | [],[]=>by rfl
 | [],_::_=>by rfl
 | _::_,[]=>by rfl
 | x::a,y::b=>by
  show (x == y && PyData.eqvAll (dI a) (dI b))=_;rw[zsm a b,xgu];simp
theorem zsk (a b:List Int):PyData.eqv (dRow a) (dRow b)=decide (a=b):=zsm a b
theorem zit:∀a b:List (List Int),PyData.eqvAll (a.map dRow) (b.map dRow)=decide (a=b)
 | [],[]=>by rfl
 | [],_::_=>by rfl
 | _::_,[]=>by rfl
 | x::a,y::b=>by
  show (PyData.eqv (dRow x) (dRow y) && PyData.eqvAll (a.map dRow) (b.map dRow))=_;rw[zit a b,zsk,xgu];simp
theorem zsl:∀a:List Int,PyData.canLayAll0 (dI a)=true/\PyData.depthAll (dI a)=0
 | []=>⟨rfl,rfl⟩
 | x::a=>by
  obtain ⟨h1,h2⟩:=zsl a;refine ⟨?_,?_⟩
  ·show (true && PyData.canLayAll0 (dI a))=true;rw[h1];rfl
  ·show max 0 (PyData.depthAll (dI a))=0;rw[h2];rfl
theorem zju (a:List Int):PySem.SeqAt.shaped (dRow a)=true:=by
 obtain ⟨h1,h2⟩:=zsl a;show (PyData.canLayAll0 (dI a) && decide (PyData.depthAll (dI a)+1<=64))=true;rw[h1,h2];rfl
theorem zis:∀a:List (List Int),PyData.canLayAll0 (a.map dRow)=true/\PyData.depthAll (a.map dRow)<=1
 | []=>⟨rfl,xec _⟩
 | x::a=>by
  obtain ⟨h1,h2⟩:=zis a;obtain ⟨h3,h4⟩:=zsl x;refine ⟨?_,?_⟩
  ·show (PyData.canLayAll0 (dI x) && PyData.canLayAll0 (a.map dRow))=true;rw[h1,h3];rfl
  ·show max (PyData.depthAll (dI x)+1) (PyData.depthAll (a.map dRow))<=1;rw[h4];lia
theorem zef (a:List (List Int)):PySem.SeqAt.shaped (.tuple (a.map dRow))=true:=by
 obtain ⟨h1,h2⟩:=zis a;show (PyData.canLayAll0 (a.map dRow) && decide (PyData.depthAll (a.map dRow)+1<=64))=true;rw[h1,xdb (by lia)];rfl
section
variable {X:Cx}
end
end L2
namespace Dct
open PySem PySem.W PyProof.Rows
def Raw (h:Heap) (d:Addr) (es:Array DictEntry) (ep:Nat):Prop:=∃ob,h.get? d=some ob/\ob.ExactDict/\ob.data=.dict es ep
theorem Raw.kept {h h':Heap} {d:Addr} {es:Array DictEntry} {ep:Nat} (x:Raw h d es ep) (k:∀ob,h.get? d=some ob->h'.get? d=some ob):Raw h' d es ep :=
 let ⟨ob,e,r⟩:=x;⟨ob,k ob e,r⟩
theorem Raw.lt {h:Heap} {d:Addr} {es:Array DictEntry} {ep:Nat} (x:Raw h d es ep):d < h.objs.size:=let ⟨_,e,_⟩:=x;xbl e
theorem Raw.is {st : Shared} {d : Addr} {es : Array DictEntry} {ep : Nat} (x : Raw st.heap d es ep) : st.TypeIs (.ref d) "dict" := let ⟨ob, e, c, _⟩ := x; ⟨ob, e, c.1⟩
section
variable {P:Program} {w:World} {B:Around} {E:Value->Shared->Prop} {st:Shared} {d it:Addr} {es:Array DictEntry} {ep k:Nat}
def iterObj (d : Addr) (n ep : Nat) : Obj := { cls := .type "dict_keyiterator", data := .fields #[.ref d, .int 0 0, .int n 0, .int ep 0] }
theorem zkk {W:Value->Shared->Prop} (ns:(d == sysModules)=false) (x:Raw st.heap d es ep) (fin:W (.ref st.heap.objs.size) {st with heap:=st.heap.push (iterObj d es.size ep)}):wpAny (model P w) B (pyIter (.ref d)) W E st:=by
 obtain ⟨ob,e,c,dt⟩:=id x;have ty:=x.is;refine xkk ty F.slot_dict_iter (xdw F.slot_dict_iter ty F.entry_dict_iter ?body (F.args_dict_iter_1 _))
 case body =>
  unfold Builtin.«dict.__iter__» Builtin.Dict.dictSlotNone Builtin.Dict.showsAll;refine xba (xba (wpAny_notOrdered_dict ty (xbc ?_)));show wpAny _ _ ((if (d == sysModules)=true then _ else _) >>= _) _ _ st;rw[if_neg (fun z=>xfd (ns.symm.trans z))];refine xba (xbc (xba (xkl e dt (xba (wpAny_dictEpoch e dt (xba (xdf (xbc ⟨_, rfl, "dict_keyiterator", _, ⟨_, xbt _ rfl, rfl⟩, xeq.lookup, ?_⟩))))))))
  exact fin
theorem zkj {W:Option Value->Shared->Prop} {en:DictEntry} (hi:st.heap.IsKeyIter it d k es.size ep) (x:Raw st.heap d es ep) (hk:es[k]?=some en)
  (fin:∀g:Heap,g.IsKeyIter it d (k+1) es.size ep->Heap.SameBut it st.heap g->W (some en.key) {st with heap:=g}):wpAny (model P w) B (pyNext (.ref it)) W E st:=by
 obtain ⟨oi,ei,ci,di⟩:=id hi;obtain ⟨ob,e,c,dt⟩:=id x;have lt:k < es.size:=(xkb.mp hk).1;unfold pyNext;refine xba (xiu (wpAny_callSpecial?_slot (name := Str.ofString "__next__") hi.typeIs xeq (xdw xeq hi.typeIs F.entry_dict_keyiterator_next ?body (F.args_dict_keyiterator_next_1 _))))
 case body =>
  refine xba (xbc (xba (xba (xba (xfq hi.typeIs (xbc (xba (xjr ei di ?_))))))));simp only [show Builtin.Dict_items.ownsTuple "dict_keyiterator" = false from by decide, xdk, ite_false]
  show wpAny _ _ (if (Value.ref d == Value.none)=true then _ else _) _ _ st;have nn:¬ (Value.ref d == Value.none)=true:=xfd;rw[if_neg nn];refine xba (xbc (xba (xkl e dt ?_)));rw[if_neg (by simp)];refine xba (xbc (xba (wpAny_dictEpoch e dt ?_)));rw[if_neg (by simp)];refine xbc ?_;simp only[show ¬ ((k:Int) < 0) from by lia,ite_false,Int.toNat_natCast,hk];refine xba (xba (xfq hi.typeIs (xbc (xba (wpAny_isOneOf_keyiter hi.typeIs ?_)))));show wpAny _ _ (setField (.ref it) 1 (rawInt ((k:Int)+1)) >>= _) _ _ st;refine xba (xid ei di (by simp) ?_);have hi':(st.heap.update it (Obj.mapFields (·.setIfInBounds 1 (rawInt ((k:Int)+1))))).IsKeyIter it d (k+1) es.size ep :=
   ⟨_,xdy _ ei (xhh (xgv di _)),(xke ..).trans ci,by rw[xgv di];simp[rawInt]⟩
  refine xba (xds (xba (wpAny_isOneOf_keyiter (s:={st with heap:=st.heap.update it (Obj.mapFields (·.setIfInBounds 1 (rawInt ((k:Int)+1))))}) hi'.typeIs ?_)));show wpAny _ _ (pure en.key) _ _ _;exact xbc (xbc ⟨_,rfl,xbc (fin _ hi' (xey ..))⟩)
theorem zoz {W:Option Value->Shared->Prop} (hh:B.handled=none) (hi:st.heap.IsKeyIter it d k es.size ep) (x:Raw st.heap d es ep) (hk:es.size<=k)
  (fin:∀g:Heap,Heap.ExtBut it st.heap g->W none {st with heap:=g}):wpAny (model P w) B (pyNext (.ref it)) W E st:=by
 obtain ⟨oi,ei,ci,di⟩:=id hi;obtain ⟨ob,e,c,dt⟩:=id x;unfold pyNext;refine xba (xiu (wpAny_callSpecial?_slot (name := Str.ofString "__next__") hi.typeIs xeq (xdw xeq hi.typeIs F.entry_dict_keyiterator_next ?body (F.args_dict_keyiterator_next_1 _))))
 case body =>
  refine xba (xbc (xba (xba (xba (xfq hi.typeIs (xbc (xba (xjr ei di ?_))))))));simp only [show Builtin.Dict_items.ownsTuple "dict_keyiterator" = false from by decide, xdk, ite_false]
  show wpAny _ _ (if (Value.ref d == Value.none)=true then _ else _) _ _ st;have nn:¬ (Value.ref d == Value.none)=true:=xfd;rw[if_neg nn];refine xba (xbc (xba (xkl e dt ?_)));rw[if_neg (by simp)];refine xba (xbc (xba (wpAny_dictEpoch e dt ?_)));rw[if_neg (by simp)];refine xbc ?_;simp only[show ¬ ((k:Int) < 0) from by lia,ite_false,Int.toNat_natCast,xiq hk];refine xba (xba (xfq hi.typeIs (xbc ?_)));show wpAny _ _ (setField (.ref it) 0 .none >>= _) _ _ st;refine xba (xid ei di (by simp) ?_);show wpAny _ _ (newExc (.type "StopIteration") [] >>= _) _ _ _
  refine xba ?_;simp only[newExc,newTuple];refine xba (xdf (xba (m:=firstArgMember _ _) (wpAny_of_eq (a:=Value.none) (by first | rfl | (simp only[firstArgMember];rfl)) (xdf ?_ (by size_fits)))) (by size_fits));simp only[raiseNew];refine xba (wpAny_handled ?_);rw[show B.in1.handled=none from hh];refine xba (xbc (wpAny_throw ?_));refine xba (wpAny_isInstance (T := "StopIteration") (b := true) ?_ isSubtype_stop (xbc (fin _ (((xey ..).extBut.push _).push _))))
  exact ⟨_,xbt _ rfl,rfl⟩
theorem znb (hh:B.handled=none) (ne:d≠it) (es:Array DictEntry) (ep:Nat) :
  Walks P w B it [it,d] [it] es.size (fun i v=>∃en,es[i]?=some en/\v=en.key) (fun i h=>h.IsKeyIter it d i es.size ep/\Raw h d es ep) where
 sub:=fun b hb=>xbo.mpr (.inl (xcf.mp hb))
 frame:=fun _ _ _ z hk=>⟨z.1.at fun o e=>hk it xbz o e,z.2.kept fun o e=>hk d (xbu _ (xcf.mpr rfl)) o e⟩
 item:=fun i sh W' E' hi z hQ=>by
  have hx:es[i]?=some es[i]:=xcn hi;exact zkj z.1 z.2 hx fun g a b=>hQ es[i].key g sh.toks ⟨_,hx,rfl⟩ ⟨a,z.2.kept fun o e=>b.extBut d o ne e⟩ fun c o hc e=>b.extBut c o (fun q=>hc (xcf.mpr q)) e
 done:=fun sh W' E' z hQ=>zoz hh z.1 z.2 (xbe _) fun g b=>hQ g sh.toks fun c o hc e=>b c o (fun q=>hc (xcf.mpr q)) e
 self:=fun _ _ _ _ z hQ=>wpAny_pyIter_keyiter z.1 hQ
theorem zua (ns : (d == sysModules) = false) (es : Array DictEntry) (ep : Nat) : KdlSrc P w "dict" d d es.size (fun i v => ∃ en, es[i]? = some en /\ v = en.key) (fun h => Raw h d es ep) where
 type:=fun _ x=>x.is
 there:=fun _ x=>⟨x.lt,x.lt⟩
 keep:=fun _ _ x hk=>x.kept fun o e=>hk d (.inl rfl) o e
 notList:=by decide
 notTuple:=by decide
 hint:=fun _ _ _ _ x hq=>kdl_hint_dict x.is hq
 iter:=fun _ sh hh x=>⟨_,_,fun _ _ hq=>zkk ns x hq,znb hh (xbv x.lt) es ep,⟨⟨_,xbt _ rfl,rfl,rfl⟩,x.kept fun o e=>xbh _ e⟩⟩
end
end Dct
namespace Srt
open PySem PySem.W PyProof.Rows
section
variable {P:Program} {w:World} {B:Around} {E:Value->Shared->Prop} {st:Shared}
end
end Srt
namespace L2
open PySem PySem.Spec PyProof.Rows
theorem ObjOk.ob {P:Program} {w:World} {H:Hp} {h:Heap} {a:Addr} {o:HO} (x:ObjOk P w H h a o):∃ob,h.get? a=some ob:=by
 cases o with
 | lst xs=>obtain ⟨_,_,_,_,e⟩:=x;exact ⟨_,e⟩
 | tup xs=>obtain ⟨_,_,_,ob,e,_⟩:=x;exact ⟨_,e⟩
 | dK kvs=>obtain ⟨_,_,_,_,ob,_,_,e,_⟩:=x;exact ⟨_,e⟩
 | dT kvs=>obtain ⟨_,_,_,_,ob,_,_,e,_⟩:=x;exact ⟨_,e⟩
 | set S n=>obtain ⟨ob,_,_,_,e,_⟩:=x;exact ⟨_,e⟩
 | ins C dx fs=>obtain ⟨_,_,_,e,_⟩:=x;exact ⟨_,e⟩
 | own y=>obtain ⟨_,e⟩:=x;exact ⟨_,e⟩
 | xd fs=>obtain ⟨_,⟨_,_,_,e,_⟩,_⟩:=x;exact ⟨_,e⟩
 | rng lo hi=>obtain ⟨_,_,_,e⟩:=x;exact ⟨_,e⟩
 | frz ob u=>obtain ⟨e,_⟩:=x;exact ⟨_,e⟩
 | tbl ps=>exact ⟨_,(show h.get? a=some _ from x)⟩
 | met f y=>exact ⟨_,(show h.get? a=some _ from x)⟩
 | ext φ=>obtain ⟨_,⟨_,e⟩,_⟩:=x;exact ⟨_,e⟩
section
variable {X:Cx} {pins:List (Addr × Obj)} {σ:St} {H:Hp} {s:Shared}
theorem Inv.away (I:Inv X pins σ H s) {q:Addr} (ne:∀b ob,s.heap.get? b=some ob->b≠q):H q=none:=by
 cases e:H q with
 | none=>rfl
 | some o =>
  obtain ⟨ob,z⟩:=(I.hok q o e).ob;exact absurd rfl (ne q ob z)
theorem Inv.laidN {q:Addr} {o:HO} {g:Heap} {t':Nat} (I:Inv X pins σ H s) (k:∀b u,s.heap.get? b=some u->g.get? b=some u) (ne:∀b ob,s.heap.get? b=some ob->b≠q) (new:ObjOk X.prog X.w (upd H q o) g q o) :
  Inv X pins σ (upd H q o) {s with heap:=g,toks:=t'}:=by
 have hn:=I.away ne;have off:∀{b:Addr} {u:HO},H b=some u->upd H q o b=some u:=fun {b u} e=>by rw[zp (zh e hn)];exact e
 refine I.un ⟨fun b u e _ _ _=>k b u e,fun b u e _ _ _=>⟨u.slots,k b u e⟩,fun b u e n _=>by rw[zp (ne b u e)];exact n,fun b u e _=>⟨u,k b u e⟩,fun b xs e=>off e,fun b ob u e=>off e,fun b ps e=>⟨#[],by rw[off e];simp⟩⟩ fun b u e=>?_
 by_cases hb:b=q
 ·subst hb;rw[zo] at e;cases e;exact new
 ·rw[zp hb] at e;exact (I.hok b u e).stay (fun c v _ z=>k c v z) (fun c z=>off z) fun c xs z=>off z
end
theorem zpj (ns:List Int):(ns.map (Sum.inl:Int->Key)).map kV=ns.map V.int:=by rw[xdc];rfl
theorem zgs {P:Program} {w:World} {H:Hp} {kvs:List (List Key × V)}:∀{ks:List (List Int)} {xs:List (List Key × Addr × Value)},
  Paired (fun (p:List Key × V) (q:List Key × Addr × Value)=>p.1=q.1/\H q.2.1=some (.tup (p.1.map kV))/\RelV p.2 q.2.2) kvs xs->kvs.map (·.1)=ks.map (fun ns=>ns.map Sum.inl) ->
   ∃ps:List (Addr × List Int),ps.map (·.2)=ks/\(∀p∈ps,H p.1=some (.tup (p.2.map V.int)))/\xs.map (fun q=>(entryOfKey (tupleKind (mixKind P w)) q).key)=ps.map fun p=>Value.ref p.1:=by
 induction kvs with
 | nil =>
  intro ks xs r e;cases r;cases ks with
  | nil=>exact ⟨[],rfl,fun p hp=>(nomatch hp),rfl⟩
  | cons x ks=>cases e
 | cons kv kvs ih =>
  intro ks xs r e;cases r with
  | cons r rs =>
   cases ks with
   | nil=>cases e
   | cons ns ks =>
    rw[xbw,xbw] at e;injection e with e1 e2
    obtain ⟨ps,a1,a2,a3⟩:=ih rs e2;rename_i b _;obtain ⟨r1,r2,r3⟩:=r;refine ⟨(b.2.1,ns)::ps,by rw[xbw,a1],fun p hp=>?_,by rw[xbw,xbw,a3];rfl⟩;rcases xbo.mp hp with z | z
    ·subst z;rw[e1,zpj] at r2;exact r2
    ·exact a2 p z
open PySem.W in
theorem zsx {P:Program} {w:World} {B:Around} {sg:Shared} {ps:List (Addr × List Int)} (h2:2<=ps.length)
  (tup : ∀ (i : Nat) (p : Addr × List Int), ps[i]? = some p -> ∃ (us : List Value) (o : Obj) (n : Nat), IntsAre us p.2 /\ sg.heap.get? p.1 = some o /\ o.cls = .type "tuple" /\ o.data = .seq us.toArray n /\ p.2 ≠ []) :
  Srt.Answers P w B (Srt.rank (ps.map (·.2))) (ps.map fun p=>Value.ref p.1) sg:=by
 refine ⟨tuples' true,fun R hq=>?_,fun i j C hi hj hC=>?_⟩
 ·have kt:∀(l:List (Addr × List Int)),(∀p∈l,∃i:Nat,ps[i]?=some p)->∃fs:List Value,KatTups sg.heap (l.map fun p=>Value.ref p.1) fs/\fs.length=l.length/\∀v∈fs,∃i t,v=Value.int i t:=fun l=>by
   induction l with
   | nil=>intro _;exact ⟨[],KatTups.nil,rfl,fun v hv=>(nomatch hv)⟩
   | cons p l ih =>
    intro hp;obtain ⟨fs,b1,b2,b3⟩:=ih fun p' hp'=>hp p' (xbu _ hp')
    obtain ⟨i,hi⟩:=hp p xbz;obtain ⟨us,o,n,a1,a2,a3,a4,a5⟩:=tup i p hi;obtain ⟨pa,pn⟩:=p;dsimp only at a1 a2 a3 a4 a5;cases a1 with
    | nil=>exact absurd rfl a5
    | cons x t r=>exact ⟨Value.int x t::fs,KatTups.cons a2 a3 a4 rfl b1,by rw[xcb,xcb,b2],fun v hv=>(xbo.mp hv).elim (fun z=>⟨x,t,z⟩) (b3 v)⟩
  obtain ⟨fs,b1,b2,b3⟩:=kt ps fun p hp=>List.mem_iff_getElem?.mp hp
  exact kat_kind (T := .type "int") b1 (by lia) (fun v hv => by
   obtain ⟨i,t,rfl⟩:=b3 v hv
   exact Looks.of_pure rfl) rfl hq
 ·rw[xbd] at hi hj;have ei:ps[i]?=some ps[i]:=xbg hi;have ej:ps[j]?=some ps[j]:=xbg hj;obtain ⟨us,o,n,a1,a2,a3,a4,a5⟩:=tup i _ ei;obtain ⟨us2,o2,n2,c1,c2,c3,c4,c5⟩:=tup j _ ej;unfold kas_ask;rw[zg (fun p:Addr × List Int=>Value.ref p.1) _ ei,zg (fun p:Addr × List Int=>Value.ref p.1) _ ej];refine kat_lt a2 a4 c2 c4 (Srt.zlg 0 a1 c1 ?_);rw[Srt.zgf (by rw[xbd];exact hi) (by rw[xbd];exact hj),zg (fun p:Addr × List Int=>p.2) _ ei,zg (fun p:Addr × List Int=>p.2) _ ej] at hC;exact hC
theorem zkq {ps:List (Addr × List Int)} {p:Array Nat} (p1:p.Perm (List.toArray (List.range ps.length))) (p2:Srt.Up (Srt.rank (ps.map (·.2))) p ps.length) :
  ∃qs:List (Addr × List Int),qs.Perm ps/\(qs.map (·.2)).Pairwise (fun x y=>HT.lexLt y x=false)/\Srt.outOf (ps.map fun p=>Value.ref p.1) p=(qs.map fun p=>Value.ref p.1).toArray:=by
 have hps:p.size=ps.length:=by rw[p1.size_eq];simp
 have sm:∀i∈p.toList,i < ps.length:=fun i hi=>by
  have h3:=(p1.mem_iff (a:=i)).mp (by rw[← xjf];exact hi);exact xco.mp (List.mem_toArray.mp h3)
 refine ⟨p.toList.map fun i=>ps.getD i (0,[]),?_,?_,?_⟩
 ·have e1:p.toList.Perm (List.range ps.length):=by
   have:=xeg.mp p1
   simpa using this
  have e2:=e1.map fun i=>ps.getD i (0,[])
  have e3:((List.range ps.length).map fun i=>ps.getD i (0,[]))=ps:=by
   apply xiw
   ·simp
   ·intro i h1 h2;simp[xbk,h2]
  rw[e3] at e2;exact e2
 ·rw[xdc,xek];intro i j hi hj hij;rw[xix,xix];rw[xbd] at hi hj;have hi':i < p.size:=by simpa using hi
  have hj':j < p.size:=by simpa using hj
  have hu:=p2 i j (xbp hij) (by lia);have g:∀k,(hk:k < p.toList.length)->p.getD k 0=p.toList[k]:=fun k hk=>by
   have hk':k < p.size:=by simpa using hk
   rw[xcj,xcn hk'];simp
  have si:=sm _ (xdm hi);have sj:=sm _ (xdm hj);have lk:=Srt.zgf (ks:=ps.map (·.2)) (i:=p.toList[j]) (j:=p.toList[i]) (by rw[xbd];exact sj) (by rw[xbd];exact si);have hno:Srt.lt (Srt.rank (ps.map (·.2))) p.toList[j] p.toList[i]=false:=by
   refine xct fun z=>?_
   unfold Srt.At at hu;rw[g i hi,g j hj] at hu;lia
  rw[hno] at lk;have v:∀k,k < ps.length->(ps.map (·.2)).getD k []=(ps.getD k (0,[])).2:=fun k hk=>by
   have ek:ps[k]?=some ps[k]:=xbg hk;rw[zg (fun p:Addr × List Int=>p.2) _ ek,xbk,ek]
   rfl
  rw[v _ sj,v _ si] at lk;exact lk.symm
 ·unfold Srt.outOf;rw[xdc]
  congr 1
  refine xhu fun i hi=>?_
  have hi2:=sm i hi;have ei:ps[i]?=some ps[i]:=xbg hi2;rw[zg (fun p:Addr × List Int=>Value.ref p.1) _ ei];show _=Value.ref (ps.getD i (0,[])).1;rw[xbk,ei]
  rfl
section
variable {X:Cx}
end
section
variable {X:Cx} {pins:List (Addr × Obj)} {σ:St} {H:Hp} {s:Shared}
theorem Inv.freeze {a:Addr} {kvs:List (List Key × V)} {ob:Obj} (I:Inv X pins σ H s) (h:H a=some (.dT kvs)) (e:s.heap.get? a=some ob):Inv X pins σ (upd H a (.frz ob (.dT kvs))) s:=by
 have off:∀{b:Addr} {u:HO},H b=some u->(∀l,u≠.dT l)->upd H a (.frz ob (.dT kvs)) b=some u:=fun {b u} q n=>by
  rw[zp (by rintro rfl;rw[h] at q;cases q;exact n _ rfl)];exact q
 have z:=I.un (h':=s.heap) (t':=s.toks) (H':=upd H a (.frz ob (.dT kvs))) ⟨fun b u q _ _ _=>q,fun b u q _ _ _=>⟨u.slots,q⟩,fun b u q n _=>by
   rw[zp (by rintro rfl;rw[h] at n;cases n)];exact n,fun b u q _=>⟨u,q⟩,fun b xs q=>off q (fun l z=>by cases z),fun b o u q=>off q (fun l z=>by cases z),fun b ps q=>⟨#[],by rw[off q (fun l z=>by cases z)];simp⟩⟩ (fun b u q=>by
   by_cases hb:b=a
   ·subst hb;rw[zo] at q;cases q;exact ⟨e,(I.hok b _ h).stay (fun c v _ r=>r) (fun c r=>off r (fun l z=>by cases z)) fun c xs r=>off r (fun l z=>by cases z)⟩
   ·rw[zp hb] at q
    exact (I.hok b u q).stay (fun c v _ r=>r) (fun c r=>off r (fun l z=>by cases z)) fun c xs r=>off r (fun l z=>by cases z))
 exact z
end
def Itd (a:Addr) (ob:Obj) (kvs:List (List Key × V)) (ps:List (Addr × List Int)):It :=
 ⟨fun i H=>i < ps.length/\H a=some (.frz ob (.dT kvs)),fun i H x H'=>H'=H/\∃p,ps[i]?=some p/\x=.ref p.1,fun i H=>ps.length<=i/\H a=some (.frz ob (.dT kvs))⟩
theorem zmx {P:Program} {w:World} {K:Fg} {tg:Expr} {a it:Addr} {ob:Obj} {kvs:List (List Key × V)} {ps:List (Addr × List Int)} {es:Array DictEntry} {ep:Nat} (ex:ob.ExactDict) (dt:ob.data=.dict es ep)
  (hk:es.toList.map (·.key)=ps.map fun p=>Value.ref p.1):Turn P w K tg (Itd a ob kvs ps) [it] it (fun i h=>h.IsKeyIter it a i es.size ep) where
 mem:=xcf.mpr rfl
 obj:=fun i h st b hb=>by
  have e:b=it:=xcf.mp hb;subst e;obtain ⟨o,e,c,d⟩:=st;exact ⟨o,e,fun v z=>by rw[d] at z;cases z⟩
 keep:=fun i h h' st k=>st.at fun o e=>k it (xcf.mpr rfl) o e
 item:=by
  intro Y hP hw hK hc i pins s σ H E I hf st hg;subst hP hw hK;obtain ⟨hi,hz⟩:=hg;have hsz:es.size=ps.length:=by
   have:=congrArg List.length hk
   rwa [xbd,xbd,xbq] at this
  obtain ⟨eo,_⟩:=(show ObjOk Y.prog Y.w H s.heap a (.frz ob (.dT kvs)) from I.hok a _ hz)
  obtain ⟨f0,f1,f2,f3,f4,f5⟩:=hf it (xcf.mpr rfl);have hen:es[i]?=some es[i]:=xcn (by lia);have hpi:ps[i]?=some ps[i]:=xbg hi;have hkey:es[i].key=Value.ref ps[i].1:=by
   have q:=congrArg (fun l=>l[i]?) hk;simp only[xcl,xbs,hen,hpi] at q;exact xck q
  refine Dct.zkj st ⟨ob,eo,ex,dt⟩ hen fun g st' sb=>?_
  have I1:Inv Y pins σ H {s with heap:=g}:=I.turned (t':=s.toks) (fun b o hb e=>sb.extBut b o hb e) f0 f1 f3 f4 f5;obtain ⟨o,e,c,d⟩:=id st';exact ⟨_,rfl,zyj (s:={s with heap:=g}) e c d (by decide) ⟨.ref ps[i].1,H,I1,hkey,⟨rfl,ps[i],hpi,rfl⟩,st',fun b hb=>(hf b hb).1⟩⟩
 done:=by
  intro Y hP hw hK hc i pins s σ H E I hf st hg;subst hP hw hK;obtain ⟨hi,hz⟩:=hg;have hsz:es.size=ps.length:=by
   have:=congrArg List.length hk
   rwa [xbd,xbd,xbq] at this
  obtain ⟨eo,_⟩:=(show ObjOk Y.prog Y.w H s.heap a (.frz ob (.dT kvs)) from I.hok a _ hz)
  obtain ⟨f0,f1,f2,f3,f4,f5⟩:=hf it (xcf.mpr rfl);exact Dct.zoz (I.ok.hd hc) st ⟨ob,eo,ex,dt⟩ (by lia) fun g eb=>⟨rfl,I.turned (t':=s.toks) (fun b o hb e=>eb b o hb e) f0 f1 f3 f4 f5⟩
 self:=fun _ _ _ _ _ st h=>wpAny_pyIter_keyiter st h
def iDct (td:TE):TI:=fun σ H R=>td σ H fun x H1=>∃(a:Addr) (kvs:List (List Key × V)) (ks:List (List Int)),x=.ref a/\H1 a=some (.dT kvs)/\kvs.map (·.1)=ks.map (fun ns=>ns.map Sum.inl) /\
 ∀(ob:Obj) (ps:List (Addr × List Int)),ps.map (·.2)=ks->(∀p∈ps,H1 p.1=some (.tup (p.2.map V.int)))->R (Itd a ob kvs ps) (upd H1 a (.frz ob (.dT kvs)))
theorem zun {X:Cx} {tg l:Expr} {td:TE} (hl:PE X l td):PI X tg l (iDct td):=by
 intro pins s σ H R I h;refine thn (hl pins s σ H _ I h) fun v s1 hq0=>?_
 obtain ⟨x,H1,I1,r1,q1⟩:=hq0;obtain ⟨a,kvs,ks,rfl,hd,ek,q⟩:=q1;cases r1;obtain ⟨z,ns,ys,rel,ob,es,ep,e1,e2,e3,e4,e5⟩:=(show ObjOk X.prog X.w H1 s1.heap a (.dT kvs) from I1.hok a _ hd)
 obtain ⟨ps,a1,a2,a3⟩:=zgs (P:=X.prog) (w:=X.w) rel ek;have hes:es.toList.map (·.key)=ps.map fun p=>Value.ref p.1:=by rw[e4,xdc];exact a3
 refine Dct.zkk ns ⟨ob,e1,e2,e3⟩ ?_;have I2:=I1.freeze hd e1;refine ⟨s1.heap.objs.size,[s1.heap.objs.size],_,_,_,rfl,I2.kept (t':=s1.toks) fun b o e=>xbh _ e,zmx e2 e3 hes,⟨_,xbt _ rfl,rfl,rfl⟩,fun b hb=>?_,q ob ps a1 a2⟩;have e:b=s1.heap.objs.size:=xcf.mp hb;subst e;exact I2.fpOk (xbe _) (I2.hok.fresh (xbe _))
section
variable {g:TG} {tc:TT} {te:TE} {Q:VK} {σ:St} {H:Hp} {p:Addr}
end
end L2
namespace L2
open PySem PySem.Spec PyProof.Rows PySem.W
def TupsG (g : Heap) (ps : List (Addr × List Int)) : Prop := ∀ p ∈ ps, ∃ (us : List Value) (o : Obj) (n : Nat), IntsAre us p.2 /\ g.get? p.1 = some o /\ o.cls = .type "tuple" /\ o.data = .seq us.toArray n
section
variable {P:Program} {w:World} {B:Around} {E:Value->Shared->Prop} {sg:Shared}
theorem zim:∀{ps:List (Addr × List Int)},TupsG sg.heap ps->∃fs:List (Option Value),fs.map Option.isSome=ps.map (fun p=>!p.2.isEmpty)/\∀(W:List (Option Value)->Shared->Prop),W fs sg->wpAny (model P w) B ((ps.map fun p=>Value.ref p.1).mapM firstOfTuple') W E sg
 | [],_=>⟨[],rfl,fun W h=>by rw[xko,List.mapM_nil];exact xbc h⟩
 | p::ps,h=>by
  obtain ⟨fs,f1,f2⟩:=zim (ps:=ps) fun q hq=>h q (xbu _ hq)
  obtain ⟨us,o,n,a1,a2,a3,a4⟩:=h p xbz;refine ⟨us.toArray[0]?::fs,?_,fun W hW=>?_⟩
  ·rw[xbw,xbw,f1]
   congr 1
   obtain ⟨pa,pn⟩:=p;dsimp only at a1 ⊢;cases a1 with
   | nil=>rfl
   | cons x t r=>rfl
  ·rw[xbw,List.mapM_cons];have ty:Looks (model P w) sg.heap (typeOf (.ref p.1)) o.cls:=(Looks.ld a2).andThen .now;refine xba ?_;rw[kas_first_eq];refine xba (Looks.here ty ?_);rw[a3,if_neg (by first | decide | simp)];exact xba (listItems_at a2 a4 (xbc (xba (f2 _ (xbc hW)))))
theorem zld (x y:Value):keyLt' general' x y=oneLt' false x y:=rfl
theorem zsw {κ:SortKind} (hκ:κ=general'\/κ=oneType') (hu:B.units < cLine) {a b:Addr × List Int} (ha:TupsG sg.heap [a]) (hb:TupsG sg.heap [b]) {C:Bool->Shared->Prop} (hC:C (HT.lexLt a.2 b.2) sg) :
  wpAny (model P w) B (keyLt' κ (.ref a.1) (.ref b.1)) C E sg:=by
 obtain ⟨us,o,n,a1,a2,a3,a4⟩:=ha a xbz;obtain ⟨us2,o2,n2,b1,b2,b3,b4⟩:=hb b xbz;rcases hκ with rfl | rfl
 ·rw[zld];exact kat_one _ _ (HT.zgi (items:=us.toArray) (items2:=us2.toArray) ⟨o,a2,a3,n,a4⟩ ⟨o2,b2,b3,n2,b4⟩ a1 b1 hu hC)
 ·rw[keyLt'_oneType,oneLt'_eq];simp only[ite_true];refine xba (wpAny_cRoomFor hu (xba (wpAny_callSpecialIfBound?_slot (T := "tuple") ⟨o, a2, a3⟩ xjb ?_)))
  obtain ⟨cls,dd,data,sl⟩:=o;obtain ⟨cls2,dd2,data2,sl2⟩:=o2;dsimp only at a3 a4 b3 b4;subst a3 a4 b3 b4;exact call_meets xjb ⟨_,a2,rfl⟩ PySem.F.entry_tuple_lt (PySem.F.args_tuple_lt_2 _ _) (HT.zdb a.1 b.1 us.toArray us2.toArray n n2 dd dd2 sl sl2 a.2 b.2 a1 b1) ⟨a2,b2,xim hC⟩
theorem zsy {ps:List (Addr × List Int)} (hu:B.units < cLine) (tup:TupsG sg.heap ps) (emp:∃p∈ps,p.2=[]):Srt.Answers P w B (Srt.rank (ps.map (·.2))) (ps.map fun p=>Value.ref p.1) sg:=by
 obtain ⟨fs,f1,f2⟩:=zim (P:=P) (w:=w) (B:=B) (E:=fun _ _=>False) tup;have notAll:¬ (fs.toArray.all fun x=>x.isSome)=true:=fun z=>by
  have z':fs.all (fun x=>x.isSome)=true:=by simpa using z
  obtain ⟨p,hp,he⟩:=emp;have m:(!p.2.isEmpty)∈fs.map Option.isSome:=by rw[f1];exact List.mem_map_of_mem (f:=fun p:Addr × List Int=>!p.2.isEmpty) hp
  obtain ⟨o,ho,e⟩:=xcp.mp m;have:=xef.mp z' o ho;rw[e,he] at this;cases this
 have cmp:∀{κ:SortKind},κ=general'\/κ=oneType'->∀i j C,i < (ps.map fun p=>Value.ref p.1).length->j < (ps.map fun p=>Value.ref p.1).length->C (Srt.lt (Srt.rank (ps.map (·.2))) i j) sg->kas_ask P w B κ (ps.map fun p=>Value.ref p.1) i j C sg:=fun {κ} hκ i j C hi hj hC=>by
  rw[xbd] at hi hj;have ei:ps[i]?=some ps[i]:=xbg hi;have ej:ps[j]?=some ps[j]:=xbg hj;unfold kas_ask;rw[zg (fun p:Addr × List Int=>Value.ref p.1) _ ei,zg (fun p:Addr × List Int=>Value.ref p.1) _ ej];rw[Srt.zgf (by rw[xbd];exact hi) (by rw[xbd];exact hj),zg (fun p:Addr × List Int=>p.2) _ ei,zg (fun p:Addr × List Int=>p.2) _ ej] at hC;have one:∀k,(hk:k < ps.length)->TupsG sg.heap [ps[k]]:=fun k hk q hq=>by
   rw[xcf.mp hq];exact tup _ (xdm hk)
  exact zsw hκ hu (one i hi) (one j hj) hC
 by_cases fst:(fs.toArray[0]?.bind id).isSome=true
 ·refine ⟨general',fun R hR=>?_,cmp (.inl rfl)⟩;rw[kat_kind_eq,xkf,xkt];refine xba (xba (f2 _ (xbc ?_)));rw[if_neg notAll,if_pos fst];exact xbc hR
 ·refine ⟨oneType',fun R hR=>?_,cmp (.inr rfl)⟩;rw[kat_kind_eq,xkf,xkt];refine xba (xba (f2 _ (xbc ?_)));rw[if_neg notAll,if_neg fst,oneTypeOnly'_eq,xkf,xkt];have ty : ∀ v ∈ (ps.map fun p => Value.ref p.1), ∀ W : Value -> Shared -> Prop, W (.type "tuple") sg -> wpAny (model P w) B (typeOf v) W (fun _ _ => False) sg := fun v hv W hW => by
   obtain ⟨p,hp,rfl⟩:=xcp.mp hv;obtain ⟨us,o,n,a1,a2,a3,a4⟩:=tup p hp;have lk:Looks (model P w) sg.heap (typeOf (.ref p.1)) o.cls:=(Looks.ld a2).andThen .now;rw[a3] at lk;exact lk.here hW
  refine xba (xba (xba (kas_mapM (r := Value.type "tuple") _ ty (xbc ?_))))
  obtain ⟨p,hp,_⟩:=emp;obtain ⟨p0,rest,rfl⟩:∃p0 rest,ps=p0::rest:=by
   cases ps with
   | nil=>exact nomatch hp
   | cons p0 rest=>exact ⟨p0,rest,rfl⟩
  have all : ((List.map (fun _ => Value.type "tuple") ((p0 :: rest).map fun p => Value.ref p.1)).toArray.all fun x => x == Value.type "tuple") = true := by
   rw[List.all_toArray,xef];intro x hx;obtain ⟨_,_,rfl⟩:=xcp.mp hx
   rfl
  have zero : (List.map (fun _ => Value.type "tuple") ((p0 :: rest).map fun p => Value.ref p.1)).toArray[0]? = some (Value.type "tuple") := by simp
  rw[zero];simp only[all,ite_true];exact xbc (xbc hR)
theorem zqa {ps:List (Addr × List Int)} (hu:B.units < cLine) (h2:2<=ps.length) (tup:TupsG sg.heap ps):Srt.Answers P w B (Srt.rank (ps.map (·.2))) (ps.map fun p=>Value.ref p.1) sg:=by
 by_cases c:∃p∈ps,p.2=[]
 ·exact zsy hu tup c
 ·refine zsx h2 fun i p hi=>?_
  have hp:=xcz hi;obtain ⟨us,o,n,a1,a2,a3,a4⟩:=tup p hp;exact ⟨us,o,n,a1,a2,a3,a4,fun z=>c ⟨p,hp,z⟩⟩
end
theorem zdn (z:List (Addr × List Int)):Vals (z.map fun p=>V.ref p.1) (z.map fun p=>Value.ref p.1):=by
 induction z with
 | nil=>exact .nil
 | cons x z ih=>exact .cons rfl ih
section
variable {X:Cx}
end
end L2
namespace TS
open PySem PyProof.Rows
def kA (R:Keyed->Nat) (xs:Array Keyed) (i:Nat):Nat:=match xs[i]? with
 | some p=>R p
 | none=>0
theorem zbw {R:Keyed->Nat} {xs ys:Array Keyed} {i j:Nat} (h:xs[i]?=ys[j]?):kA R xs i=kA R ys j:=by unfold kA;rw[h]
theorem zca {R:Keyed->Nat} {xs:Array Keyed} {i:Nat} {x:Keyed} (h:xs[i]?=some x):kA R xs i=R x:=by unfold kA;rw[h]
def UpA (R:Keyed->Nat) (xs:Array Keyed) (a b:Nat):Prop:=∀i j,a<=i->i<=j->j < b->kA R xs i<=kA R xs j
def DnA (R:Keyed->Nat) (xs:Array Keyed) (a b:Nat):Prop:=∀i j,a<=i->i<=j->j < b->kA R xs j<=kA R xs i
section
variable {prog:Program} {w:World} {A:Around} {E:Value->Shared->Prop} {s:Shared} {κ:SortKind} {a₀:Array Keyed} {R:Keyed->Nat}
def Orc (prog:Program) (w:World) (A:Around) (s:Shared) (κ:SortKind) (a₀:Array Keyed) (R:Keyed->Nat):Prop :=
 ∀x,x∈a₀.toList->∀y,y∈a₀.toList->∀(C:Bool->Shared->Prop),C (decide (R x < R y)) s->wpAny (model prog w) A (keyLt' κ x.1 y.1) C (fun _ _=>False) s
structure B (κ:SortKind) (a₀:Array Keyed) (st:SortSt):Prop where
 perm:(arrOf st).Perm a₀
 kind:kindOf st=κ
 failed:failedOf st=none
theorem B.size {st:SortSt} (h:B κ a₀ st):(arrOf st).size=a₀.size:=h.perm.size_eq
theorem B.set {st:SortSt} (h:B κ a₀ st) {xs:Array Keyed} (hp:xs.Perm (arrOf st)):B κ a₀ (setArr st xs):=⟨hp.trans h.perm,h.kind,h.failed⟩
theorem B.mem {st:SortSt} (h:B κ a₀ st) {i:Nat} (hi:i < a₀.size):∃x,(arrOf st)[i]?=some x/\x∈a₀.toList:=by
 have hi':i < (arrOf st).size:=by rw[h.size];exact hi
 exact ⟨_,getElem?_pos _ i hi',(xeg.mp h.perm).mem_iff.mp (by simp)⟩
theorem w_lt {x y:Keyed} {st:SortSt} {Q:Option Bool->SortSt->Prop} (O:Orc prog w A s κ a₀ R) (hk:kindOf st=κ) (hx:x∈a₀.toList) (hy:y∈a₀.toList) (h:Q (some (decide (R x < R y))) st):wpS (model prog w) A E s (lt' x y) Q st:=by
 rw[lt'_eq];refine xbi (xgt ?_);rw[hk];refine xbi (xja (xiu (xdq (O x hx y hy (fun b s'=>s'=s/\b=decide (R x < R y)) ⟨rfl,rfl⟩) (fun b s' hb=>?_) fun _ _ f=>f.elim)));obtain ⟨rfl,rfl⟩:=hb;exact ⟨rfl,xbj h⟩
theorem zfw {arr:Array Keyed} {i:Nat} {x:Keyed} {st:SortSt} {Q:Keyed->SortSt->Prop} (e:arr[i]?=some x) (h:Q x st):wpS (model prog w) A E s (elem' arr i) Q st:=by
 rw[elem'_eq,e];exact xbj h
theorem zhb {i j:Nat} {st:SortSt} {Q:Option Bool->SortSt->Prop} (O:Orc prog w A s κ a₀ R) (b:B κ a₀ st) (hi:i < a₀.size) (hj:j < a₀.size) (h:Q (some (decide (kA R (arrOf st) i < kA R (arrOf st) j))) st):wpS (model prog w) A E s (ltAt' i j) Q st:=by
 obtain ⟨x,e1,m1⟩:=b.mem hi;obtain ⟨y,e2,m2⟩:=b.mem hj;rw[zca e1,zca e2] at h;rw[ltAt'_eq];exact xbi (xgt (xbi (zfw e1 (xbi (zfw e2 (w_lt O b.kind m1 m2 h))))))
theorem zmr {i j:Nat} {st:SortSt} {Q:Unit->SortSt->Prop} (h:Q () (setArr st (mirror (arrOf st) i j ((j - i) / 2)))):wpS (model prog w) A E s (reverseSlice' i j) Q st:=by
 rw[reverseSlice'_eq];exact xfx h
theorem zym {i j:Nat} {st:SortSt} {Q:Unit->SortSt->Prop} (h:Q () (setArr st (bubble (arrOf st) i (i - j)))):wpS (model prog w) A E s (moveDown' i j) Q st:=by
 rw[moveDown'_eq];exact xfx h
theorem ztf {lo x n N:Nat} (h:x < n) (hn:lo+n<=N):lo+x < N:=xbf (xdp h lo) hn
theorem zte {lo x n N:Nat} (h:x < n) (hn:lo+n<=N):lo+x - 1 < N:=xcr (xfw _ _) (ztf h hn)
theorem zlj {lo n:Nat} (h:1<=n):lo+n - 1 < lo+n:=xgw (xbf h (xkv _ _)) Nat.one_pos
theorem zyh {j lo n:Nat} (h:j < lo+(n+1)) (e:¬j=lo+n):j < lo+n:=xcs (xcg h) e
theorem zvj {i j k:Nat} (c2:k < j):i<=i+j - 1 - k:=Nat.le_sub_of_add_le (xcv (xdp c2 i))
theorem zvk {i j k:Nat} (c1:i<=k) (c2:k < j):i+j - 1 - k < j:=xcr (xgo c1 _) (by rw[Nat.sub_right_comm,xcq];exact xgw (xii c2) Nat.one_pos)
theorem zfo {xs:Array Keyed} {i j:Nat} (hj:j<=xs.size) (k:Nat):kA R (mirror xs i j ((j - i) / 2)) k=if i<=k/\k < j then kA R xs (i+j - 1 - k) else kA R xs k:=by
 have e:=getElem?_mirror_all (i:=i) hj k;split
 ·rename_i c;rw[if_pos c] at e;exact zbw e
 ·rename_i c;rw[if_neg c] at e;exact zbw e
def Out (xs ys:Array Keyed) (a b:Nat):Prop:=∀k,k < a\/b<=k->xs[k]?=ys[k]?
theorem Out.refl (xs:Array Keyed) (a b:Nat):Out xs xs a b:=fun _ _=>rfl
theorem Out.trans {xs ys zs:Array Keyed} {a b:Nat} (h1:Out xs ys a b) (h2:Out ys zs a b):Out xs zs a b:=fun k hk=>(h1 k hk).trans (h2 k hk)
theorem Out.mirror {xs:Array Keyed} {i j a b:Nat} (hj:j<=xs.size) (hi:a<=i) (hb:j<=b):Out (mirror xs i j ((j - i) / 2)) xs a b:=fun k hk=>by
 rw[getElem?_mirror_all (i:=i) hj k,if_neg fun z=>hk.elim (fun h=>xdv (xbb hi z.1) h) fun h=>xdv (xbb hb h) z.2]
theorem Out.bubble {xs:Array Keyed} {src d a b:Nat} (hs:src < xs.size) (hd:d<=src) (ha:a<=src - d) (hb:src < b):Out (bubble xs src d) xs a b:=fun k hk=>by
 rw[getElem?_bubble hs d hd k,if_neg fun z=>hk.elim (fun h=>xdv (xbb ha (xcu z.symm)) h) fun h=>xdv h (xcr (xbb (xcu z) (xfw _ _)) hb),if_neg fun z=>hk.elim (fun h=>xdv (xbb ha (xbp z.1)) h) fun h=>xdv h (xcr z.2 hb)]
structure Sm (st st':SortSt) (a b:Nat):Prop where
 out:Out (arrOf st') (arrOf st) a b
 pend:pendingOf st'=pendingOf st
theorem ztn {lo a nrem:Nat} {st:SortSt} {Q:Option (Option Nat) × Nat->SortSt->Prop} (O:Orc prog w A s κ a₀ R) (b:B κ a₀ st) (hn:lo+nrem<=a₀.size) (ha:1<=a) (han:a<=nrem) (hs:UpA R (arrOf st) lo (lo+a))
  (h:∀n,a<=n->n<=nrem->UpA R (arrOf st) lo (lo+n)->(n=nrem\/kA R (arrOf st) (lo+n) < kA R (arrOf st) (lo+n - 1))->Q (none,n) st) :
  wpS (model prog w) A E s (forIn [a:nrem] ((none,a):Option (Option Nat) × Nat) fun _ r=>do
   let x ← ltAt' (lo+r.2) (lo+r.2 - 1)
   match x with
   | some smaller=>if smaller=true then pure (ForInStep.done (none,r.2)) else pure (ForInStep.yield (none,r.2+1))
   | _=>pure (ForInStep.done (some none,r.2))) Q st:=by
 refine xdd (I:=fun x c st'=>st'=st/\c=(none,x)/\UpA R (arrOf st) lo (lo+x)) ?_ ?_ ⟨rfl,rfl,hs⟩
 ·rintro x c st' h1 h2 ⟨rfl,rfl,h3⟩;dsimp only;refine xbi (zhb O b (ztf h2 hn) (zte h2 hn) ?_);by_cases c:kA R (arrOf st') (lo+x) < kA R (arrOf st') (lo+x - 1)
  ·simp only[c,xhf,xet];exact xbj (h x h1 (xbp h2) h3 (.inr c))
  ·simp only[c,xhj,xdk,xfl];refine xbj ⟨rfl,rfl,fun i j hi hij hj=>?_⟩;by_cases e:j=lo+x
   ·subst e;by_cases e2:i=lo+x
    ·rw[e2];exact xbe _
    ·exact xbb (h3 i (lo+x - 1) hi (xcv (xcs hij e2)) (zlj (xbb ha h1))) (xby c)
   ·exact h3 i j hi hij (zyh hj e)
 ·rintro c st' ⟨rfl,rfl,h3⟩;rw[xkp han] at h3 ⊢;exact h nrem han (xbe _) h3 (.inl rfl)
theorem zdz {xs:Array Keyed} {i j:Nat} (hj:j<=xs.size) (he:∀k,i<=k->k < j->kA R xs k=kA R xs (j - 1)) (k:Nat):kA R (mirror xs i j ((j - i) / 2)) k=kA R xs k:=by
 rw[zfo hj];split
 ·rename_i c;rw[he _ (zvj c.2) (zvk c.1 c.2),he k c.1 c.2]
 ·rfl
structure Fl (κ:SortKind) (a₀:Array Keyed) (R:Keyed->Nat) (st₀ st:SortSt) (lo n neq b:Nat):Prop where
 base:B κ a₀ st
 same:Sm st₀ st lo b
 dn:DnA R (arrOf st) lo (lo+n)
 hq:neq+1<=n
 eqs:∀i,lo+n - (neq+1)<=i->i < lo+n->kA R (arrOf st) i=kA R (arrOf st) (lo+n - 1)
theorem Fl.turn {st₀ st:SortSt} {lo n neq b:Nat} (h:Fl κ a₀ R st₀ st lo n neq b) (hb:lo+n<=b) (hs:b<=a₀.size) :
  Fl κ a₀ R st₀ (setArr st (mirror (arrOf st) (lo+n - (neq+1)) (lo+n) ((lo+n - (lo+n - (neq+1))) / 2))) lo n neq b/\∀k,kA R (mirror (arrOf st) (lo+n - (neq+1)) (lo+n) ((lo+n - (lo+n - (neq+1))) / 2)) k=kA R (arrOf st) k:=by
 have hz:=h.base.size;have hq:=h.hq;have hle:lo+n<=(arrOf st).size:=by rw[hz];exact xbb hb hs
 have e:=zdz (R:=R) (xs:=arrOf st) (i:=lo+n - (neq+1)) (j:=lo+n) hle h.eqs;refine ⟨⟨h.base.set (mirror_perm _ _ _ _),⟨(Out.mirror hle (Nat.le_sub_of_add_le (xcc hq lo)) hb).trans h.same.out,h.same.pend⟩,fun i j a1 a2 a3=>?_,h.hq,fun i a1 a2=>?_⟩,e⟩
 ·show kA R (mirror _ _ _ _) j<=kA R (mirror _ _ _ _) i;rw[e,e];exact h.dn i j a1 a2 a3
 ·show kA R (mirror _ _ _ _) i=kA R (mirror _ _ _ _) _;rw[e,e];exact h.eqs i a1 a2
theorem Fl.less {st₀ st:SortSt} {lo n neq b:Nat} (h:Fl κ a₀ R st₀ st lo n neq b) (c:kA R (arrOf st) (lo+n)<=kA R (arrOf st) (lo+n - 1)):DnA R (arrOf st) lo (lo+(n+1)):=fun i j a1 a2 a3=>by
 have hq:=h.hq;by_cases e:j=lo+n
 ·subst e;by_cases e2:i=lo+n
  ·rw[e2];exact xbe _
  ·exact xbb c (h.dn i (lo+n - 1) a1 (xcv (xcs a2 e2)) (zlj (xbb (xkv 1 neq) hq)))
 ·exact h.dn i j a1 a2 (zyh a3 e)
theorem Fl.fresh {st₀ st:SortSt} {lo n neq b:Nat} (h:Fl κ a₀ R st₀ st lo n neq b) (c:kA R (arrOf st) (lo+n)<=kA R (arrOf st) (lo+n - 1)):Fl κ a₀ R st₀ st lo (n+1) 0 b:=⟨h.base,h.same,h.less c,xem (xec _),fun i g1 g2=>by
 have:i=lo+(n+1) - 1:=xdi (xcg g2) g1
 rw[this]⟩
theorem Fl.more {st₀ st:SortSt} {lo n neq b:Nat} (h:Fl κ a₀ R st₀ st lo n neq b) (c:kA R (arrOf st) (lo+n)=kA R (arrOf st) (lo+n - 1)):Fl κ a₀ R st₀ st lo (n+1) (neq+1) b:=by
 have hq:=h.hq;refine ⟨h.base,h.same,h.less (xcu c),xem hq,fun i g1 g2=>?_⟩;rw[show lo+(n+1) - 1=lo+n from rfl];by_cases e:i=lo+n
 ·rw[e]
 ·rw[c];exact h.eqs i (xbb (xcu (Nat.succ_sub_succ (lo+n) (neq+1)).symm) g1) (zyh g2 e)
theorem ztm {lo nrem:Nat} {st:SortSt} {Q:Option Nat->SortSt->Prop} (O:Orc prog w A s κ a₀ R) (b:B κ a₀ st) (hn:lo+nrem<=a₀.size) (h1:1<=nrem)
  (h:∀m st',1<=m->m<=nrem->B κ a₀ st'->Sm st st' lo (lo+nrem)->UpA R (arrOf st') lo (lo+m)->Q (some m) st'):wpS (model prog w) A E s (countRun' lo nrem) Q st:=by
 have sm0:Sm st st lo (lo+nrem):=⟨Out.refl _ _ _,rfl⟩
 have one:∀xs:Array Keyed,UpA R xs lo (lo+1):=fun xs i j a1 a2 a3=>by
  have:i=j:=xdi a2 (xbb (xcg a3) a1);subst this;exact xbe _
 have oneD:∀xs:Array Keyed,DnA R xs lo (lo+1):=fun xs i j a1 a2 a3=>by
  have:i=j:=xdi a2 (xbb (xcg a3) a1);subst this;exact xbe _
 rw[countRun'_eq];dsimp only;refine xbi (ztn O b hn (xbe _) h1 (one _) fun n n1 n2 hu hlast=>?_);dsimp only;split
 ·exact xbj (h n st n1 n2 b sm0 hu)
 rename_i hne;have hne':n≠nrem:=fun z=>hne (by simp[z])
 have hlt:n < nrem:=xcs n2 hne';have hl:kA R (arrOf st) (lo+n) < kA R (arrOf st) (lo+n - 1):=by
  rcases hlast with z | z
  ·exact absurd z hne'
  ·exact z
 have hz:=b.size;have fin:∀(n:Nat) (st1:SortSt),B κ a₀ st1->Sm st st1 lo (lo+nrem)->1<=n->n<=nrem->DnA R (arrOf st1) lo (lo+n) ->
   B κ a₀ (setArr st1 (mirror (arrOf st1) lo (lo+n) ((lo+n - lo) / 2)))/\Sm st (setArr st1 (mirror (arrOf st1) lo (lo+n) ((lo+n - lo) / 2))) lo (lo+nrem)/\UpA R (mirror (arrOf st1) lo (lo+n) ((lo+n - lo) / 2)) lo (lo+n):=fun n st1 b1 sm1 m1 m2 dn1=>by
  have hz:=b1.size;have hm:=xcc m2 lo;have hle:lo+n<=(arrOf st1).size:=by rw[hz];exact xbb hm hn
  refine ⟨b1.set (mirror_perm _ _ _ _),⟨(Out.mirror hle (xbe _) hm).trans sm1.out,sm1.pend⟩,fun i j a1 a2 a3=>?_⟩;have hi:=xcr a2 a3;rw[zfo hle,zfo hle,if_pos ⟨a1,hi⟩,if_pos ⟨xbb a1 a2,a3⟩];exact dn1 _ _ (zvj a3) (xgo a2 _) (zvk a1 hi)
 have eqs:¬ kA R (arrOf st) lo < kA R (arrOf st) (lo+n - 1)->∀k,lo<=k->k < lo+n->kA R (arrOf st) k=kA R (arrOf st) (lo+n - 1):=fun c k k1 k2=>by
  have g1:=hu lo k (xbe _) k1 k2;have g2:=hu k (lo+n - 1) k1 (xcv k2) (zlj n1);exact xdi g2 (xbb (xby c) g1)
 have dnx:∀xs:Array Keyed,(∀k,kA R xs k=kA R (arrOf st) k)->¬ kA R (arrOf st) lo < kA R (arrOf st) (lo+n - 1)->DnA R xs lo (lo+(n+1)):=fun xs e c i j a1 a2 a3=>by
  rw[e,e];by_cases e2:j=lo+n
  ·subst e2;by_cases e3:i=lo+n
   ·rw[e3];exact xbe _
   ·rw[eqs c i a1 (xcs a2 e3)];exact xbp hl
  ·have jn:=zyh a3 e2;rw[eqs c i a1 (xcr a2 jn),eqs c j (xbb a1 a2) jn];exact xbe _
 split
 ·have hle:lo+n<=(arrOf st).size:=by rw[hz];exact xbb (xcc n2 lo) hn
  refine xbi (zhb O b (xbf (xgs h1) hn) (zte hlt hn) ?_);by_cases c:kA R (arrOf st) lo < kA R (arrOf st) (lo+n - 1)
  ·simp only[c,xhf,xet];exact xbj (h n st n1 n2 b sm0 hu)
  ·simp only[c,xhj,xdk,xfl];refine xbi (zmr ?_);have b1:B κ a₀ (setArr st (mirror (arrOf st) lo (lo+n) ((lo+n - lo) / 2))):=b.set (mirror_perm _ _ _ _);have sm1:Sm st (setArr st (mirror (arrOf st) lo (lo+n) ((lo+n - lo) / 2))) lo (lo+nrem):=⟨Out.mirror hle (xbe _) (xcc n2 lo),rfl⟩
   have dn1:DnA R (arrOf (setArr st (mirror (arrOf st) lo (lo+n) ((lo+n - lo) / 2)))) lo (lo+(n+1)):=dnx _ (zdz hle (eqs c)) c;generalize (setArr st (mirror (arrOf st) lo (lo+n) ((lo+n - lo) / 2)))=st1 at b1 sm1 dn1 ⊢;refine xbi (xja (xgg ⟨rfl,?_⟩));refine xbi (xep (xdd (I:=fun x c st'=>∃neq,c=(none,x,neq)/\Fl κ a₀ R st st' lo x neq (lo+nrem)) (Q:=fun c st'=>∃m neq,c=(none,m,neq)/\n+1<=m/\m<=nrem/\Fl κ a₀ R st st' lo m neq (lo+nrem)) ?_ ?_ ?_) ?_)
   ·rintro x c st' a1 a2 ⟨neq,rfl,f⟩;dsimp only;refine xbi (zhb O f.base (ztf a2 hn) (zte a2 hn) ?_);by_cases c:kA R (arrOf st') (lo+x) < kA R (arrOf st') (lo+x - 1)
    ·simp only[c,xhf,xet];split
     ·obtain ⟨f2,e⟩:=f.turn (xcc (xbp a2) lo) hn;refine xbi (zmr (xbj ⟨0,rfl,f2.fresh ?_⟩));refine xbp (?_:kA R (mirror _ _ _ _) _ < kA R (mirror _ _ _ _) _);rw[e,e];exact c
     ·exact xbj ⟨0,rfl,f.fresh (xbp c)⟩
    ·simp only[c,xhj,xdk,xfl];refine xbi (zhb O f.base (zte a2 hn) (ztf a2 hn) ?_);by_cases c2:kA R (arrOf st') (lo+x - 1) < kA R (arrOf st') (lo+x)
     ·simp only[c2,xhf,xet];exact xbj ⟨x,neq,rfl,a1,xbp a2,f⟩
     ·simp only[c2,xhj,xdk,xfl];exact xbj ⟨neq+1,rfl,f.more (xdi (xby c2) (xby c))⟩
   ·rintro c st' ⟨neq,rfl,f⟩;rw[xkp hlt] at f ⊢;exact ⟨nrem,neq,rfl,hlt,xbe _,f⟩
   ·exact ⟨0,rfl,b1,sm1,dn1,xem (xec _),fun i g1 g2=>by
     have:i=lo+(n+1) - 1:=xdi (xcg g2) g1
     rw[this]⟩
   ·rintro c st' ⟨m,neq,rfl,a1,a2,f⟩;dsimp only;split
    ·obtain ⟨f2,e⟩:=f.turn (xcc a2 lo) hn;refine xbi (zmr (xbi (zmr ?_)));obtain ⟨b3,s3,u3⟩:=fin m _ f2.base f2.same (xcx a1) a2 f2.dn;exact xbi (ztn O b3 hn (xcx a1) a2 u3 fun m' m1 m2 hu' _=>xbj (h m' _ (xbb (xcx a1) m1) m2 b3 s3 hu'))
    ·refine xbi (zmr ?_);obtain ⟨b3,s3,u3⟩:=fin m _ f.base f.same (xcx a1) a2 f.dn;exact xbi (ztn O b3 hn (xcx a1) a2 u3 fun m' m1 m2 hu' _=>xbj (h m' _ (xbb (xcx a1) m1) m2 b3 s3 hu'))
 ·rename_i hn1;have b1:=b;have sm1:=sm0
  have dn1:DnA R (arrOf st) lo (lo+(n+1)):=dnx _ (fun _=>rfl) (by
   have:n=1:=xdi (xby hn1) n1;subst this
   simp)
  refine xbi (xja (xgg ⟨rfl,?_⟩));refine xbi (xep (xdd (I:=fun x c st'=>∃neq,c=(none,x,neq)/\Fl κ a₀ R st st' lo x neq (lo+nrem)) (Q:=fun c st'=>∃m neq,c=(none,m,neq)/\n+1<=m/\m<=nrem/\Fl κ a₀ R st st' lo m neq (lo+nrem)) ?_ ?_ ?_) ?_)
  ·rintro x c st' a1 a2 ⟨neq,rfl,f⟩;dsimp only;refine xbi (zhb O f.base (ztf a2 hn) (zte a2 hn) ?_);by_cases c:kA R (arrOf st') (lo+x) < kA R (arrOf st') (lo+x - 1)
   ·simp only[c,xhf,xet];split
    ·obtain ⟨f2,e⟩:=f.turn (xcc (xbp a2) lo) hn;refine xbi (zmr (xbj ⟨0,rfl,f2.fresh ?_⟩));refine xbp (?_:kA R (mirror _ _ _ _) _ < kA R (mirror _ _ _ _) _);rw[e,e];exact c
    ·exact xbj ⟨0,rfl,f.fresh (xbp c)⟩
   ·simp only[c,xhj,xdk,xfl];refine xbi (zhb O f.base (zte a2 hn) (ztf a2 hn) ?_);by_cases c2:kA R (arrOf st') (lo+x - 1) < kA R (arrOf st') (lo+x)
    ·simp only[c2,xhf,xet];exact xbj ⟨x,neq,rfl,a1,xbp a2,f⟩
    ·simp only[c2,xhj,xdk,xfl];exact xbj ⟨neq+1,rfl,f.more (xdi (xby c2) (xby c))⟩
  ·rintro c st' ⟨neq,rfl,f⟩;rw[xkp hlt] at f ⊢;exact ⟨nrem,neq,rfl,hlt,xbe _,f⟩
  ·exact ⟨0,rfl,b1,sm1,dn1,xem (xec _),fun i g1 g2=>by
    have:i=lo+(n+1) - 1:=xdi (xcg g2) g1
    rw[this]⟩
  ·rintro c st' ⟨m,neq,rfl,a1,a2,f⟩;dsimp only;split
   ·obtain ⟨f2,e⟩:=f.turn (xcc a2 lo) hn;refine xbi (zmr (xbi (zmr ?_)));obtain ⟨b3,s3,u3⟩:=fin m _ f2.base f2.same (xcx a1) a2 f2.dn;exact xbi (ztn O b3 hn (xcx a1) a2 u3 fun m' m1 m2 hu' _=>xbj (h m' _ (xbb (xcx a1) m1) m2 b3 s3 hu'))
   ·refine xbi (zmr ?_);obtain ⟨b3,s3,u3⟩:=fin m _ f.base f.same (xcx a1) a2 f.dn;exact xbi (ztn O b3 hn (xcx a1) a2 u3 fun m' m1 m2 hu' _=>xbj (h m' _ (xbb (xcx a1) m1) m2 b3 s3 hu'))
end
section
variable {prog:Program} {w:World} {A:Around} {E:Value->Shared->Prop} {s:Shared} {κ:SortKind} {a₀:Array Keyed} {R:Keyed->Nat}
theorem zik {xs:Array Keyed} {src d:Nat} (hs:src < xs.size) (hd:d<=src) (k:Nat):kA R (bubble xs src d) k=if k=src - d then kA R xs src else if src - d < k/\k<=src then kA R xs (k - 1) else kA R xs k:=by
 have e:=getElem?_bubble hs d hd k;split
 ·rename_i c;rw[if_pos c] at e;exact zbw e
 ·rename_i c;rw[if_neg c] at e;split
  ·rename_i c2;rw[if_pos c2] at e;exact zbw e
  ·rename_i c2;rw[if_neg c2] at e;exact zbw e
theorem zfm {a b n:Nat} (h1:a<=b) (h:b - a<=n - max 0 n):b=a:=by
 rw[Nat.zero_max,xjh] at h;exact xdi (Nat.le_of_sub_eq_zero (Nat.le_zero.mp h)) h1
theorem zbas {l r:Nat} (h:¬l ≥ r):l<=(l+r) / 2:=(Nat.le_div_iff_mul_le xkw).mpr (by rw[Nat.mul_two];exact xcc (xbp (xfb h)) l)
theorem zyi {l r:Nat} (h:¬l ≥ r):(l+r) / 2 < r:=(Nat.div_lt_iff_lt_mul xkw).mpr (by rw[Nat.mul_two];exact Nat.add_lt_add_right (xfb h) r)
theorem hf_l {l r k x:Nat} (h:¬l ≥ r) (g:r - l<=k - x):(l+r) / 2 - l<=k - (x+1):=xbb (xcv (xdu (zbas h) (zyi h))) (xer g 1)
theorem hf_r {l r k x:Nat} (h:¬l ≥ r) (g:r - l<=k - x):r - ((l+r) / 2+1)<=k - (x+1):=xbb (xgo (xem (zbas h)) r) (xer g 1)
theorem zqr {p j q:Nat} (h:p < j) (h2:j<=q):j - 1 < q:=xbf (xgw (xii h) Nat.one_pos) h2
theorem zbdh {lo n ok:Nat} {st:SortSt} {Q:Bool->SortSt->Prop} (O:Orc prog w A s κ a₀ R) (b:B κ a₀ st) (hn:lo+n<=a₀.size) (h1:1<=ok) (h2:ok<=n) (up:UpA R (arrOf st) lo (lo+ok))
  (h:∀st',B κ a₀ st'->Sm st st' lo (lo+n)->UpA R (arrOf st') lo (lo+n)->Q true st'):wpS (model prog w) A E s (binarySort' lo n ok) Q st:=by
 rw[binarySort'_eq]
 refine xbi (xep (xdd (I:=fun k c st'=>c=(none,())/\B κ a₀ st'/\Sm st st' lo (lo+n)/\UpA R (arrOf st') lo (lo+min k n))
  (Q:=fun c st'=>c=(none,())/\B κ a₀ st'/\Sm st st' lo (lo+n)/\UpA R (arrOf st') lo (lo+n)) ?_ ?_ ?_) ?_)
 ·rintro k c st' k1 k2 ⟨rfl,b1,sm1,up1⟩;rw[xel (xbp k2)] at up1;have hz:=b1.size;have hk:lo+k < a₀.size:=xbf (xdp k2 lo) hn
  refine xbi (xep (xdd (I:=fun x c st2=>st2=st'/\∃l r,c=(none,l,r)/\l<=r/\r<=k/\r - l<=k - x/\(∀i,i < l->kA R (arrOf st') (lo+i)<=kA R (arrOf st') (lo+k))/\(∀i,r<=i->i < k->kA R (arrOf st') (lo+k)<=kA R (arrOf st') (lo+i)))
   (Q:=fun c st2=>st2=st'/\∃l r,c=(none,l,r)/\l<=k/\(∀i,i < l->kA R (arrOf st') (lo+i)<=kA R (arrOf st') (lo+k))/\(∀i,l<=i->i < k->kA R (arrOf st') (lo+k)<=kA R (arrOf st') (lo+i))) ?_ ?_ ?_) ?_)
  ·rintro x c st2 x1 x2 ⟨rfl,l,r,rfl,g1,g2,g3,g4,g5⟩;dsimp only;by_cases hge:l ≥ r
   ·rw[if_pos hge];have e:l=r:=xdi g1 hge;subst e;exact xbj ⟨rfl,l,l,rfl,g2,g4,g5⟩
   ·have hm:lo+(l+r) / 2 < lo+k:=xdp (xbf (zyi hge) g2) lo;rw[if_neg hge];refine xbi (zhb O b1 hk (xhg hm hk) ?_);by_cases c:kA R (arrOf st2) (lo+k) < kA R (arrOf st2) (lo+(l+r) / 2)
    ·simp only[c,xhf,xet];exact xbj ⟨rfl,l,(l+r) / 2,rfl,zbas hge,xbb (xbp (zyi hge)) g2,hf_l hge g3,g4,fun i a1 a2=>xbb (xbp c) (up1 _ _ (xbr _ _) (xcc a1 lo) (xdp a2 lo))⟩
    ·simp only[c,xhj,xdk,xfl];exact xbj ⟨rfl,(l+r) / 2+1,r,rfl,zyi hge,g2,hf_r hge g3,fun i a1=>xbb (up1 (lo+i) (lo+(l+r) / 2) (xbr _ _) (xcc (xcg a1) lo) hm) (xby c),g5⟩
  ·rintro c st2 ⟨rfl,l,r,rfl,g1,g2,g3,g4,g5⟩;have e:=zfm g1 g3;subst e;exact ⟨rfl,_,_,rfl,g2,g4,g5⟩
  ·exact ⟨rfl,0,k,rfl,xec _,xbe _,xbe _,fun i hi=>absurd hi (Nat.not_lt_zero _),fun i a1 a2=>absurd a2 (xdv a1)⟩
  ·rintro c st2 ⟨rfl,l,r,rfl,g1,g2,g3⟩;dsimp only;have hd:lo+k - (lo+k - (lo+l))=lo+l:=Nat.sub_sub_self (xcc g1 lo);have hs:lo+k < (arrOf st2).size:=by rw[hz];exact hk
   refine xbi (zym (xbj ⟨rfl,b1.set (bubble_perm _ _ _),⟨(Out.bubble hs (xfw _ _) (by rw[hd];exact xbr _ _) (xdp k2 lo)).trans sm1.out,sm1.pend⟩,fun i j a1 a2 a3=>?_⟩));show kA R (bubble (arrOf st2) (lo+k) (lo+k - (lo+l))) i<=kA R (bubble (arrOf st2) (lo+k) (lo+k - (lo+l))) j;rw[zik hs (xfw _ _),zik hs (xfw _ _),hd];rw[xel k2] at a3;have hj:j<=lo+k:=xcg a3;have low:∀q,lo<=q->q < lo+l->kA R (arrOf st2) q<=kA R (arrOf st2) (lo+k):=fun q q1 q2=>by
    have:=g2 (q - lo) (xde q1 q2);rw[xce q1] at this;exact this
   have hig:∀q,lo+l<=q->q < lo+k->kA R (arrOf st2) (lo+k)<=kA R (arrOf st2) q:=fun q q1 q2=>by
    have q0:=xbb (xbr _ _) q1;have:=g3 (q - lo) (xdz q1) (xde q0 q2);rw[xce q0] at this;exact this
   by_cases i1:i=lo+l
   ·rw[if_pos i1];by_cases j1:j=lo+l
    ·rw[if_pos j1];exact xbe _
    ·have jj:=xcs (i1 ▸ a2) (xfc j1);rw[if_neg j1,if_pos ⟨jj,hj⟩];exact hig _ (xcv jj) (zqr jj hj)
   ·rw[if_neg i1];by_cases i2:lo+l < i/\i<=lo+k
    ·have jj:=xbf i2.1 a2;rw[if_pos i2,if_neg (xgj jj),if_pos ⟨jj,hj⟩];exact up1 _ _ (xbb (xbr lo l) (xcv i2.1)) (xer a2 1) (zqr jj hj)
    ·have il:i < lo+l:=xcs (xby fun z=>i2 ⟨z,xbb a2 hj⟩) i1;rw[if_neg i2];by_cases j1:j=lo+l
     ·rw[if_pos j1];exact low i a1 il
     ·rw[if_neg j1];by_cases j2:lo+l < j/\j<=lo+k
      ·rw[if_pos j2];exact up1 _ _ a1 (xcv (xhg il j2.1)) (zqr j2.1 hj)
      ·rw[if_neg j2];exact up1 _ _ a1 a2 (xbf (xcs (xby fun z=>j2 ⟨z,hj⟩) j1) (xcc g1 lo))
 ·rintro c st' ⟨rfl,b1,sm1,up1⟩;rw[xkq (Nat.le_max_right _ _)] at up1;exact ⟨rfl,b1,sm1,up1⟩
 ·refine ⟨rfl,b,⟨Out.refl _ _ _,rfl⟩,fun i j a1 a2 a3=>up i j a1 a2 (xbf a3 (xcc (xbb (xgx _ _) (xcu (Nat.max_eq_left h1))) lo))⟩
 ·rintro c st' ⟨rfl,b1,sm1,up1⟩;exact xbj (h st' b1 sm1 up1)
def gallop':Bool->Keyed->Array Keyed->Nat->Nat->Nat->StateT SortSt Sem (Option Nat):=sortPriv% PySem.Builtin.gallop
def Cut (left:Bool) (R:Keyed->Nat) (key:Keyed) (arr:Array Keyed) (base n h:Nat):Prop:=h<=n/\(∀i,i < h->if left then kA R arr (base+i) < R key else kA R arr (base+i)<=R key)/\(∀i,h<=i->i < n->if left then R key<=kA R arr (base+i) else R key < kA R arr (base+i))
def ahead (left:Bool) (R:Keyed->Nat) (key:Keyed) (arr:Array Keyed) (base i:Nat):Bool:=if left then decide (kA R arr (base+i) < R key) else decide (kA R arr (base+i)<=R key)
theorem zfx {left:Bool} {key:Keyed} {arr:Array Keyed} {base i:Nat} {st:SortSt} {Q:Option Bool->SortSt->Prop} (O:Orc prog w A s κ a₀ R) (hk:kindOf st=κ) (mk:key∈a₀.toList) (ma:∃x,arr[base+i]?=some x/\x∈a₀.toList) (h:Q (some (ahead left R key arr base i)) st) :
  wpS (model prog w) A E s (do
   let x ← elem' arr (base+i)
   if left=true then lt' x key else do
    let y ← lt' key x
    pure (Option.map (fun x=>!x) y)) Q st:=by
 obtain ⟨x,e,m⟩:=ma;refine xbi (zfw e ?_);unfold ahead at h;rw[zca e] at h;cases left with
 | true =>
  rw[if_pos rfl] at h ⊢;exact w_lt O hk m mk h
 | false =>
  rw[if_neg (by decide)] at h ⊢;refine xbi (w_lt O hk mk m (xbj ?_));have q:(!decide (R key < R x))=decide (R x<=R key):=by
   by_cases c:R key < R x
   ·rw[xdb c,xct (Nat.not_le_of_lt c)];rfl
   ·rw[xct c,xdb (xby c)];rfl
  show Q (some (!decide (R key < R x))) st;rw[q];exact h
theorem zmg {left:Bool} {key:Keyed} {arr:Array Keyed} {base n i j:Nat} (up:UpA R arr base (base+n)) (hij:i<=j) (hj:j < n) (h:ahead left R key arr base j=true):ahead left R key arr base i=true:=by
 have:=up (base+i) (base+j) (xbr _ _) (xcc hij _) (xdp hj _);unfold ahead at h ⊢;cases left with
 | true=>rw[if_pos rfl] at h ⊢;exact xdb (xcr this (xfp h))
 | false=>rw[if_neg (by decide)] at h ⊢;exact xdb (xbb this (xfp h))
theorem zxh {left:Bool} {key:Keyed} {arr:Array Keyed} {base n h:Nat} (h0:h<=n) (h1:∀i,i < h->ahead left R key arr base i=true) (h2:∀i,h<=i->i < n->ahead left R key arr base i=false):Cut left R key arr base n h:=by
 refine ⟨h0,fun i hi=>?_,fun i a1 a2=>?_⟩
 ·have:=h1 i hi;unfold ahead at this;cases left with
  | true=>rw[if_pos rfl] at this ⊢;exact xfp this
  | false=>rw[if_neg (by decide)] at this ⊢;exact xfp this
 ·have:=h2 i a1 a2;unfold ahead at this;cases left with
  | true=>rw[if_pos rfl] at this ⊢;exact xby (xka this)
  | false=>rw[if_neg (by decide)] at this ⊢;exact xfb (xka this)
theorem zpm {a b:Nat} (c:¬a ≥ b):(b - a) / 2 < b - a:=Nat.div_lt_self (xeu (xfb c)) (xbe 2)
theorem zbac {a b:Nat} (c:¬a ≥ b):a+(b - a) / 2 < b:=xdj (zpm c)
theorem ztd {a b n:Nat} (c:¬a ≥ b) (h:b<=n):a+(b - a) / 2 < n:=xbf (zbac c) h
theorem zvm {a b n x:Nat} (h:b - a<=n - x):b - (a+(b - a) / 2+1)<=n - (x+1):=xbb (xgo (xem (xbr a _)) b) (xer h 1)
theorem zvl {a b n x:Nat} (c:¬a ≥ b) (h:b - a<=n - x):a+(b - a) / 2 - a<=n - (x+1):=by
 rw[xcq];exact xbb (xcv (zpm c)) (xer h 1)
theorem zwv (o:Nat):o < 2 * o+1:=Nat.lt_succ_of_le (Nat.le_mul_of_pos_left o xkw)
theorem zww {x o:Nat} (h:x+1<=o):x+1+1<=2 * o+1:=xem (xbb h (Nat.le_mul_of_pos_left o xkw))
theorem zts {a b n:Nat} (h:a+b < n):b < n - a:=Nat.lt_sub_of_add_lt (Nat.add_comm a b ▸ h)
inductive GI (f:Nat->Bool) (n:Nat) (st:SortSt) (x:Nat):Option (Option Nat) × Nat × Nat->SortSt->Prop where
 | mk {a b:Nat} (q1:a<=b) (q2:b<=n) (q3:b - a<=n - x) (q4:∀i,i < a->f i=true) (q5:∀i,b<=i->i < n->f i=false):GI f n st x (none,a,b) st
inductive GE (f:Nat->Bool) (n:Nat) (st:SortSt):Option (Option Nat) × Nat × Nat->SortSt->Prop where
 | mk {b:Nat} (q2:b<=n) (q4:∀i,i < b->f i=true) (q5:∀i,b<=i->i < n->f i=false):GE f n st (none,b,b) st
inductive GU (f:Nat->Bool) (n hint:Nat) (P:Nat->Prop) (st:SortSt):Option (Option Nat) × Nat × Nat->SortSt->Prop where
 | mk {l o:Nat} (g1:l < o) (g2:hint+l < n) (g3:f (hint+l)=true) (g4:P o):GU f n hint P st (none,l,o) st
inductive GD (f:Nat->Bool) (hint:Nat) (P:Nat->Prop) (st:SortSt):Option (Option Nat) × Nat × Nat->SortSt->Prop where
 | mk {l o:Nat} (g1:l < o) (g2:l<=hint) (g3:f (hint - l)=false) (g4:P o):GD f hint P st (none,l,o) st
theorem zcu {left:Bool} {key:Keyed} {arr:Array Keyed} {base n hint:Nat} {st:SortSt} {Q:Option Nat->SortSt->Prop} (O:Orc prog w A s κ a₀ R) (hk:kindOf st=κ) (mk:key∈a₀.toList) (ma:∀i,i < n->∃x,arr[base+i]?=some x/\x∈a₀.toList) (hh:hint < n)
  (up:UpA R arr base (base+n)) (h:∀k,Cut left R key arr base n k->Q (some k) st):wpS (model prog w) A E s (gallop' left key arr base n hint) Q st:=by
 have mono:∀i j,i<=j->j < n->ahead left R key arr base j=true->ahead left R key arr base i=true:=fun i j a1 a2=>zmg up a1 a2
 have monoF:∀i j,i<=j->j < n->ahead left R key arr base i=false->ahead left R key arr base j=false:=fun i j a1 a2 e=>by
  cases c:ahead left R key arr base j with
  | false=>rfl
  | true=>rw[mono i j a1 a2 c] at e;cases e
 refine xbi (zfx O hk mk (ma hint hh) ?_);dsimp only;cases hr:ahead left R key arr base hint with
 | true =>
  rw[if_pos rfl];refine xbi (xep (xdd (I:=fun x=>GU (ahead left R key arr base) n hint (x+1<=·) st) (Q:=GU (ahead left R key arr base) n hint (fun o=>n - hint<=o\/(hint+o < n/\ahead left R key arr base (hint+o)=false)) st) ?_ ?_ ?_) ?_)
  ·rintro x c st' x1 x2 @⟨l,o,g1,g2,g3,g4⟩;dsimp only;by_cases c:o ≥ n - hint
   ·rw[if_pos c];exact xbj (.mk g1 g2 g3 (.inl c))
   ·have c3:hint+o < n:=xdj (xfb c);rw[if_neg c];refine xbi (zfx O hk mk (ma (hint+o) c3) ?_);dsimp only;cases c2:ahead left R key arr base (hint+o) with
    | true=>exact xbj (.mk (zwv o) c3 c2 (zww g4))
    | false=>exact xbj (.mk g1 g2 g3 (.inr ⟨c3,c2⟩))
  ·rintro c st' @⟨l,o,g1,g2,g3,g4⟩;rw[Nat.zero_max] at g4;exact .mk g1 g2 g3 (.inl (xbb (xfw _ _) (xcw g4)))
  ·exact .mk Nat.one_pos hh hr (xbe _)
  ·rintro c st' @⟨l,o,g1,g2,g3,g4⟩;dsimp only;have f1:∀i,i < hint+l+1->ahead left R key arr base i=true:=fun i hi=>mono i (hint+l) (xcg hi) g2 g3
   have f2:∀i,hint+min o (n - hint)<=i->i < n->ahead left R key arr base i=false:=fun i a1 a2=>by
    rcases g4 with g | ⟨ga,gb⟩
    ·rw[xkq g,xce (xbp hh)] at a1;exact absurd a2 (xdv a1)
    ·rw[xel (xbp (zts ga))] at a1;exact monoF (hint+o) i a1 a2 gb
   have f3:hint+l+1<=hint+min o (n - hint):=xcc (Nat.le_min.mpr ⟨g1,zts g2⟩) hint;have f4:hint+min o (n - hint)<=n:=xbb (xcc (xiv _ _) hint) (xcu (xce (xbp hh)));generalize hint+l+1=lo at f1 f3 ⊢;generalize hint+min o (n - hint)=hi at f2 f3 f4 ⊢;refine xbi (xep (xdd (I:=GI (ahead left R key arr base) n st) (Q:=GE (ahead left R key arr base) n st) ?_ ?_ (.mk f3 f4 (xbb (xfw _ _) f4) f1 f2)) ?_)
   ·rintro x c st2 x1 x2 @⟨a,b,q1,q2,q3,q4,q5⟩;dsimp only;by_cases c:a ≥ b
    ·rw[if_pos c];have e:b=a:=xdi c q1;subst e;exact xbj (.mk q2 q4 q5)
    ·rw[if_neg c];refine xbi (zfx O hk mk (ma (a+(b - a) / 2) (ztd c q2)) ?_);dsimp only;cases c2:ahead left R key arr base (a+(b - a) / 2) with
     | true=>exact xbj (.mk (zbac c) q2 (zvm q3) (fun i hi=>mono i (a+(b - a) / 2) (xcg hi) (ztd c q2) c2) q5)
     | false=>exact xbj (.mk (xbr _ _) (xbp (ztd c q2)) (zvl c q3) q4 fun i a1 a2=>monoF (a+(b - a) / 2) i a1 a2 c2)
   ·rintro c st2 @⟨a,b,q1,q2,q3,q4,q5⟩;have e:=zfm q1 q3;subst e;exact .mk q2 q4 q5
   ·rintro c st2 @⟨b,q2,q4,q5⟩;exact xbj (h b (zxh q2 q4 q5))
 | false =>
  rw[if_neg (by decide)];refine xbi (xep (xdd (I:=fun x=>GD (ahead left R key arr base) hint (x+1<=·) st) (Q:=GD (ahead left R key arr base) hint (fun o=>hint+1<=o\/(o<=hint/\ahead left R key arr base (hint - o)=true)) st) ?_ ?_ ?_) ?_)
  ·rintro x c st' x1 x2 @⟨l,o,g1,g2,g3,g4⟩;dsimp only;by_cases c:o ≥ hint+1
   ·rw[if_pos c];exact xbj (.mk g1 g2 g3 (.inl c))
   ·rw[if_neg c];refine xbi (zfx O hk mk (ma (hint - o) (xcr (xfw _ _) hh)) ?_);dsimp only;cases c2:ahead left R key arr base (hint - o) with
    | true=>exact xbj (.mk g1 g2 g3 (.inr ⟨xcg (xfb c),c2⟩))
    | false=>exact xbj (.mk (zwv o) (xcg (xfb c)) c2 (zww g4))
  ·rintro c st' @⟨l,o,g1,g2,g3,g4⟩;rw[Nat.zero_max] at g4;exact .mk g1 g2 g3 (.inl (xbb hh (xcw g4)))
  ·exact .mk Nat.one_pos (xec _) hr (xbe _)
  ·rintro c st' @⟨l,o,g1,g2,g3,g4⟩;dsimp only;have f1:∀i,i < hint+1 - min o (hint+1)->ahead left R key arr base i=true:=fun i hi=>by
    rcases g4 with g | ⟨ga,gb⟩
    ·rw[xkq g,xjh] at hi;exact absurd hi (Nat.not_lt_zero _)
    ·rw[xel (xfn ga),Nat.succ_sub ga] at hi;exact mono i (hint - o) (xcg hi) (xcr (xfw _ _) hh) gb
   have f2:∀i,hint - l<=i->i < n->ahead left R key arr base i=false:=fun i a1 a2=>monoF (hint - l) i a1 a2 g3
   have f3:hint+1 - min o (hint+1)<=hint - l:=xbb (xgo (Nat.le_min.mpr ⟨g1,xem g2⟩) _) (xcu (Nat.succ_sub_succ hint l));have f4:hint - l<=n:=xbb (xfw _ _) (xbp hh);generalize hint+1 - min o (hint+1)=lo at f1 f3 ⊢;generalize hint - l=hi at f2 f3 f4 ⊢;refine xbi (xep (xdd (I:=GI (ahead left R key arr base) n st) (Q:=GE (ahead left R key arr base) n st) ?_ ?_ (.mk f3 f4 (xbb (xfw _ _) f4) f1 f2)) ?_)
   ·rintro x c st2 x1 x2 @⟨a,b,q1,q2,q3,q4,q5⟩;dsimp only;by_cases c:a ≥ b
    ·rw[if_pos c];have e:b=a:=xdi c q1;subst e;exact xbj (.mk q2 q4 q5)
    ·rw[if_neg c];refine xbi (zfx O hk mk (ma (a+(b - a) / 2) (ztd c q2)) ?_);dsimp only;cases c2:ahead left R key arr base (a+(b - a) / 2) with
     | true=>exact xbj (.mk (zbac c) q2 (zvm q3) (fun i hi=>mono i (a+(b - a) / 2) (xcg hi) (ztd c q2) c2) q5)
     | false=>exact xbj (.mk (xbr _ _) (xbp (ztd c q2)) (zvl c q3) q4 fun i a1 a2=>monoF (a+(b - a) / 2) i a1 a2 c2)
   ·rintro c st2 @⟨a,b,q1,q2,q3,q4,q5⟩;have e:=zfm q1 q3;subst e;exact .mk q2 q4 q5
   ·rintro c st2 @⟨b,q2,q4,q5⟩;exact xbj (h b (zxh q2 q4 q5))
end
section
variable {prog:Program} {w:World} {A:Around} {E:Value->Shared->Prop} {s:Shared} {κ:SortKind} {a₀:Array Keyed} {R:Keyed->Nat}
abbrev Ord (R:Keyed->Nat) (l:List Keyed):Prop:=l.Pairwise fun x y=>R x<=R y
structure SmG (st st':SortSt):Prop where
 arr:arrOf st'=arrOf st
 pend:pendingOf st'=pendingOf st
 kind:kindOf st'=kindOf st
 failed:failedOf st'=failedOf st
theorem SmG.refl (st:SortSt):SmG st st:=⟨rfl,rfl,rfl,rfl⟩
theorem SmG.trans {a b c:SortSt} (x:SmG a b) (y:SmG b c):SmG a c:=⟨y.arr.trans x.arr,y.pend.trans x.pend,y.kind.trans x.kind,y.failed.trans x.failed⟩
def mergeLo':Array Keyed->Array Keyed->StateT SortSt Sem (Array Keyed):=sortPriv% PySem.Builtin.mergeLo
def mergeHi':Array Keyed->Array Keyed->StateT SortSt Sem (Array Keyed):=sortPriv% PySem.Builtin.mergeHi
structure ML (R:Keyed->Nat) (all out rest:List Keyed):Prop where
 perm:(out++rest).Perm all
 ord:Ord R out
 le:∀x∈out,∀y∈rest,R x<=R y
theorem ML.grow {all out rest xs rest':List Keyed} (m:ML R all out rest) (p:rest.Perm (xs++rest')) (o:Ord R xs) (h:∀x∈xs,∀y∈rest',R x<=R y):ML R all (out++xs) rest':=by
 refine ⟨?_,xes.mpr ⟨m.ord,o,fun x hx y hy=>m.le x hx y (p.mem_iff.mpr (xhk _ hy))⟩,fun x hx y hy=>?_⟩
 ·rw[xcm];exact (xfe out p.symm).trans m.perm
 ·rcases xca.mp hx with hx | hx
  ·exact m.le x hx y (p.mem_iff.mpr (xci _ hy))
  ·exact h x hx y hy
theorem ML.fin {all out rest rest':List Keyed} (m:ML R all out rest) (p:rest'.Perm rest) (o:Ord R rest'):(out++rest').Perm all/\Ord R (out++rest') :=
 ⟨(xfe out p).trans m.perm,xes.mpr ⟨m.ord,o,fun x hx y hy=>m.le x hx y (p.mem_iff.mp hy)⟩⟩
theorem Ord.at {l:List Keyed} (h:Ord R l) {i j:Nat} {x y:Keyed} (hi:l[i]?=some x) (hj:l[j]?=some y) (hij:i<=j):R x<=R y:=by
 obtain ⟨h1,e1⟩:=xbn.mp hi;obtain ⟨h2,e2⟩:=xbn.mp hj;by_cases c:i=j
 ·subst c;rw[← e1,← e2];exact xbe _
 ·rw[← e1,← e2];exact xek.mp h i j h1 h2 (xcs hij c)
theorem Ord.drop {l:List Keyed} (h:Ord R l) (n:Nat):Ord R (l.drop n):=xff (xkg _ _) h
theorem Ord.take {l:List Keyed} (h:Ord R l) (n:Nat):Ord R (l.take n):=xff (xkd _ _) h
theorem zt {l:List Keyed} {n:Nat} {y:Keyed} (h:y∈l.drop n):∃j,n<=j/\l[j]?=some y:=by
 obtain ⟨i,hi,e⟩:=xfs h;refine ⟨n+i,xbr _ _,?_⟩;rw[← e,xkh];exact xbg _
theorem zl {l:List Keyed} {n:Nat} {y:Keyed} (h:y∈l.take n):∃j,j < n/\l[j]?=some y:=by
 obtain ⟨i,hi,e⟩:=xfs h;have hi2:i < n/\i < l.length:=by rw[xee] at hi;exact Nat.lt_min.mp hi
 refine ⟨i,hi2.1,?_⟩;rw[← e,xki];exact xbg _
theorem zeb {l:List Keyed} {i:Nat} {x:Keyed} (h:l[i]?=some x):l.drop i=x::l.drop (i+1):=by
 obtain ⟨h1,rfl⟩:=xbn.mp h;exact xfi h1
theorem zgq (l:List Keyed) (i k:Nat):l.drop i=(l.drop i).take k++l.drop (i+k):=by
 rw[← xjp,xea]
structure Two (R:Keyed->Nat) (la lb:List Keyed):Prop where
 oa:Ord R la
 ob:Ord R lb
 last:∀x,la[la.length - 1]?=some x->∀y∈lb,R y<=R x
def Fin (R:Keyed->Nat) (la lb:List Keyed) (r:Array Keyed):Prop:=r.toList.Perm (la++lb)/\Ord R r.toList
variable {la lb:List Keyed} {out:Array Keyed} {ia ib:Nat}
theorem ML.pushB {R:Keyed->Nat} {all:List Keyed} (T:Two R la lb) (m:ML R all out.toList (la.drop ia++lb.drop ib)) {y:Keyed} (hy:lb[ib]?=some y) (h:∀z∈la.drop ia,R y<=R z):ML R all (out.push y).toList (la.drop ia++lb.drop (ib+1)):=by
 rw[xdx];refine m.grow ?_ (xig _ _) fun x hx z hz=>?_
 ·rw[zeb hy];exact xkr
 ·simp at hx;subst hx
  rcases xca.mp hz with hz | hz
  ·exact h z hz
  ·obtain ⟨j,hj,e⟩:=zt hz;exact T.ob.at hy e (xcw hj)
theorem ML.pushA {R:Keyed->Nat} {all:List Keyed} (T:Two R la lb) (m:ML R all out.toList (la.drop ia++lb.drop ib)) {x:Keyed} (hx:la[ia]?=some x) (h:∀z∈lb.drop ib,R x<=R z):ML R all (out.push x).toList (la.drop (ia+1)++lb.drop ib):=by
 rw[xdx];refine m.grow ?_ (xig _ _) fun w hw z hz=>?_
 ·rw[zeb hx];exact .refl _
 ·simp at hw;subst hw
  rcases xca.mp hz with hz | hz
  ·obtain ⟨j,hj,e⟩:=zt hz;exact T.oa.at hx e (xcw hj)
  ·exact h z hz
theorem zbb (xs:Array Keyed) (i j:Nat):(xs.extract i j).toList=(xs.toList.drop i).take (j - i):=by
 rw[xji,List.extract_eq_take_drop]
theorem zio (xs:Array Keyed) (i:Nat):(xs.extract i).toList=xs.toList.drop i:=by
 rw[zbb];exact xhc (by simp)
theorem zz {xs:Array Keyed} {i:Nat} {x:Keyed} (h:xs.toList[i]?=some x):kA R xs i=R x:=zca (by rw[← xbs];exact h)
end
section
variable {prog:Program} {w:World} {A:Around} {E:Value->Shared->Prop} {s:Shared} {κ:SortKind} {a₀:Array Keyed} {R:Keyed->Nat} {a b out:Array Keyed} {ia ib k:Nat} {y x:Keyed} {all:List Keyed}
theorem ML.galA (T:Two R a.toList b.toList) (m:ML R all out.toList (a.toList.drop ia++b.toList.drop ib)) (hy:b.toList[ib]?=some y) (c:Cut false R y a ia (a.size - ia) k):ML R all (out++a.extract ia (ia+k)).toList (a.toList.drop (ia+k)++b.toList.drop ib)/\∀z∈a.toList.drop (ia+k),R y<=R z:=by
 have up:∀z∈a.toList.drop (ia+k),R y<=R z:=fun z hz=>by
  obtain ⟨j,hj,e⟩:=zt hz;have hj2:j < a.size:=by have:=(xbn.mp e).1;simpa using this
  have h0:=xbb (xbr _ _) hj;have:=c.2.2 (j - ia) (xdz hj) (xdu h0 hj2);rw[xce h0,zz e] at this;exact xbp this
 have low:∀z∈(a.toList.drop ia).take k,R z<=R y:=fun z hz=>by
  obtain ⟨j,hj,e⟩:=zl hz;rw[xen] at e;have:=c.2.1 j hj;rw[zz e] at this;exact this
 refine ⟨?_,up⟩;rw[xcy,zbb,xcq];refine m.grow ?_ ((T.oa.drop ia).take k) fun z hz v hv=>?_
 ·conv=>lhs;rw[zgq a.toList ia k]
  rw[xcm]
 ·rcases xca.mp hv with hv | hv
  ·exact xbb (low z hz) (up v hv)
  ·obtain ⟨j,hj,e⟩:=zt hv;exact xbb (low z hz) (T.ob.at hy e hj)
theorem ML.galB (T:Two R a.toList b.toList) (m:ML R all out.toList (a.toList.drop ia++b.toList.drop ib)) (hx:a.toList[ia]?=some x) (c:Cut true R x b ib (b.size - ib) k):ML R all (out++b.extract ib (ib+k)).toList (a.toList.drop ia++b.toList.drop (ib+k))/\∀z∈b.toList.drop (ib+k),R x<=R z:=by
 have up:∀z∈b.toList.drop (ib+k),R x<=R z:=fun z hz=>by
  obtain ⟨j,hj,e⟩:=zt hz;have hj2:j < b.size:=by have:=(xbn.mp e).1;simpa using this
  have h0:=xbb (xbr _ _) hj;have:=c.2.2 (j - ib) (xdz hj) (xdu h0 hj2);rw[xce h0,zz e] at this;exact this
 have low:∀z∈(b.toList.drop ib).take k,R z<=R x:=fun z hz=>by
  obtain ⟨j,hj,e⟩:=zl hz;rw[xen] at e;have:=c.2.1 j hj;rw[zz e] at this;exact xbp this
 refine ⟨?_,up⟩;rw[xcy,zbb,xcq];refine m.grow ?_ ((T.ob.drop ib).take k) fun z hz v hv=>?_
 ·conv=>lhs;rw[zgq b.toList ib k]
  rw[← xcm,← xcm];exact xhd _ xga
 ·rcases xca.mp hv with hv | hv
  ·obtain ⟨j,hj,e⟩:=zt hv;exact xbb (low z hz) (T.oa.at hx e hj)
  ·exact xbb (low z hz) (up v hv)
theorem ML.done (T:Two R a.toList b.toList) (m:ML R (a.toList++b.toList) out.toList (a.toList.drop ia++b.toList.drop ib)) (h:ia=a.size\/ib=b.size):Fin R a.toList b.toList (out++a.extract ia++b.extract ib):=by
 unfold Fin;rw[xcy,xcy,zio,zio,xcm];refine m.fin (.refl _) ?_;rcases h with rfl | rfl
 ·rw[xhe (by simp),List.nil_append];exact T.ob.drop _
 ·rw[xhe (as:=b.toList) (by simp),xej];exact T.oa.drop _
theorem ML.lastA (T:Two R a.toList b.toList) (m:ML R (a.toList++b.toList) out.toList (a.toList.drop ia++b.toList.drop ib)) (h:ia+1=a.size):Fin R a.toList b.toList (out++b.extract ib++a.extract ia):=by
 unfold Fin;rw[xcy,xcy,zio,zio,xcm];refine m.fin xga (xes.mpr ⟨T.ob.drop _,T.oa.drop _,fun v hv z hz=>?_⟩);obtain ⟨j,hj,e⟩:=zt hz;have hj2:j < a.size:=by have:=(xbn.mp e).1;simpa using this
 have:j=a.toList.length - 1:=xdi (xcv (by rw[xbq];exact hj2)) (by rw[xbq,← h];exact hj);subst this;exact T.last z e v (xhl hv)
def setG':Nat->StateT SortSt Sem Unit:=sortPriv% PySem.Builtin.setMinGallop
theorem zmq {g:Nat} {st:SortSt} {Q:Unit->SortSt->Prop} (h:∀st',SmG st st'->Q () st'):wpS (model prog w) A E s (setG' g) Q st :=
 xfx (h _ ⟨rfl,rfl,rfl,rfl⟩)
theorem zbcq {α:Type} {K:Nat->StateT SortSt Sem α} {Q:α->SortSt->Prop} {st:SortSt} (h:∀v,wpS (model prog w) A E s (K v) Q st):∀y x:Nat,wpS (model prog w) A E s (if y > 1 then K x else K y) Q st:=fun y x=>by
 by_cases e:y > 1
 ·rw[if_pos e];exact h x
 ·rw[if_neg e];exact h y
theorem zbcs {α:Type} {c c2:Prop} [Decidable c] [Decidable c2] {X Y Y':StateT SortSt Sem α} {Q:α->SortSt->Prop} {st:SortSt} (hY:¬c->Y'=Y) (h1:c->c2->wpS (model prog w) A E s X Q st) (h2:(c->¬c2)->wpS (model prog w) A E s Y Q st):wpS (model prog w) A E s (if c then (if c2 then X else Y) else Y') Q st:=by
 by_cases e:c
 ·rw[if_pos e];by_cases e2:c2
  ·rw[if_pos e2];exact h1 e e2
  ·rw[if_neg e2];exact h2 fun _=>e2
 ·rw[if_neg e,hY e];exact h2 fun z=>absurd z e
theorem ztl {α:Type} {c c2 c3:Prop} [Decidable c] [Decidable c2] [Decidable c3] {X X3 Y Y':StateT SortSt Sem α} {Q:α->SortSt->Prop} {st:SortSt} (hY:¬c->Y'=Y) (h1:c->c2->wpS (model prog w) A E s X Q st) (h3:c->c3->wpS (model prog w) A E s X3 Q st) (h2:(c->¬c2/\¬c3)->wpS (model prog w) A E s Y Q st):wpS (model prog w) A E s (if c then (if c2 then X else if c3 then X3 else Y) else Y') Q st:=by
 by_cases e:c
 ·rw[if_pos e];by_cases e2:c2
  ·rw[if_pos e2];exact h1 e e2
  ·rw[if_neg e2];by_cases e3:c3
   ·rw[if_pos e3];exact h3 e e3
   ·rw[if_neg e3];exact h2 fun _=>⟨e2,e3⟩
 ·rw[if_neg e,hY e];exact h2 fun z=>absurd z e
theorem zbcr {α:Type} {c c2:Prop} [Decidable c] [Decidable c2] {X X2 Y:StateT SortSt Sem α} {Q:α->SortSt->Prop} {st:SortSt} (h1:c->wpS (model prog w) A E s X Q st) (h2:c2->wpS (model prog w) A E s X2 Q st) (h3:¬c->¬c2->wpS (model prog w) A E s Y Q st):wpS (model prog w) A E s (if c then X else if c2 then X2 else Y) Q st:=by
 by_cases e:c
 ·rw[if_pos e];exact h1 e
 ·rw[if_neg e];by_cases e2:c2
  ·rw[if_pos e2];exact h2 e2
  ·rw[if_neg e2];exact h3 e e2
theorem w_if {α:Type} {c:Prop} [Decidable c] {X Y:StateT SortSt Sem α} {Q:α->SortSt->Prop} {st:SortSt} (h1:c->wpS (model prog w) A E s X Q st) (h2:¬c->wpS (model prog w) A E s Y Q st):wpS (model prog w) A E s (if c then X else Y) Q st:=by
 by_cases e:c
 ·rw[if_pos e];exact h1 e
 ·rw[if_neg e];exact h2 e
theorem w_el {α:Type} {arr:Array Keyed} {i:Nat} {x:Keyed} {f:Keyed->StateT SortSt Sem α} {Q:α->SortSt->Prop} {st:SortSt} (e:arr[i]?=some x) (h:wpS (model prog w) A E s (f x) Q st):wpS (model prog w) A E s (elem' arr i >>= f) Q st:=xbi (zfw e h)
theorem ztk {α:Type} {x y:Keyed} {f:Option Bool->StateT SortSt Sem α} {Q:α->SortSt->Prop} {st:SortSt} (O:Orc prog w A s κ a₀ R) (hk:kindOf st=κ) (hx:x∈a₀.toList) (hy:y∈a₀.toList) (h1:R x < R y->wpS (model prog w) A E s (f (some true)) Q st) (h2:R y<=R x->wpS (model prog w) A E s (f (some false)) Q st):wpS (model prog w) A E s (lt' x y >>= f) Q st:=by
 refine xbi (w_lt O hk hx hy ?_);by_cases c:R x < R y
 ·rw[xdb c];exact h1 c
 ·rw[xct c];exact h2 (xby c)
inductive Dn {β:Type} (R:Keyed->Nat) (a b:Array Keyed) (st:SortSt):Option (Array Keyed) × β->SortSt->Prop where
 | mk {r:Array Keyed} {z:β} {st':SortSt} (sm:SmG st st') (f:Fin R a.toList b.toList r):Dn R a b st (some r,z) st'
inductive L1 (R:Keyed->Nat) (a b:Array Keyed) (st:SortSt) (x:Nat):Option (Array Keyed) × Array Keyed × Nat × Nat × Nat->SortSt->Prop where
 | mk {out:Array Keyed} {ia ib g:Nat} {st':SortSt} (sm:SmG st st') (m:ML R (a.toList++b.toList) out.toList (a.toList.drop ia++b.toList.drop ib)) (ha:ia+1 < a.size) (hb:ib < b.size) (hx:x < ia+ib):L1 R a b st x (none,out,ia,ib,g) st'
inductive L2' (R:Keyed->Nat) (a b:Array Keyed) (st:SortSt) (x:Nat):Option (Array Keyed) × Array Keyed × Nat × Nat × Nat × Nat->SortSt->Prop where
 | mk {out:Array Keyed} {ia ib ac bc:Nat} {st':SortSt} (sm:SmG st st') (m:ML R (a.toList++b.toList) out.toList (a.toList.drop ia++b.toList.drop ib)) (ha:ia+1 < a.size) (hb:ib < b.size) (hx:x<=ia+ib):L2' R a b st x (none,out,ia,ib,ac,bc) st'
inductive L3 (R:Keyed->Nat) (a b:Array Keyed) (st:SortSt) (x:Nat):Option (Array Keyed) × Array Keyed × Nat × Nat × Nat × Nat × Nat->SortSt->Prop where
 | mk {out:Array Keyed} {ia ib g ac bc:Nat} {st':SortSt} (sm:SmG st st') (m:ML R (a.toList++b.toList) out.toList (a.toList.drop ia++b.toList.drop ib)) (ha:ia+1 < a.size) (hb:ib < b.size) (hx:x<=ia+ib):L3 R a b st x (none,out,ia,ib,g,ac,bc) st'
theorem zms {st:SortSt} {Q:Array Keyed->SortSt->Prop} (O:Orc prog w A s κ a₀ R) (hk:kindOf st=κ) (ma:∀x∈a.toList,x∈a₀.toList) (mb:∀x∈b.toList,x∈a₀.toList) (T:Two R a.toList b.toList) (ha:1<=a.size) (hb:1<=b.size)
  (fst:∀y,b.toList[0]?=some y->∀x∈a.toList,R y<=R x) (h:∀r st',SmG st st'->Fin R a.toList b.toList r->Q r st'):wpS (model prog w) A E s (mergeLo' a b) Q st:=by
 have atA:∀(i:Nat) (hi:i < a.size),a[i]?=some a[i]/\a.toList[i]?=some a[i]/\a[i]∈a₀.toList:=fun i hi=>⟨getElem?_pos a i hi,by rw[xbs];exact getElem?_pos a i hi,ma _ (by simp)⟩
 have atB:∀(i:Nat) (hi:i < b.size),b[i]?=some b[i]/\b.toList[i]?=some b[i]/\b[i]∈a₀.toList:=fun i hi=>⟨getElem?_pos b i hi,by rw[xbs];exact getElem?_pos b i hi,mb _ (by simp)⟩
 have upA:∀i,UpA R a i (i+(a.size - i)):=fun i p q a1 a2 a3=>by
  have hq:q < a.size:=by lia
  have e1:=(atA p (by lia)).2.1;have e2:=(atA q hq).2.1;rw[zz e1,zz e2];exact T.oa.at e1 e2 a2
 have upB:∀i,UpA R b i (i+(b.size - i)):=fun i p q a1 a2 a3=>by
  have hq:q < b.size:=by lia
  have e1:=(atB p (by lia)).2.1;have e2:=(atB q hq).2.1;rw[zz e1,zz e2];exact T.ob.at e1 e2 a2
 obtain ⟨y0,f0,f1⟩:∃x,b[0]?=some x/\b.toList[0]?=some x:=⟨_,(atB 0 hb).1,(atB 0 hb).2.1⟩
 have start:ML R (a.toList++b.toList) (#[y0]:Array Keyed).toList (a.toList.drop 0++b.toList.drop 1):=by
  have z:ML R (a.toList++b.toList) (#[]:Array Keyed).toList (a.toList.drop 0++b.toList.drop 0):=⟨by simp,List.Pairwise.nil,by simp⟩
  exact z.pushB T f1 fun x hx=>fst y0 f1 x (xhl hx)
 refine xbi (xja (xgg ⟨rfl,xbi (zfw f0 (zbcr (fun c1=>?_) (fun c2=>?_) fun c1 c2=>?_))⟩))
 ·exact xbj (h _ _ (.refl _) (start.done T (.inr (by simpa using c1))))
 ·exact xbj (h _ _ (.refl _) (start.lastA T (by simpa using c2)))
 simp only[xfm] at c1 c2;refine xbi (xgt ?_);refine xbi (xep (xdd (I:=L1 R a b st) (Q:=Dn R a b st) ?_ ?_ (.mk (.refl _) start (by lia) (by lia) (by lia))) ?_)
 ·rintro x c st1 x1 x2 @⟨out,ia,ib,g,st1,sm1,m,ha1,hb1,hx⟩;dsimp only;refine xbi (xep (xdd (I:=fun _=>L2' R a b st (ia+ib)) (Q:=fun c st'=>Dn R a b st c st'\/L2' R a b st (ia+ib) c st') ?_ ?_ (.mk sm1 m ha1 hb1 (xbe _))) ?_)
  ·rintro x' c st2 _ _ @⟨out,ia',ib',ac,bc,st2,sm2,m,ha2,hb2,hp⟩;dsimp only;have ea:=(atA ia' (xeh ha2)).1;have ela:=(atA ia' (xeh ha2)).2.1;have mea:=(atA ia' (xeh ha2)).2.2;have eb:=(atB ib' hb2).1;have elb:=(atB ib' hb2).2.1;have meb:=(atB ib' hb2).2.2;refine w_el eb (w_el ea (ztk O (sm2.kind.trans hk) meb mea (fun cw=>w_el eb ?_) fun cw=>w_el ea ?_))
   ·skip
    have m2:=m.pushB T elb fun z hz=>by
     obtain ⟨j,hj,e⟩:=zt hz;exact xbb (xbp cw) (T.oa.at ela e hj)
    refine w_if (fun c5=>xbj (.inl (.mk sm2 (m2.done T (.inr (eq_of_beq c5)))))) fun c5=>?_
    rw[xfm] at c5;have hb3:ib'+1 < b.size:=xcs hb2 c5;have hp3:ia+ib<=ia'+(ib'+1):=xfn hp;exact w_if (fun _=>xbj (.inr (.mk sm2 m2 ha2 hb3 hp3))) fun _=>xbj (.mk sm2 m2 ha2 hb3 hp3)
   ·skip
    have m2:=m.pushA T ela fun z hz=>by
     obtain ⟨j,hj,e⟩:=zt hz;exact xbb cw (T.ob.at elb e hj)
    refine w_if (fun c5=>xbj (.inl (.mk sm2 (m2.lastA T (eq_of_beq c5))))) fun c5=>?_
    rw[xfm] at c5;have ha3:ia'+1+1 < a.size:=xcs ha2 c5;have hp3:ia+ib<=ia'+1+ib':=Nat.succ_add ia' ib' ▸ xfn hp
    exact w_if (fun _=>xbj (.inr (.mk sm2 m2 ha3 hb2 hp3))) fun _=>xbj (.mk sm2 m2 ha3 hb2 hp3)
  ·exact fun c st2 k=>.inr k
  ·rintro c st2 (⟨sm2,f⟩ | @⟨out,ia',ib',ac,bc,st2,sm2,m,ha2,hb2,hp⟩)
   ·exact xbj (.mk sm2 f)
   ·dsimp only;refine xbi (xja (xgg ⟨rfl,?_⟩));refine xbi (xep (xdd (I:=fun x'=>L3 R a b st (ia+ib+x')) (Q:=fun c st'=>Dn R a b st c st'\/L3 R a b st (ia+ib+1) c st') ?_ ?_ (.mk sm2 m ha2 hb2 hp)) ?_)
    ·rintro x' c st3 _ x2' @⟨out,ia',ib',g',ac,bc,st3,sm3,m,ha2,hb2,hp⟩;dsimp only;have eb:=(atB ib' hb2).1;have elb:=(atB ib' hb2).2.1;have meb:=(atB ib' hb2).2.2;generalize g' - 1=g1;generalize g'=y;revert g1;revert y
     refine zbcq ?_;intro gg;refine xbi (zmq fun st4 sg=>?_);have sm4:=sm3.trans sg;refine w_el eb (xbi (zcu O (sm4.kind.trans hk) meb (fun i hi=>⟨_,(atA (ia'+i) (xdj hi)).1,(atA (ia'+i) (xdj hi)).2.2⟩) (xeu (xeh ha2)) (upA ia') fun k1 cut1=>?_));have m5:=(m.galA T elb cut1).1;have u5:=(m.galA T elb cut1).2;have hk1:=cut1.1;dsimp only;refine ztl (fun c6=>?_) (fun c6 c7=>?_) (fun c6 c8=>?_) fun hh=>?_
     ·have z:k1=0:=Nat.le_zero.mp (xby c6);subst z;simp only[xhx,xhi (xgx _ _),xju]
     ·exact xbj (.inl (.mk sm4 (m5.lastA T (eq_of_beq c7))))
     ·exact xbj (.inl (.mk sm4 (m5.done T (.inl (eq_of_beq c8)))))
     have ha5:ia'+k1+1 < a.size:=by
      by_cases c6:k1 > 0
      ·have:=hh c6;simp at this;lia
      ·lia
     have hp5:ia+ib+x'<=ia'+k1+ib':=xbb hp (Nat.add_le_add_right (xbr _ _) _);clear hh;generalize ia'+k1=ia5 at m5 u5 ha5 hp5 ⊢;generalize out++a.extract ia' ia5=out5 at m5 ⊢;have m6:=m5.pushB T elb u5;have ea:=(atA _ (xeh ha5)).1;have ela:=(atA _ (xeh ha5)).2.1;have mea:=(atA _ (xeh ha5)).2.2;refine w_el eb (w_if (fun c9=>xbj (.inl (.mk sm4 (m6.done T (.inr (eq_of_beq c9)))))) fun c9=>w_el ea ?_);rw[xfm] at c9;refine xbi (zcu O (sm4.kind.trans hk) mea (fun i hi=>⟨_,(atB (ib'+1+i) (xdj hi)).1,(atB (ib'+1+i) (xdj hi)).2.2⟩) (xeu (xcs hb2 c9)) (upB (ib'+1)) fun k2 cut2=>?_);have m7:=(m6.galB T ela cut2).1;have u7:=(m6.galB T ela cut2).2;have hk2:=cut2.1;dsimp only;refine zbcs (fun d6=>?_) (fun d6 d7=>?_) fun hh=>?_
     ·have z2:k2=0:=Nat.le_zero.mp (xby d6);subst z2;simp only[xhx,xhi (xgx _ _),xju]
     ·exact xbj (.inl (.mk sm4 (m7.done T (.inr (eq_of_beq d7)))))
     have h20:ib'+1+k2≠b.size:=by
      by_cases d6:k2 > 0
      ·have:=hh d6;simp at this;lia
      ·lia
     have m8:=m7.pushA T ela u7;refine w_el ea (w_if (fun d8=>xbj (.inl (.mk sm4 (m8.lastA T (eq_of_beq d8))))) fun d8=>?_);rw[xfm] at d8;have ha9:ia5+1+1 < a.size:=xcs ha5 d8;have hb9:ib'+1+k2 < b.size:=by lia
     have hp9:ia+ib+(x'+1)<=ia5+1+(ib'+1+k2):=by lia
     exact w_if (fun _=>xbj (.inr (.mk sm4 m8 ha9 hb9 (xbb (xcc (xkv 1 x') _) hp9)))) fun _=>xbj (.mk sm4 m8 ha9 hb9 hp9)
    ·rintro c st3 ⟨sm3,m,ha2,hb2,hp⟩;exact .inr (.mk sm3 m ha2 hb2 (by lia))
    ·rintro c st3 (⟨sm3,f⟩ | ⟨sm3,m,ha2,hb2,hp⟩)
     ·exact xbj (.mk sm3 f)
     ·exact xbi (zmq fun st4 sg=>xbj (.mk (sm3.trans sg) m ha2 hb2 (xbf (Nat.succ_lt_succ hx) hp)))
 ·rintro c st1 ⟨sm1,m,ha1,hb1,hx⟩;lia
 ·rintro c st1 ⟨sm1,f⟩;exact xbj (h _ st1 sm1 f)
end
structure MH (R:Keyed->Nat) (all out rest:List Keyed):Prop where
 perm:(rest++out.reverse).Perm all
 ord:Ord R out.reverse
 le:∀x∈rest,∀y∈out,R x<=R y
section
variable {R:Keyed->Nat}
theorem MH.grow {all out rest xs rest':List Keyed} (m:MH R all out rest) (p:rest.Perm (rest'++xs.reverse)) (o:Ord R xs.reverse) (h:∀x∈rest',∀y∈xs,R x<=R y):MH R all (out++xs) rest':=by
 refine ⟨?_,?_,fun x hx y hy=>?_⟩
 ·rw[List.reverse_append,← xcm];exact (xhd _ p.symm).trans m.perm
 ·rw[List.reverse_append];exact xes.mpr ⟨o,m.ord,fun x hx y hy=>m.le x (p.mem_iff.mpr (xci _ hx)) y (xiy.mp hy)⟩
 ·rcases xca.mp hy with hy | hy
  ·exact m.le x (p.mem_iff.mpr (xhk _ hx)) y hy
  ·exact h x hx y hy
theorem MH.fin {all out rest rest':List Keyed} (m:MH R all out rest) (p:rest'.Perm rest) (o:Ord R rest'):(rest'++out.reverse).Perm all/\Ord R (rest'++out.reverse) :=
 ⟨(xhd _ p).trans m.perm,xes.mpr ⟨o,m.ord,fun x hx y hy=>m.le x (p.mem_iff.mp hx) y (xiy.mp hy)⟩⟩
theorem zdo {l:List Keyed} {i:Nat} {x:Keyed} (h:l[i]?=some x):l.take (i+1)=l.take i++[x]:=by
 obtain ⟨h1,rfl⟩:=xbn.mp h;exact xgl h1
structure TwoH (R:Keyed->Nat) (la lb:List Keyed):Prop where
 oa:Ord R la
 ob:Ord R lb
 first:∀y,lb[0]?=some y->∀x∈la,R y<=R x
variable {la lb all:List Keyed} {out:Array Keyed} {na nb:Nat}
theorem MH.pushB (T:TwoH R la lb) (m:MH R all out.toList (la.take na++lb.take (nb+1))) {y:Keyed} (hy:lb[nb]?=some y) (h:∀z∈la.take na,R z<=R y):MH R all (out.push y).toList (la.take na++lb.take nb):=by
 rw[xdx];refine m.grow ?_ (by simp) fun z hz w hw=>?_
 ·rw[zdo hy];simp
 ·simp at hw;subst hw
  rcases xca.mp hz with hz | hz
  ·exact h z hz
  ·obtain ⟨j,hj,e⟩:=zl hz;exact T.ob.at e hy (by lia)
theorem MH.pushA (T:TwoH R la lb) (m:MH R all out.toList (la.take (na+1)++lb.take nb)) {x:Keyed} (hx:la[na]?=some x) (h:∀z∈lb.take nb,R z<=R x):MH R all (out.push x).toList (la.take na++lb.take nb):=by
 rw[xdx];refine m.grow ?_ (by simp) fun z hz w hw=>?_
 ·rw[zdo hx];simp only[List.reverse_singleton,xcm];exact xfe _ xga
 ·simp at hw;subst hw
  rcases xca.mp hz with hz | hz
  ·obtain ⟨j,hj,e⟩:=zl hz;exact T.oa.at e hx (by lia)
  ·exact h z hz
end
section
variable {prog:Program} {w:World} {A:Around} {E:Value->Shared->Prop} {s:Shared} {κ:SortKind} {a₀:Array Keyed} {R:Keyed->Nat} {a b out:Array Keyed} {na nb k:Nat} {y x:Keyed} {all:List Keyed}
theorem zlv (l:List Keyed) {k n:Nat} (h:k<=n):l.take n=l.take k++(l.drop k).take (n - k):=by
 conv=>lhs;rw[show n=k+(n - k) by lia,List.take_add]
theorem MH.galA (T:TwoH R a.toList b.toList) (m:MH R all out.toList (a.toList.take na++b.toList.take (nb+1))) (hy:b.toList[nb]?=some y) (hn:na<=a.size) (c:Cut false R y a 0 na k):MH R all (out++(a.extract k na).reverse).toList (a.toList.take k++b.toList.take (nb+1))/\∀z∈a.toList.take k,R z<=R y:=by
 have low:∀z∈a.toList.take k,R z<=R y:=fun z hz=>by
  obtain ⟨j,hj,e⟩:=zl hz;have:=c.2.1 j hj;rw[xdn,zz e] at this;exact this
 have up:∀z∈(a.toList.drop k).take (na - k),R y<=R z:=fun z hz=>by
  obtain ⟨j,hj,e⟩:=zl hz;rw[xen] at e;have:=c.2.2 (k+j) (by lia) (by lia);rw[xdn,zz e] at this;exact xbp this
 refine ⟨?_,low⟩;rw[xcy,xhm,zbb];refine m.grow ?_ (by rw[xhn];exact (T.oa.drop k).take _) fun v hv z hz=>?_
 ·rw[xhn,zlv a.toList c.1,xcm,xcm];exact xfe _ xga
 ·have hz:=up z (xiy.mp hz);rcases xca.mp hv with hv | hv
  ·exact xbb (low v hv) hz
  ·obtain ⟨j,hj,e⟩:=zl hv;exact xbb (T.ob.at e hy (by lia)) hz
theorem MH.galB (T:TwoH R a.toList b.toList) (m:MH R all out.toList (a.toList.take (na+1)++b.toList.take nb)) (hx:a.toList[na]?=some x) (hn:nb<=b.size) (c:Cut true R x b 0 nb k):MH R all (out++(b.extract k nb).reverse).toList (a.toList.take (na+1)++b.toList.take k)/\∀z∈b.toList.take k,R z<=R x:=by
 have low:∀z∈b.toList.take k,R z<=R x:=fun z hz=>by
  obtain ⟨j,hj,e⟩:=zl hz;have:=c.2.1 j hj;rw[xdn,zz e] at this;exact xbp this
 have up:∀z∈(b.toList.drop k).take (nb - k),R x<=R z:=fun z hz=>by
  obtain ⟨j,hj,e⟩:=zl hz;rw[xen] at e;have:=c.2.2 (k+j) (by lia) (by lia);rw[xdn,zz e] at this;exact this
 refine ⟨?_,low⟩;rw[xcy,xhm,zbb];refine m.grow ?_ (by rw[xhn];exact (T.ob.drop k).take _) fun v hv z hz=>?_
 ·rw[xhn,zlv b.toList c.1,xcm]
 ·have hz:=up z (xiy.mp hz);rcases xca.mp hv with hv | hv
  ·obtain ⟨j,hj,e⟩:=zl hv;exact xbb (T.oa.at e hx (by lia)) hz
  ·exact xbb (low v hv) hz
theorem zfr (xs:Array Keyed) (n:Nat):(xs.extract 0 n).toList=xs.toList.take n:=by
 rw[zbb,List.drop_zero,Nat.sub_zero]
theorem MH.done (T:TwoH R a.toList b.toList) (m:MH R (a.toList++b.toList) out.toList (a.toList.take na++b.toList.take nb)) (h:na=0\/nb=0):Fin R a.toList b.toList (a.extract 0 na++b.extract 0 nb++out.reverse):=by
 unfold Fin;rw[xcy,xcy,zfr,zfr,xhm];refine m.fin (.refl _) ?_;rcases h with rfl | rfl
 ·rw[List.take_zero,List.nil_append];exact T.ob.take _
 ·rw[List.take_zero,xej];exact T.oa.take _
theorem MH.firstB (T:TwoH R a.toList b.toList) (m:MH R (a.toList++b.toList) out.toList (a.toList.take na++b.toList.take nb)) (h:nb=1):Fin R a.toList b.toList (b.extract 0 nb++a.extract 0 na++out.reverse):=by
 unfold Fin;rw[xcy,xcy,zfr,zfr,xhm];refine m.fin xga (xes.mpr ⟨T.ob.take _,T.oa.take _,fun v hv z hz=>?_⟩);obtain ⟨j,hj,e⟩:=zl hv;have:j=0:=by lia
 subst this;exact T.first v e z (xho hz)
inductive H1 (R:Keyed->Nat) (a b:Array Keyed) (st:SortSt) (x:Nat):Option (Array Keyed) × Nat × Nat × Array Keyed × Nat->SortSt->Prop where
 | mk {na nb:Nat} {out:Array Keyed} {g:Nat} {st':SortSt} (sm:SmG st st') (m:MH R (a.toList++b.toList) out.toList (a.toList.take na++b.toList.take nb)) (a1:1<=na) (a2:na<=a.size) (b1:2<=nb) (b2:nb<=b.size) (hx:x+na+nb < a.size+b.size):H1 R a b st x (none,na,nb,out,g) st'
inductive H2 (R:Keyed->Nat) (a b:Array Keyed) (st:SortSt) (x:Nat):Option (Array Keyed) × Nat × Nat × Array Keyed × Nat × Nat->SortSt->Prop where
 | mk {na nb:Nat} {out:Array Keyed} {ac bc:Nat} {st':SortSt} (sm:SmG st st') (m:MH R (a.toList++b.toList) out.toList (a.toList.take na++b.toList.take nb)) (a1:1<=na) (a2:na<=a.size) (b1:2<=nb) (b2:nb<=b.size) (hx:na+nb<=x):H2 R a b st x (none,na,nb,out,ac,bc) st'
inductive H3 (R:Keyed->Nat) (a b:Array Keyed) (st:SortSt) (x y:Nat):Option (Array Keyed) × Nat × Nat × Array Keyed × Nat × Nat × Nat->SortSt->Prop where
 | mk {na nb:Nat} {out:Array Keyed} {g ac bc:Nat} {st':SortSt} (sm:SmG st st') (m:MH R (a.toList++b.toList) out.toList (a.toList.take na++b.toList.take nb)) (a1:1<=na) (a2:na<=a.size) (b1:2<=nb) (b2:nb<=b.size) (hx:y+na+nb<=x):H3 R a b st x y (none,na,nb,out,g,ac,bc) st'
theorem zmt {st:SortSt} {Q:Array Keyed->SortSt->Prop} (O:Orc prog w A s κ a₀ R) (hk:kindOf st=κ) (ma:∀x∈a.toList,x∈a₀.toList) (mb:∀x∈b.toList,x∈a₀.toList) (T:TwoH R a.toList b.toList) (ha:1<=a.size) (hb:1<=b.size)
  (lst:∀x,a.toList[a.size - 1]?=some x->∀y∈b.toList,R y<=R x) (h:∀r st',SmG st st'->Fin R a.toList b.toList r->Q r st'):wpS (model prog w) A E s (mergeHi' a b) Q st:=by
 have atA:∀(i:Nat) (hi:i < a.size),a[i]?=some a[i]/\a.toList[i]?=some a[i]/\a[i]∈a₀.toList:=fun i hi=>⟨getElem?_pos a i hi,by rw[xbs];exact getElem?_pos a i hi,ma _ (by simp)⟩
 have atB:∀(i:Nat) (hi:i < b.size),b[i]?=some b[i]/\b.toList[i]?=some b[i]/\b[i]∈a₀.toList:=fun i hi=>⟨getElem?_pos b i hi,by rw[xbs];exact getElem?_pos b i hi,mb _ (by simp)⟩
 have upA:∀n,n<=a.size->UpA R a 0 (0+n):=fun n hn p q a1 a2 a3=>by
  have hq:q < a.size:=xbf a3 (xbb (xcu (xdn n)) hn);have e1:=(atA p (xcr a2 hq)).2.1;have e2:=(atA q hq).2.1;rw[zz e1,zz e2];exact T.oa.at e1 e2 a2
 have upB:∀n,n<=b.size->UpA R b 0 (0+n):=fun n hn p q a1 a2 a3=>by
  have hq:q < b.size:=xbf a3 (xbb (xcu (xdn n)) hn);have e1:=(atB p (xcr a2 hq)).2.1;have e2:=(atB q hq).2.1;rw[zz e1,zz e2];exact T.ob.at e1 e2 a2
 obtain ⟨x0,f0,f1⟩:∃x,a[a.size - 1]?=some x/\a.toList[a.size - 1]?=some x:=⟨_,(atA (a.size - 1) (xgw ha Nat.one_pos)).1,(atA (a.size - 1) (xgw ha Nat.one_pos)).2.1⟩
 have start:MH R (a.toList++b.toList) (#[x0]:Array Keyed).toList (a.toList.take (a.size - 1)++b.toList.take b.size):=by
  have z:MH R (a.toList++b.toList) (#[]:Array Keyed).toList (a.toList.take (a.size - 1+1)++b.toList.take b.size):=by
   refine ⟨?_,List.Pairwise.nil,by simp⟩;rw[xfy ha,xhc (by simp),xhc (by simp)];simp
  exact z.pushA T f1 fun y hy=>lst x0 f1 y (xho hy)
 refine xbi (xja (xgg ⟨rfl,xbi (zfw f0 (zbcr (fun c1=>?_) (fun c2=>?_) fun c1 c2=>?_))⟩))
 ·exact xbj (h _ _ (.refl _) (start.done T (.inl (by simpa using c1))))
 ·exact xbj (h _ _ (.refl _) (start.firstB T (by simpa using c2)))
 simp only[xfm] at c1 c2;refine xbi (xgt ?_);refine xbi (xep (xdd (I:=H1 R a b st) (Q:=Dn R a b st) ?_ ?_ (.mk (.refl _) start (by lia) (by lia) (by lia) (xbe _) (by lia))) ?_)
 ·rintro x c st1 x1 x2 @⟨na,nb,out,g,st1,sm1,m,a1,a2,b1,b2,hx⟩;dsimp only;refine xbi (xep (xdd (I:=fun _=>H2 R a b st (na+nb)) (Q:=fun c st'=>Dn R a b st c st'\/H2 R a b st (na+nb) c st') ?_ ?_ (.mk sm1 m a1 a2 b1 b2 (xbe _))) ?_)
  ·rintro x' c st2 _ _ @⟨na',nb',out,ac,bc,st2,sm2,m,g1,g2,g3,g4,hp⟩;obtain ⟨p,rfl⟩:∃p,na'=p+1:=⟨na' - 1,(xfy g1).symm⟩
   obtain ⟨q,rfl⟩:∃q,nb'=q+1:=⟨nb' - 1,(xfy (xcw g3)).symm⟩
   dsimp only;have ea:=(atA p g2).1;have ela:=(atA p g2).2.1;have mea:=(atA p g2).2.2;have eb:=(atB q g4).1;have elb:=(atB q g4).2.1;have meb:=(atB q g4).2.2;refine w_el eb (w_el ea (ztk O (sm2.kind.trans hk) meb mea (fun cw=>w_el ea ?_) fun cw=>w_el eb ?_))
   ·skip
    have m2:=m.pushA T ela fun z hz=>by
     obtain ⟨j,hj,e⟩:=zl hz;exact xbb (T.ob.at e elb (xcg hj)) (xbp cw)
    refine w_if (fun c5=>xbj (.inl (.mk sm2 (m2.done T (.inl (eq_of_beq c5)))))) fun c5=>?_
    rw[xfm] at c5;have a3:1<=p:=xjv c5;have a4:p<=a.size:=xcw g2;have a5:p+(q+1)<=na+nb:=xbb (Nat.add_le_add_right (xgh p) _) hp;exact w_if (fun _=>xbj (.inr (.mk sm2 m2 a3 a4 g3 g4 a5))) fun _=>xbj (.mk sm2 m2 a3 a4 g3 g4 a5)
   ·skip
    have m2:=m.pushB T elb fun z hz=>by
     obtain ⟨j,hj,e⟩:=zl hz;exact xbb (T.oa.at e ela (xcg hj)) cw
    refine w_if (fun c5=>xbj (.inl (.mk sm2 (m2.firstB T (eq_of_beq c5))))) fun c5=>?_
    rw[xfm] at c5;have a3:2<=q:=xcs (Nat.le_of_succ_le_succ g3) (xfc c5);have a4:q<=b.size:=xcw g4;have a5:p+1+q<=na+nb:=xcw hp;exact w_if (fun _=>xbj (.inr (.mk sm2 m2 g1 g2 a3 a4 a5))) fun _=>xbj (.mk sm2 m2 g1 g2 a3 a4 a5)
  ·exact fun c st2 k=>.inr k
  ·rintro c st2 (⟨sm2,f⟩ | @⟨na',nb',out,ac,bc,st2,sm2,m,g1,g2,g3,g4,hp⟩)
   ·exact xbj (.mk sm2 f)
   ·dsimp only;refine xbi (xja (xgg ⟨rfl,?_⟩));refine xbi (xep (xdd (I:=H3 R a b st (na+nb)) (Q:=fun c st'=>Dn R a b st c st'\/H3 R a b st (na+nb) 1 c st') ?_ ?_ (.mk sm2 m g1 g2 g3 g4 (by rw[xdn];exact hp))) ?_)
    ·rintro x' c st3 _ x2' @⟨na',nb',out,g',ac,bc,st3,sm3,m,g1,g2,g3,g4,hp⟩;obtain ⟨q,rfl⟩:∃q,nb'=q+1:=⟨nb' - 1,(xfy (xcw g3)).symm⟩
     dsimp only;have eb:=(atB q g4).1;have elb:=(atB q g4).2.1;have meb:=(atB q g4).2.2;generalize g' - 1=g1;generalize g'=y;revert g1;revert y
     refine zbcq ?_;intro gg;refine xbi (zmq fun st4 sg=>?_);have sm4:=sm3.trans sg;refine w_el eb (xbi (zcu O (sm4.kind.trans hk) meb (fun i hi=>⟨_,(atA (0+i) (by lia)).1,(atA (0+i) (by lia)).2.2⟩) (by lia) (upA na' g2) fun k1 cut1=>?_));have m5:=(m.galA T elb g2 cut1).1;have u5:=(m.galA T elb g2 cut1).2;have hk1:=cut1.1;dsimp only;refine zbcs (fun c6=>?_) (fun c6 c7=>?_) fun hh=>?_
     ·have z:k1=na':=by lia
      subst z;rw[show out++(a.extract k1 k1).reverse=out by simp[xgx]]
     ·exact xbj (.inl (.mk sm4 (m5.done T (.inl (eq_of_beq c7)))))
     have g5:1<=k1:=by
      by_cases c6:na' - k1 > 0
      ·have:=hh c6;simp at this;lia
      ·lia
     have g6:k1<=a.size:=xbb hk1 g2;have hp5:x'+k1+(q+1)<=na+nb:=by lia
     clear hh hk1 cut1;generalize out++(a.extract k1 na').reverse=out5 at m5 ⊢;obtain ⟨p,rfl⟩:∃p,k1=p+1:=⟨k1 - 1,(xfy g5).symm⟩
     simp only[Nat.add_sub_cancel];have m6:=m5.pushB T elb u5;have ea:=(atA p g6).1;have ela:=(atA p g6).2.1;have mea:=(atA p g6).2.2;refine w_el eb (w_if (fun c9=>xbj (.inl (.mk sm4 (m6.firstB T (eq_of_beq c9))))) fun c9=>w_el ea ?_);rw[xfm] at c9;refine xbi (zcu O (sm4.kind.trans hk) mea (fun i hi=>⟨_,(atB (0+i) (by lia)).1,(atB (0+i) (by lia)).2.2⟩) (by lia) (upB q (xcw g4)) fun k2 cut2=>?_);have m7:=(m6.galB T ela (xcw g4) cut2).1;have u7:=(m6.galB T ela (xcw g4) cut2).2;have hk2:=cut2.1;dsimp only;refine ztl (fun d6=>?_) (fun d6 d7=>?_) (fun d6 d9=>?_) fun hh=>?_
     ·have z2:k2=q:=by lia
      subst z2;simp only[xhi (xbb (xgx _ _) (xbe _)),Array.reverse_empty,xju]
     ·exact xbj (.inl (.mk sm4 (m7.firstB T (eq_of_beq d7))))
     ·exact xbj (.inl (.mk sm4 (m7.done T (.inr (eq_of_beq d9)))))
     have h20:2<=k2:=by
      by_cases d6:q - k2 > 0
      ·have:=hh d6;simp at this;lia
      ·lia
     have m8:=m7.pushA T ela u7;refine w_el ea (w_if (fun d8=>xbj (.inl (.mk sm4 (m8.done T (.inl (eq_of_beq d8)))))) fun d8=>?_);rw[xfm] at d8;have a3:1<=p:=xjv d8;have a4:p<=a.size:=xcw g6;have a5:k2<=b.size:=xbb hk2 (xcw g4);have a6:x'+1+p+k2<=na+nb:=by lia
     exact w_if (fun _=>xbj (.inr (.mk sm4 m8 a3 a4 h20 a5 (by lia)))) fun _=>xbj (.mk sm4 m8 a3 a4 h20 a5 a6)
    ·rintro c st3 ⟨sm3,m,g1,g2,g3,g4,hp⟩;exact .inr (.mk sm3 m g1 g2 g3 g4 (by lia))
    ·rintro c st3 (⟨sm3,f⟩ | @⟨na',nb',out,g',ac,bc,st3,sm3,m,g1,g2,g3,g4,hp⟩)
     ·exact xbj (.mk sm3 f)
     ·have h9:x+1+na'+nb' < a.size+b.size:=by lia
      exact xbi (zmq fun st4 sg=>xbj (.mk (sm3.trans sg) m g1 g2 g3 g4 h9))
 ·rintro c st1 ⟨sm1,m,a1,a2,b1,b2,hx⟩;lia
 ·rintro c st1 ⟨sm1,f⟩;exact xbj (h _ st1 sm1 f)
end
theorem zkl:∀(l:List Keyed) (n off:Nat) (xs:Array Keyed),off+n+l.length<=xs.size->∀i,((l.zipIdx n).foldl (fun a p=>a.setIfInBounds (off+p.2) p.1) xs)[i]?=if off+n<=i/\i < off+n+l.length then l[i - (off+n)]? else xs[i]?
 | [],n,off,xs,h,i=>by
  rw[if_neg (by simp)]
  rfl
 | x::l,n,off,xs,h,i=>by
  rw[List.zipIdx_cons,xjj];rw[xcb] at h;have e1:off+(n+1)+l.length=off+n+(l.length+1):=Nat.succ_add_eq_add_succ (off+n) l.length;rw[zkl l (n+1) off _ (by rw[Array.size_setIfInBounds];exact xbb (xcu e1) h) i];rw[xcb];by_cases c:off+(n+1)<=i/\i < off+(n+1)+l.length
  ·rw[if_pos c,if_pos ⟨xcw c.1,xfg c.2 e1⟩,show i - (off+n)=i - (off+(n+1))+1 from (xfy (xeu c.1)).symm,List.getElem?_cons_succ]
  ·rw[if_neg c];by_cases c2:i=off+n
   ·rw[if_pos ⟨xcu c2.symm,xcr (xcu c2) (xgs (Nat.succ_pos _))⟩,c2,xjh,List.getElem?_cons_zero];exact xhr (xbf (xgs (Nat.succ_pos l.length)) h)
   ·rw[if_neg fun z=>c ⟨xcs z.1 (xfc c2),xfg z.2 e1.symm⟩];exact xje (fun z=>c2 z.symm)
theorem zqm {m xs:Array Keyed} {off:Nat} (h:off+m.size<=xs.size):(m.toList.zipIdx.foldl (fun a p=>a.setIfInBounds (off+p.2) p.1) xs).toList=xs.toList.take off++m.toList++xs.toList.drop (off+m.size):=by
 apply xij;intro i;rw[xbs,zkl m.toList 0 off xs (by simpa using h) i];simp only[xhx,xbq];have l1:(xs.toList.take off).length=off:=by rw[xee,xbq];exact xel (xbb (xbr _ _) h)
 by_cases c:off<=i/\i < off+m.size
 ·rw[if_pos c,xcm,xch (xbb (xcu l1) c.1),l1,xbx (by rw[xbq];exact xde c.1 c.2)]
 ·rw[if_neg c];by_cases c2:i < off
  ·rw[xcm,xbx (xfg c2 l1.symm),List.getElem?_take,if_pos c2,xbs]
  ·have h3:off+m.size<=i:=xby fun z=>c ⟨xby c2,z⟩
   rw[xch (by rw[xcd,l1,xbq];exact h3),xen];simp only[xcd,l1,xbq];rw[xce h3,xbs]
section
variable {prog:Program} {w:World} {A:Around} {E:Value->Shared->Prop} {s:Shared} {κ:SortKind} {a₀:Array Keyed} {R:Keyed->Nat}
theorem zpd {xs:Array Keyed} {i j:Nat} (up:UpA R xs i j) (hj:j<=xs.size):Ord R (xs.extract i j).toList:=by
 rw[zbb];refine xek.mpr fun p q hp hq hpq=>?_
 simp only[xee,xgk,xbq] at hp hq;simp only[xki,xkh,Array.getElem_toList];have:=up (i+p) (i+q) (xbr _ _) (xcc (xbp hpq) i) (xdj (xbf hq (xgx _ _)));rw[zca (getElem?_pos xs (i+p) (xdj (xbf hp (xiv _ _)))),zca (getElem?_pos xs (i+q) (xdj (xbf hq (xiv _ _))))] at this;exact this
theorem zev {xs:Array Keyed} {i j:Nat} {x:Keyed} (h:x∈(xs.extract i j).toList):∃q,i<=q/\q < j/\xs[q]?=some x:=by
 rw[zbb] at h;obtain ⟨q,hq,e⟩:=zl h;rw[xen,xbs] at e;exact ⟨i+q,xbr _ _,xdj hq,e⟩
theorem zwd {xs:Array Keyed} {i j q:Nat} (h:q < j - i):(xs.extract i j).toList[q]?=xs[i+q]?:=by
 rw[zbb,List.getElem?_take,if_pos h,xen,xbs]
structure Mg (R:Keyed->Nat) (xs ys:Array Keyed) (lo hi:Nat):Prop where
 perm:ys.Perm xs
 out:Out ys xs lo hi
 up:UpA R ys lo hi
theorem znk {xs m:Array Keyed} {sa sb ea k nb':Nat} {y0 xl:Keyed} (hsb:sb<=ea) (hea:ea<=xs.size) (hk:sa+k < sb) (hnb:sb+nb'<=ea) (hnb1:1<=nb') (upA:UpA R xs sa sb) (upB:UpA R xs sb ea)
  (e0:xs[sb]?=some y0) (el:xs[sb - 1]?=some xl) (c1:Cut false R y0 xs sa (sb - sa) k) (c2:Cut true R xl xs sb (ea - sb) nb')
  (f:Fin R (xs.extract (sa+k) sb).toList (xs.extract sb (sb+nb')).toList m):Mg R xs (m.toList.zipIdx.foldl (fun a p=>a.setIfInBounds (sa+k+p.2) p.1) xs) sa ea:=by
 have lx:(xs.extract (sa+k) sb).toList.length=sb - (sa+k):=by rw[zbb,xee,xgk,xbq];exact xel (xer (xbb hsb hea) _)
 have ly:(xs.extract sb (sb+nb')).toList.length=nb':=by rw[zbb,xee,xgk,xbq,xcq];exact xel (xdz (xbb hnb hea))
 have lm:m.size=sb+nb' - (sa+k):=by
  have:=f.1.length_eq;rw[xcd,lx,ly,xbq] at this;exact this.trans (Nat.sub_add_comm (xbp hk)).symm
 have he:sa+k+m.size=sb+nb':=by rw[lm];exact xce (xbb (xbp hk) (xbr _ _))
 have hsz:sa+k+m.size<=xs.size:=by rw[he];exact xbb hnb hea
 have hs1:=xcv hk;have s1:sb - 1 < sb:=xgw (xii hk) Nat.one_pos;have g:∀i,(m.toList.zipIdx.foldl (fun a p=>a.setIfInBounds (sa+k+p.2) p.1) xs)[i]?=if sa+k<=i/\i < sb+nb' then m.toList[i - (sa+k)]? else xs[i]?:=fun i=>by
  have:=zkl m.toList 0 (sa+k) xs (by simpa using hsz) i;simp only[xhx,xbq] at this;rw[he] at this;exact this
 have mid:∀v∈m.toList,R y0<=R v/\R v<=R xl:=fun v hv=>by
  rcases xca.mp (f.1.mem_iff.mp hv) with hv | hv
  ·obtain ⟨q,q1,q2,e⟩:=zev hv;have q0:=xbb (xbr _ _) q1;have h1:=c1.2.2 (q - sa) (xdz q1) (xdu q0 q2);rw[xce q0,zca e] at h1;have h2:=upA q (sb - 1) q0 (xcv q2) s1;rw[zca e,zca el] at h2;have h1':R y0 < R v:=h1;exact ⟨xbp h1',h2⟩
  ·obtain ⟨q,q1,q2,e⟩:=zev hv;have h1:=upB sb q (xbe _) q1 (xbf q2 hnb);rw[zca e,zca e0] at h1;have h2:=c2.2.1 (q - sb) (xde q1 q2);rw[xce q1,zca e] at h2;have h2':R v < R xl:=h2;exact ⟨h1,xbp h2'⟩
 have low:∀i,sa<=i->i < sa+k->kA R xs i<=R y0:=fun i a1 a2=>by
  have:=c1.2.1 (i - sa) (xde a1 a2);rw[xce a1] at this;exact this
 have hig:∀i,sb+nb'<=i->i < ea->R xl<=kA R xs i:=fun i a1 a2=>by
  have i0:=xbb (xbr _ _) a1;have:=c2.2.2 (i - sb) (xdz a1) (xdu i0 a2);rw[xce i0] at this;exact this
 have kk:∀i,kA R (m.toList.zipIdx.foldl (fun a p=>a.setIfInBounds (sa+k+p.2) p.1) xs) i=if sa+k<=i/\i < sb+nb' then kA R m (i - (sa+k)) else kA R xs i:=fun i=>by
  have:=g i;split
  ·rename_i c;rw[if_pos c,xbs] at this;exact zbw this
  ·rename_i c;rw[if_neg c] at this;exact zbw this
 have mm:∀i,i < m.size->∃v,m.toList[i]?=some v/\v∈m.toList:=fun i hi=>⟨m.toList[i]'(by simpa using hi),xbg _,xdm _⟩
 refine ⟨?_,fun i hi=>?_,fun i j a1 a2 a3=>?_⟩
 ·refine xeg.mpr ?_;rw[zqm hsz,he];have split:xs.toList=xs.toList.take (sa+k)++((xs.extract (sa+k) sb).toList++(xs.extract sb (sb+nb')).toList)++xs.toList.drop (sb+nb'):=by
   rw[zbb,zbb];rw[xcq]
   conv=>lhs;rw[← xea (sa+k) xs.toList,← xea (sb - (sa+k)) (xs.toList.drop (sa+k)),xjp,xce (xbp hk),← xea nb' (xs.toList.drop sb),xjp]
   simp only[xcm]
  conv=>rhs;rw[split]
  exact xhd _ (xfe _ f.1)
 ·rw[g i,if_neg fun z=>hi.elim (fun h=>xdv (xbb (xbr sa k) z.1) h) fun h=>xdv h (xbf z.2 hnb)]
 ·rw[kk,kk];by_cases ci:sa+k<=i/\i < sb+nb'
  ·rw[if_pos ci];obtain ⟨v,ev,mv⟩:=mm (i - (sa+k)) (by rw[lm];exact xdu ci.1 ci.2);rw[zz ev];by_cases cj:sa+k<=j/\j < sb+nb'
   ·rw[if_pos cj];obtain ⟨u,eu,mu⟩:=mm (j - (sa+k)) (by rw[lm];exact xdu cj.1 cj.2);rw[zz eu];exact f.2.at ev eu (xer a2 _)
   ·rw[if_neg cj];exact xbb (mid v mv).2 (hig j (xby fun z=>cj ⟨xbb ci.1 a2,z⟩) a3)
  ·rw[if_neg ci];by_cases ci2:i < sa+k
   ·have h1:=low i a1 ci2;by_cases cj:sa+k<=j/\j < sb+nb'
    ·rw[if_pos cj];obtain ⟨u,eu,mu⟩:=mm (j - (sa+k)) (by rw[lm];exact xdu cj.1 cj.2);rw[zz eu];exact xbb h1 (mid u mu).1
    ·rw[if_neg cj];by_cases cj2:j < sa+k
     ·exact upA i j a1 a2 (xhg cj2 hk)
     ·have h2:=hig j (xby fun z=>cj ⟨xby cj2,z⟩) a3;have h3:R y0<=R xl:=by
       have s0:=xbb (xbr _ _) hs1;have h4:=c1.2.2 (sb - 1 - sa) (xdz hs1) (xdu s0 s1);rw[xce s0,zca el] at h4;exact xbp h4
      exact xbb h1 (xbb h3 h2)
   ·have hi2:sb+nb'<=i:=xby fun z=>ci ⟨xby ci2,z⟩
    rw[if_neg fun z=>xdv (xbb hi2 a2) z.2];exact upB i j (xbb (xbr _ _) hi2) a2 a3
end
section
variable {prog:Program} {w:World} {A:Around} {E:Value->Shared->Prop} {s:Shared} {κ:SortKind} {a₀:Array Keyed} {R:Keyed->Nat}
theorem zbdg {x st:SortSt} {Q:Unit->SortSt->Prop} (h:Q () x):wpS (model prog w) A E s (set x:StateT SortSt Sem PUnit) Q st:=by
 unfold wpS;rw[StateT.run_set];exact xbc ⟨rfl,h⟩
theorem zmu {i sa na pw sb nb pw':Nat} {st:SortSt} {Q:Bool->SortSt->Prop} (O:Orc prog w A s κ a₀ R) (b:B κ a₀ st) (p1:(pendingOf st)[i]?=some (sa,na,pw)) (p2:(pendingOf st)[i+1]?=some (sb,nb,pw')) (hsb:sb=sa+na) (hna:1<=na) (hnb:1<=nb) (hz:sb+nb<=a₀.size)
  (upA:UpA R (arrOf st) sa sb) (upB:UpA R (arrOf st) sb (sb+nb))
  (h:∀st',B κ a₀ st'->pendingOf st'=((pendingOf st).setIfInBounds i (sa,na+nb,pw)).eraseIdxIfInBounds (i+1)->Out (arrOf st') (arrOf st) sa (sb+nb)->UpA R (arrOf st') sa (sb+nb)->Q true st'):wpS (model prog w) A E s (mergeAt' i) Q st:=by
 have hsz:=b.size;have bs:sb < a₀.size:=xbf (xgs hnb) hz;refine xbi (xgt ?_);dsimp only;have q1:(sortPriv% PySem.Builtin.SortState.pending) st=pendingOf st:=rfl;rw[q1,p1,p2];dsimp only;refine xbi (zbdg ?_);obtain ⟨y0,e0,my0⟩:=b.mem (i:=sb) bs;have inA:∀q,q < a₀.size->∃x,(arrOf st)[q]?=some x/\x∈a₀.toList:=fun q hq=>b.mem hq
 refine xbi (zfw e0 ?_);refine xbi (zcu O b.kind my0 (fun q hq=>inA (sa+q) (xhg (xfg (xdp hq sa) hsb.symm) bs)) hna (by rw[← hsb];exact upA) fun k c1=>?_);dsimp only;have hk:=c1.1;have c1':Cut false R y0 (arrOf st) sa (sb - sa) k:=by rw[show sb - sa=na from by rw[hsb,xcq]];exact c1
 by_cases d1:na - k=0
 ·rw[if_pos (by simpa using d1)];refine xbj (h _ ⟨b.perm,b.kind,b.failed⟩ rfl (Out.refl _ _ _) fun p q a1 a2 a3=>?_);by_cases z1:q < sb
  ·exact upA p q a1 a2 z1
  ·by_cases z2:p < sb
   ·have h1:=c1.2.1 (p - sa) (xbf (xde a1 (xfg z2 hsb)) (Nat.le_of_sub_eq_zero d1));rw[xce a1] at h1;have h2:=upB sb q (xbe _) (xby z1) a3;rw[zca e0] at h2;exact xbb h1 h2
   ·exact upB p q (xby z2) a2 a3
 ·rw[if_neg (by simpa using d1)];have hk2:sa+k < sb:=xfg (xdp (xfb fun z=>d1 (Nat.sub_eq_zero_of_le z)) sa) hsb.symm;have s1:sb - 1 < sb:=xgw (xii hk2) Nat.one_pos;obtain ⟨xl,el,mxl⟩:=inA (sb - 1) (xhg s1 bs);have el':(arrOf st)[sa+k+(na - k) - 1]?=some xl:=by rw[Nat.add_assoc,xce hk,← hsb];exact el
  refine xbi (zfw el' ?_);refine xbi (zcu O b.kind mxl (fun q hq=>inA (sb+q) (xbf (xdp hq sb) hz)) (xgw hnb Nat.one_pos) upB fun nb' c2=>?_);dsimp only;have hn2:=c2.1;have c2':Cut true R xl (arrOf st) sb (sb+nb - sb) nb':=by rw[xcq];exact c2
  by_cases d2:nb'=0
  ·rw[if_pos (by simpa using d2)];refine xbj (h _ ⟨b.perm,b.kind,b.failed⟩ rfl (Out.refl _ _ _) fun p q a1 a2 a3=>?_);subst d2;by_cases z1:q < sb
   ·exact upA p q a1 a2 z1
   ·by_cases z2:p < sb
    ·have h1:=upA p (sb - 1) a1 (xcv z2) s1;rw[zca el] at h1;have h2:=c2.2.2 (q - sb) (xec _) (xde (xby z1) a3);rw[xce (xby z1)] at h2;exact xbb h1 h2
    ·exact upB p q (xby z2) a2 a3
  ·rw[if_neg (by simpa using d2)];have hn1:1<=nb':=xjv d2;have hez:sb<=(arrOf st).size:=by rw[hsz];exact xbp bs
   have hbz:sb+nb<=(arrOf st).size:=by rw[hsz];exact hz
   have hb2:sb+nb'<=sb+nb:=xcc hn2 sb;have oa:Ord R ((arrOf st).extract (sa+k) sb).toList:=zpd (fun p q a1 a2 a3=>upA p q (xbb (xbr _ _) a1) a2 a3) hez;have ob:Ord R ((arrOf st).extract sb (sb+nb')).toList:=zpd (fun p q a1 a2 a3=>upB p q a1 a2 (xbf a3 hb2)) (xbb hb2 hbz);have ma:∀x∈((arrOf st).extract (sa+k) sb).toList,x∈a₀.toList:=fun x hx=>by
    obtain ⟨q,q1,q2,e⟩:=zev hx;obtain ⟨x',e',m'⟩:=inA q (xhg q2 bs);rw[e] at e';cases e';exact m'
   have mb:∀x∈((arrOf st).extract sb (sb+nb')).toList,x∈a₀.toList:=fun x hx=>by
    obtain ⟨q,q1,q2,e⟩:=zev hx;obtain ⟨x',e',m'⟩:=inA q (xbf q2 (xbb hb2 hz));rw[e] at e';cases e';exact m'
   have sx:((arrOf st).extract (sa+k) sb).size=sb - (sa+k):=by rw[Array.size_extract,xel hez]
   have sy:((arrOf st).extract sb (sb+nb')).size=nb':=by rw[Array.size_extract,xel (xbb hb2 hbz),xcq]
   have fst:∀y,((arrOf st).extract sb (sb+nb')).toList[0]?=some y->∀x∈((arrOf st).extract (sa+k) sb).toList,R y<=R x:=fun y hy x hx=>by
    rw[zwd (by rw[xcq];exact hn1),xhx,e0] at hy;cases hy;obtain ⟨q,q1,q2,e⟩:=zev hx;have q0:=xbb (xbr _ _) q1;have:=c1.2.2 (q - sa) (xdz q1) (xde q0 (xfg q2 hsb));rw[xce q0,zca e] at this;exact xbp this
   have lst:∀x,((arrOf st).extract (sa+k) sb).toList[sb - (sa+k) - 1]?=some x->∀y∈((arrOf st).extract sb (sb+nb')).toList,R y<=R x:=fun x hx y hy=>by
    rw[zwd (xgw (xeu hk2) Nat.one_pos),show sa+k+(sb - (sa+k) - 1)=sb - 1 from by rw[← Nat.add_sub_assoc (xeu hk2),xce (xbp hk2)],el] at hx;cases hx;obtain ⟨q,q1,q2,e⟩:=zev hy;have:=c2.2.1 (q - sb) (xde q1 q2);rw[xce q1,zca e] at this;exact xbp this
   have post:∀m st2,SmG st st2\/True->Fin R ((arrOf st).extract (sa+k) sb).toList ((arrOf st).extract sb (sb+nb')).toList m->Mg R (arrOf st) (m.toList.zipIdx.foldl (fun a p=>a.setIfInBounds (sa+k+p.2) p.1) (arrOf st)) sa (sb+nb):=fun m _ _ f =>
    znk (xbr _ _) hbz hk2 hb2 hn1 upA upB e0 el c1' c2' f
   by_cases d3:na - k<=nb'
   ·rw[if_pos d3];refine xbi (zms O b.kind ma mb ⟨oa,ob,fun x hx=>lst x (by rw[xbq,sx] at hx;exact hx)⟩ (by show 1<=((arrOf st).extract (sa+k) sb).size;rw[sx];exact xeu hk2) (by show 1<=((arrOf st).extract sb (sb+nb')).size;rw[sy];exact hn1) fst fun m st2 sg f=>?_);have mg:=post m st2 (.inr trivial) f;refine xbi (xfx (xbi (xgt ?_)));have a2:arrOf st2=arrOf st:=sg.arr;have f2:failedOf st2=none:=sg.failed.trans b.failed;refine xbj (?_:Q ((failedOf st2).isNone) (setArr st2 (m.toList.zipIdx.foldl (fun a p=>a.setIfInBounds (sa+k+p.2) p.1) (arrOf st2))));rw[f2,a2];exact h _ ⟨mg.perm.trans b.perm,sg.kind.trans b.kind,f2⟩ sg.pend mg.out mg.up
   ·rw[if_neg d3];refine xbi (zmt O b.kind ma mb ⟨oa,ob,fst⟩ (by show 1<=((arrOf st).extract (sa+k) sb).size;rw[sx];exact xeu hk2) (by show 1<=((arrOf st).extract sb (sb+nb')).size;rw[sy];exact hn1) (fun x hx=>lst x (by rw[sx] at hx;exact hx)) fun m st2 sg f=>?_);have mg:=post m st2 (.inr trivial) f;refine xbi (xfx (xbi (xgt ?_)));have a2:arrOf st2=arrOf st:=sg.arr;have f2:failedOf st2=none:=sg.failed.trans b.failed;refine xbj (?_:Q ((failedOf st2).isNone) (setArr st2 (m.toList.zipIdx.foldl (fun a p=>a.setIfInBounds (sa+k+p.2) p.1) (arrOf st2))));rw[f2,a2];exact h _ ⟨mg.perm.trans b.perm,sg.kind.trans b.kind,f2⟩ sg.pend mg.out mg.up
end
def Segs (R:Keyed->Nat) (xs:Array Keyed):Nat->List (Nat × Nat × Nat)->Nat->Prop
 | s,[],e=>s=e
 | s,p::r,e=>p.1=s/\1<=p.2.1/\UpA R xs s (s+p.2.1)/\Segs R xs (s+p.2.1) r e
section
variable {R:Keyed->Nat} {xs ys:Array Keyed}
theorem Segs.le:∀{l:List (Nat × Nat × Nat)} {s e:Nat},Segs R xs s l e->s+l.length<=e
 | [],s,e,h=>by cases h;simp
 | p::r,s,e,h=>by
  have:=Segs.le h.2.2.2;have:=h.2.1;simp;lia
theorem Segs.append:∀{l m:List (Nat × Nat × Nat)} {s e:Nat},Segs R xs s (l++m) e↔∃k,Segs R xs s l k/\Segs R xs k m e
 | [],m,s,e=>⟨fun h=>⟨s,rfl,h⟩,fun ⟨k,h1,h2⟩=>by cases h1;exact h2⟩
 | p::r,m,s,e=>by
  constructor
  ·rintro ⟨h1,h2,h3,h4⟩;obtain ⟨k,g1,g2⟩:=Segs.append.mp h4;exact ⟨k,⟨h1,h2,h3,g1⟩,g2⟩
  ·rintro ⟨k,⟨h1,h2,h3,h4⟩,g2⟩;exact ⟨h1,h2,h3,Segs.append.mpr ⟨k,h4,g2⟩⟩
theorem UpA.same {a b:Nat} (h:UpA R xs a b) (e:∀i,a<=i->i < b->ys[i]?=xs[i]?):UpA R ys a b:=fun i j a1 a2 a3=>by
 rw[zbw (e i a1 (xcr a2 a3)),zbw (e j (xbb a1 a2) a3)];exact h i j a1 a2 a3
theorem Segs.same:∀{l:List (Nat × Nat × Nat)} {s e:Nat},Segs R xs s l e->(∀i,s<=i->i < e->ys[i]?=xs[i]?)->Segs R ys s l e
 | [],s,e,h,_=>h
 | p::r,s,e,h,k=>by
  have:=Segs.le h.2.2.2;exact ⟨h.1,h.2.1,h.2.2.1.same fun i a1 a2=>k i a1 (xbf a2 (xbb (xbr _ _) this)),Segs.same h.2.2.2 fun i a1 a2=>k i (xbb (xbr _ _) a1) a2⟩
theorem Segs.power {s e:Nat}:∀{l m:List (Nat × Nat × Nat)},l.map (fun p=>(p.1,p.2.1))=m.map (fun p=>(p.1,p.2.1))->Segs R xs s l e->Segs R xs s m e:=by
 intro l
 induction l generalizing s with
 | nil=>intro m h k;cases m with
  | nil=>exact k
  | cons=>cases h
 | cons p r ih=>intro m h k;cases m with
  | nil=>cases h
  | cons q t =>
   rw[xbw,xbw] at h;obtain ⟨h1,h2⟩:=List.cons.inj h;obtain ⟨g1,g2⟩:=Prod.mk.inj h1;obtain ⟨k1,k2,k3,k4⟩:=k;rw[g2] at k2 k3 k4;exact ⟨g1.symm.trans k1,k2,k3,ih h2 k4⟩
end
section
variable {prog:Program} {w:World} {A:Around} {E:Value->Shared->Prop} {s:Shared} {κ:SortKind} {a₀:Array Keyed} {R:Keyed->Nat}
theorem zrm {l:List (Nat × Nat × Nat)} {i:Nat} (h:i+1 < l.length):∃pre p q post,l=pre++p::q::post/\pre.length=i:=by
 refine ⟨l.take i,l[i],l[i+1],l.drop (i+2),?_,by rw[xee];exact xel (xbp (xeh h))⟩
 conv=>lhs;rw[← xea i l,xfi (xeh h),xfi h]
theorem w_at {i e:Nat} {st:SortSt} {Q:Bool->SortSt->Prop} (O:Orc prog w A s κ a₀ R) (b:B κ a₀ st) (sg:Segs R (arrOf st) 0 (pendingOf st).toList e) (he:e<=a₀.size) (hi:i+1 < (pendingOf st).size)
  (h:∀st',B κ a₀ st'->Segs R (arrOf st') 0 (pendingOf st').toList e->(pendingOf st').size+1=(pendingOf st).size->(∀k,e<=k->(arrOf st')[k]?=(arrOf st)[k]?)->Q true st'):wpS (model prog w) A E s (mergeAt' i) Q st:=by
 obtain ⟨pre,p,q,post,el,hl⟩:=zrm (l:=(pendingOf st).toList) (i:=i) (by simpa using hi);obtain ⟨sa,na,pw⟩:=p;obtain ⟨sb,nb,pw'⟩:=q;rw[el] at sg;obtain ⟨k,g1,g2⟩:=Segs.append.mp sg;obtain ⟨h1,h2,h3,h4,h5,h6,h7⟩:=g2;dsimp only at h1 h2 h3 h4 h5 h6 h7;subst h1;have l7:=Segs.le h7;have l1:=Segs.le g1;have p1:(pendingOf st)[i]?=some (sa,na,pw):=by rw[← xbs,el,xch (xcu hl),hl,xjh];rfl
 have p2:(pendingOf st)[i+1]?=some (sb,nb,pw'):=by rw[← xbs,el,xch (xbb (xcu hl) (xbr i 1)),hl,xcq];rfl
 refine zmu O b p1 p2 h4 h2 h5 (by lia) (by rw[h4];exact h3) (by rw[h4];exact h6) fun st' b' pe ou up=>?_
 have pl:(pendingOf st').toList=pre++(sa,na+nb,pw)::post:=by
  rw[pe];rw[Array.toList_eraseIdxIfInBounds,Array.toList_setIfInBounds,el];rw[List.set_append_right _ _ (xcu hl),hl,xjh,xjw,List.eraseIdx_append_of_length_le (xbb (xcu hl) (xbr i 1)),hl,xcq]
  rfl
 have keep:∀j,j < sa\/sb+nb<=j->(arrOf st')[j]?=(arrOf st)[j]?:=ou
 refine h st' b' ?_ ?_ fun j hj=>keep j (.inr (by lia))
 ·rw[pl];refine Segs.append.mpr ⟨sa,g1.same fun j a1 a2=>keep j (.inl a2),rfl,by show 1<=na+nb;lia,?_,?_⟩
  ·show UpA R (arrOf st') sa (sa+(na+nb));rw[show sa+(na+nb)=sb+nb by lia];exact up
  ·show Segs R (arrOf st') (sa+(na+nb)) post e;rw[show sa+(na+nb)=sa+na+nb by lia];exact h7.same fun j a1 a2=>keep j (.inr (by lia))
 ·have e1:(pendingOf st').size=(pendingOf st').toList.length:=by simp
  have e2:(pendingOf st).size=(pendingOf st).toList.length:=by simp
  rw[e1,e2,pl,el];simp only[xcd,xcb];lia
theorem zbad {c:Prop} [Decidable c] {a b n:Nat} (h1:a+1 < n) (h2:b+1 < n):(if c then a else b)+1 < n:=by split<;>assumption
theorem zph {g:Nat × Nat × Nat->Nat × Nat} {f:Nat × Nat × Nat->Nat × Nat × Nat} (h:∀x,g (f x)=g x):∀(l:List (Nat × Nat × Nat)) (i:Nat),(l.modify i f).map g=l.map g
 | [],i=>by simp
 | x::l,0=>by simp[h]
 | x::l,i+1=>by simp[zph h l i]
theorem Segs.mod {xs:Array Keyed} {s e:Nat} {l:List (Nat × Nat × Nat)} (h:Segs R xs s l e) (i c:Nat):Segs R xs s (l.modify i fun x=>(x.1,x.2.1,c)) e :=
 h.power (zph (g:=fun p=>(p.1,p.2.1)) (f:=fun x=>(x.1,x.2.1,c)) (fun _=>rfl) l i).symm
theorem zyl {st:SortSt} {Q:Unit->SortSt->Prop} (O:Orc prog w A s κ a₀ R) (b:B κ a₀ st) (pe:pendingOf st=#[]) (h2:2<=a₀.size)
  (h:∀st',B κ a₀ st'->UpA R (arrOf st') 0 a₀.size->Q () st'):wpS (model prog w) A E s sortRuns' Q st:=by
 have hz:=b.size;rw[sortRuns'_eq];refine xbi (xgt ?_);dsimp only;rw[hz]
 refine xbi (xep (xdd (I:=fun x c st'=>∃lo,c=(none,lo)/\B κ a₀ st'/\Segs R (arrOf st') 0 (pendingOf st').toList lo/\lo<=a₀.size/\x<=lo)
  (Q:=fun c st'=>c=(none,a₀.size)/\B κ a₀ st'/\Segs R (arrOf st') 0 (pendingOf st').toList a₀.size) ?_ ?_ ⟨0,rfl,b,by rw[pe];rfl,by lia,by lia⟩) ?_)
 ·rintro x c st1 x1 x2 ⟨lo,rfl,b1,sg1,hlo,hx⟩;dsimp only;by_cases c1:lo ≥ a₀.size
  ·rw[if_pos c1];have:lo=a₀.size:=by lia
   subst this;exact xbj ⟨rfl,b1,sg1⟩
  rw[if_neg c1];refine xbi (ztm O b1 (by lia) (by lia) fun m st2 m1 m2 b2 sm2 up2=>?_);dsimp only;have sg2:Segs R (arrOf st2) 0 (pendingOf st2).toList lo:=by
   rw[sm2.pend];exact sg1.same fun i a1 a2=>sm2.out i (.inl a2)
  by_cases c2:m < minRun' a₀.size a₀.size 0
  ·rw[if_pos c2];refine xbi (xja (xgg ⟨rfl,?_⟩));refine xbi (zbdh O b2 (by lia) m1 (by lia) up2 fun st3 b3 sm3 up3=>?_);have sg3:Segs R (arrOf st3) 0 (pendingOf st3).toList lo:=by
    rw[sm3.pend];exact sg2.same fun i a1 a2=>sm3.out i (.inl a2)
   have hn1:1<=min (a₀.size - lo) (minRun' a₀.size a₀.size 0):=by lia
   have hn2:lo+min (a₀.size - lo) (minRun' a₀.size a₀.size 0)<=a₀.size:=by lia
   simp only[Bool.not_true,xdk,xfl];generalize min (a₀.size - lo) (minRun' a₀.size a₀.size 0)=n at up3 hn1 hn2 sm3 ⊢;refine xbi (xgt ?_);cases hb:(pendingOf st3).back? with
   | none =>
    dsimp only;refine xbi (xfx (xbj ⟨lo+n,rfl,⟨b3.perm,b3.kind,b3.failed⟩,?_,hn2,by lia⟩));show Segs R (arrOf st3) 0 ((pendingOf st3).push (lo,n,0)).toList (lo+n);rw[xdx];exact Segs.append.mpr ⟨lo,sg3,rfl,hn1,up3,rfl⟩
   | some p =>
    obtain ⟨s1,n1,p1⟩:=p;dsimp only;refine xbi (xep (xdd (I:=fun _ c st'=>c=(none,())/\B κ a₀ st'/\Segs R (arrOf st') 0 (pendingOf st').toList lo/\UpA R (arrOf st') lo (lo+n)) (Q:=fun c st'=>c=(none,())/\B κ a₀ st'/\Segs R (arrOf st') 0 (pendingOf st').toList lo/\UpA R (arrOf st') lo (lo+n)) ?_ (fun _ _ hh=>hh) ⟨rfl,b3,sg3,up3⟩) ?_)
    ·rintro x' c st4 _ _ ⟨rfl,b4,sg4,up4⟩;refine xbi (xgt ?_);by_cases hs:(pendingOf st4).size > 1
     ·rw[if_pos hs,getElem?_pos (pendingOf st4) ((pendingOf st4).size - 2) (by lia)];obtain ⟨s2,n2,p2⟩:=(pendingOf st4)[(pendingOf st4).size - 2]'(by lia);dsimp only;split
      ·exact xbj ⟨rfl,b4,sg4,up4⟩
      ·refine xbi (w_at O b4 sg4 hlo (by lia) fun st5 b5 sg5 _ k5=>?_);exact xbj ⟨rfl,b5,sg5,up4.same fun i a1 a2=>k5 i a1⟩
     ·rw[if_neg hs];exact xbj ⟨rfl,b4,sg4,up4⟩
    ·rintro c st4 ⟨rfl,b4,sg4,up4⟩;dsimp only;refine xbi (xfx (xbi (xfx (xbj ⟨lo+n,rfl,⟨b4.perm,b4.kind,b4.failed⟩,?_,hn2,by lia⟩))));refine (?_:Segs R (arrOf st4) 0 (((pendingOf st4).modify ((pendingOf st4).size - 1) fun x=>(x.1,x.2.1,_)).push (lo,n,0)).toList (lo+n));rw[xdx,Array.toList_modify];exact Segs.append.mpr ⟨lo,sg4.mod _ _,rfl,hn1,up4,rfl⟩
  ·rw[if_neg c2];have b3:=b2;have sg3:=sg2;have up3:=up2;have hn1:=m1;have hn2:lo+m<=a₀.size:=by lia
   generalize st2=st3 at b3 sg3 up3 ⊢;generalize m=n at up3 hn1 hn2 ⊢;refine xbi (xgt ?_);cases hb:(pendingOf st3).back? with
   | none =>
    dsimp only;refine xbi (xfx (xbj ⟨lo+n,rfl,⟨b3.perm,b3.kind,b3.failed⟩,?_,hn2,by lia⟩));show Segs R (arrOf st3) 0 ((pendingOf st3).push (lo,n,0)).toList (lo+n);rw[xdx];exact Segs.append.mpr ⟨lo,sg3,rfl,hn1,up3,rfl⟩
   | some p =>
    obtain ⟨s1,n1,p1⟩:=p;dsimp only;refine xbi (xep (xdd (I:=fun _ c st'=>c=(none,())/\B κ a₀ st'/\Segs R (arrOf st') 0 (pendingOf st').toList lo/\UpA R (arrOf st') lo (lo+n)) (Q:=fun c st'=>c=(none,())/\B κ a₀ st'/\Segs R (arrOf st') 0 (pendingOf st').toList lo/\UpA R (arrOf st') lo (lo+n)) ?_ (fun _ _ hh=>hh) ⟨rfl,b3,sg3,up3⟩) ?_)
    ·rintro x' c st4 _ _ ⟨rfl,b4,sg4,up4⟩;refine xbi (xgt ?_);by_cases hs:(pendingOf st4).size > 1
     ·rw[if_pos hs,getElem?_pos (pendingOf st4) ((pendingOf st4).size - 2) (by lia)];obtain ⟨s2,n2,p2⟩:=(pendingOf st4)[(pendingOf st4).size - 2]'(by lia);dsimp only;split
      ·exact xbj ⟨rfl,b4,sg4,up4⟩
      ·refine xbi (w_at O b4 sg4 hlo (by lia) fun st5 b5 sg5 _ k5=>?_);exact xbj ⟨rfl,b5,sg5,up4.same fun i a1 a2=>k5 i a1⟩
     ·rw[if_neg hs];exact xbj ⟨rfl,b4,sg4,up4⟩
    ·rintro c st4 ⟨rfl,b4,sg4,up4⟩;dsimp only;refine xbi (xfx (xbi (xfx (xbj ⟨lo+n,rfl,⟨b4.perm,b4.kind,b4.failed⟩,?_,hn2,by lia⟩))));refine (?_:Segs R (arrOf st4) 0 (((pendingOf st4).modify ((pendingOf st4).size - 1) fun x=>(x.1,x.2.1,_)).push (lo,n,0)).toList (lo+n));rw[xdx,Array.toList_modify];exact Segs.append.mpr ⟨lo,sg4.mod _ _,rfl,hn1,up4,rfl⟩
 ·rintro c st1 ⟨lo,rfl,b1,sg1,hlo,hx⟩;have:lo=a₀.size:=by lia
  subst this;exact ⟨rfl,b1,sg1⟩
 ·rintro c st1 ⟨rfl,b1,sg1⟩;dsimp only
  refine xbi (xep (xdd (I:=fun x c st'=>c=(none,())/\B κ a₀ st'/\Segs R (arrOf st') 0 (pendingOf st').toList a₀.size/\(pendingOf st').size+x<=a₀.size)
   (Q:=fun c st'=>c=(none,())/\B κ a₀ st'/\Segs R (arrOf st') 0 (pendingOf st').toList a₀.size/\(pendingOf st').size<=1) ?_ ?_ ⟨rfl,b1,sg1,by have:=sg1.le;simp at this;lia⟩) ?_)
  ·rintro x c st2 x1 x2 ⟨rfl,b2,sg2,hp⟩;refine xbi (xgt ?_);by_cases c1:(pendingOf st2).size<=1
   ·rw[if_pos c1];exact xbj ⟨rfl,b2,sg2,c1⟩
   rw[if_neg c1];refine xbi (w_at O b2 sg2 (xbe _) ?_ fun st3 b3 sg3 p3 _=>xbj ⟨rfl,b3,sg3,by lia⟩);exact zbad (by lia) (by lia)
  ·rintro c st2 ⟨rfl,b2,sg2,hp⟩;exact ⟨rfl,b2,sg2,by lia⟩
  ·rintro c st2 ⟨rfl,b2,sg2,hp⟩;refine xbj (h st2 b2 ?_);cases hl:(pendingOf st2).toList with
   | nil=>rw[hl] at sg2;have:0=a₀.size:=sg2;lia
   | cons p r =>
    have:r=[]:=by
     have e2:(pendingOf st2).size=(pendingOf st2).toList.length:=by simp
     rw[e2,hl,xcb] at hp;exact List.length_eq_zero_iff.mp (by lia)
    subst this;rw[hl] at sg2;obtain ⟨_,_,g3,g4⟩:=sg2;have g4':0+p.2.1=a₀.size:=g4;rw[g4'] at g3;exact g3
end
end TS
namespace Srt
open PySem PySem.W PyProof.Rows
theorem zji {α β:Type} (f:α->β):∀{l m':List β},l.Perm m'->∀m:List α,m'=m.map f->∃p:List α,p.Perm m/\l=p.map f:=by
 intro l m' h
 induction h with
 | nil=>exact fun m e=>⟨[],by rw[List.map_eq_nil_iff.mp e.symm],rfl⟩
 | cons x _ ih =>
  intro m e;cases m with
  | nil=>cases e
  | cons y m =>
   rw[xbw] at e;injection e with e1 e2
   obtain ⟨p,p1,p2⟩:=ih m e2;exact ⟨y::p,p1.cons y,by rw[xbw,← p2,e1]⟩
 | swap x y l =>
  intro m e
  match m,e with
  | a::b::m,e =>
   rw[xbw,xbw] at e;injection e with e1 e2
   injection e2 with e2 e3
   exact ⟨b::a::m,.swap _ _ _,by rw[xbw,xbw,e1,e2,e3]⟩
 | trans _ _ ih1 ih2 =>
  intro m e;obtain ⟨p,p1,p2⟩:=ih2 m e;obtain ⟨q,q1,q2⟩:=ih1 p p2;exact ⟨q,q1.trans p1,q2⟩
def Coh (r:Nat->Nat) (xs:List Value):Prop:=∀i j,i < xs.length->j < xs.length->xs.getD i Value.none=xs.getD j Value.none->r i=r j
open Classical in
noncomputable def rankV (r:Nat->Nat) (xs:List Value) (x:Keyed):Nat:=if h:∃i,i < xs.length/\xs.getD i Value.none=x.1 then r h.choose else 0
theorem zhh {r:Nat->Nat} {xs:List Value} (coh:Coh r xs) {x:Keyed} {i:Nat} (hi:i < xs.length) (e:xs.getD i Value.none=x.1):rankV r xs x=r i:=by
 have h:∃i,i < xs.length/\xs.getD i Value.none=x.1:=⟨i,hi,e⟩
 unfold rankV;rw[dif_pos h];exact coh _ _ h.choose_spec.1 hi (h.choose_spec.2.trans e.symm)
theorem zjz (xs:List Value):(xs.toArray.zip xs.toArray).toList=(List.range xs.length).map fun i=>((xs.getD i Value.none,xs.getD i Value.none):Keyed):=by
 rw[Array.toList_zip];apply xiw
 ·simp
 ·intro i h1 h2;have h3:i < xs.length:=by simpa using h2
  simp[xbk,h3]
section
variable {P:Program} {w:World} {B:Around} {E:Value->Shared->Prop} {st:Shared}
theorem zrl {r:Nat->Nat} {xs:List Value} {κ:SortKind} {sg:Shared} (h2:2<=xs.length) (coh:Coh r xs)
  (cmp:∀i j C,i < xs.length->j < xs.length->C (lt r i j) sg->kas_ask P w B κ xs i j C sg) :
  wpAny (model P w) B ((sortRuns').run (SortSt.mk' κ (xs.toArray.zip xs.toArray) #[] 7 none)) (fun y z=>∃p:Array Nat,(p.Perm (List.toArray (List.range xs.length))/\Up r p xs.length)/\(arrOf y.2).map (·.2)=outOf xs p/\failedOf y.2=none/\z=sg) E sg:=by
 have sz:(xs.toArray.zip xs.toArray).size=xs.length:=by simp
 have O:TS.Orc P w B sg κ (xs.toArray.zip xs.toArray) (rankV r xs):=fun x hx y hy C hC=>by
  rw[zjz] at hx hy;obtain ⟨i,hi,rfl⟩:=xcp.mp hx;obtain ⟨j,hj,rfl⟩:=xcp.mp hy;rw[xco] at hi hj;rw[zhh coh hi rfl,zhh coh hj rfl] at hC;exact cmp i j C hi hj hC
 have run:=TS.zyl (E:=E) (Q:=fun _ y=>∃p:Array Nat,(p.Perm (List.toArray (List.range xs.length))/\Up r p xs.length)/\(arrOf y).map (·.2)=outOf xs p/\failedOf y=none) O (st:=SortSt.mk' κ (xs.toArray.zip xs.toArray) #[] 7 none) ⟨.refl _,rfl,rfl⟩ rfl (by rw[sz];exact h2) fun y b up=>by
  obtain ⟨l,l1,l2⟩:=zji (fun i=>((xs.getD i Value.none,xs.getD i Value.none):Keyed)) (xeg.mp b.perm) _ (zjz xs);have ll:l.length=xs.length:=by rw[l1.length_eq,xfo]
  have mem:∀k,(hk:k < l.length)->l[k] < xs.length:=fun k hk=>xco.mp (l1.mem_iff.mp (xdm hk))
  have key:∀k,k < xs.length->TS.kA (rankV r xs) (arrOf y) k=At r l.toArray k:=fun k hk=>by
   have hk':k < l.length:=by lia
   have e:(arrOf y)[k]?=some (xs.getD l[k] Value.none,xs.getD l[k] Value.none):=by
    rw[← xbs,l2,xcl,xbg hk']
    rfl
   rw[TS.zca e,zhh coh (mem k hk') rfl];unfold At;simp[hk']
  refine ⟨l.toArray,⟨?_,fun i j hij hj=>?_⟩,?_,b.failed⟩
  ·exact xeg.mpr (by simpa using l1)
  ·rw[← key i (by lia),← key j hj];exact up i j (xec _) hij (by rw[sz];exact hj)
  ·unfold outOf;apply Array.toList_inj.mp;rw[Array.toList_map,l2,xdc]
   rfl
 exact xdq run (fun y z hz=>by
  obtain ⟨rfl,p,a,b,c⟩:=hz
  exact ⟨p,a,b,c,rfl⟩) fun _ _ x=>x
theorem zfz (r : Nat -> Nat) {d : Addr} {xs : List Value} {k : Nat} {W : Fin -> Shared -> Prop} (e0 : st.heap.get? d = some (seqObj "list" xs.toArray k)) (few : xs.length <= sizeLine) (coh : Coh r xs)
  (ask:2<=xs.length->Answers P w B r xs {st with heap:=midHeap st.heap d xs})
  (fin:∀p:Array Nat,p.Perm (List.toArray (List.range xs.length))->Up r p xs.length->W (.done (.ret .none)) {st with heap:=sortedHeap st.heap d xs (outOf xs p)}) :
  wpAny (model P w) B (Builtin.«list.sort» ⟨[.ref d],[]⟩) W E st:=by
 obtain ⟨c, ec⟩ : ∃ c, (st.heap.update d (Obj.mapSeq fun _ => (#[] : Array Value))).get? d = some (seqObj "list" #[] c) := ⟨_, get?_update_seq e0 fun _ => #[]⟩
 have em : (midHeap st.heap d xs).get? d = some (seqObj "list" #[] c) := xbh _ (xbh _ ec)
 have szs:xs.toArray.size=xs.length:=xbm;rw[list_sort_plain];refine xba (listItems_at e0 rfl (xba (listUpdate_at e0 rfl (xba (seqEpoch_at ec rfl (xba (wpAny_newTuple (xba (wpAny_newList (xds ?_) (xec _))) (few))))) (by rw[szs];exact few) (xec _))));show wpAny (model P w) B _ W E {st with heap:=midHeap st.heap d xs};dsimp only;by_cases two:xs.toArray.size < 2
 ·rw[if_pos two,if_pos two];rw[szs] at two;have eo:((arrOf (SortSt.mk' general' (xs.toArray.zip xs.toArray) #[] 7 none)).map (·.2))=outOf xs (List.toArray (List.range xs.length)):=zmz two
  refine xba (xbc (by
   rw[StateT.run_pure];refine xba (xbc (xba (seqEpoch_at em rfl (xba (listUpdate_at em rfl ?_ (xec _) ?_)))))
   ·rw[if_neg (by simp)];refine xbc ?_;rw[eo];exact fin _ (.refl _) fun i j hij hj=>xcu (congrArg (At r _) (by lia))
   ·rw[eo];refine xfn (xbb (xcu ?_) (few));unfold outOf
    simp))
 ·rw[if_neg two,if_neg two];rw[szs] at two;obtain ⟨κ,kd,cmp⟩:=ask (by lia);refine xba (xdq (kd (fun κ' z=>κ'=κ/\z={st with heap:=midHeap st.heap d xs}) ⟨rfl,rfl⟩) (fun κ' z hz=>?_) fun _ _ x=>x.elim);obtain ⟨rfl,rfl⟩:=hz;have run:=zrl (E:=E) (r:=r) (xs:=xs) (κ:=κ') (sg:={st with heap:=midHeap st.heap d xs}) (by lia) coh cmp;refine xba (xdq run (fun yy z hz=>?_) fun _ _ x=>x);obtain ⟨⟨⟩,y⟩:=yy;obtain ⟨p,hp,ho,hf,rfl⟩:=hz;dsimp only at ho hf ⊢;refine xba (seqEpoch_at em rfl (xba (listUpdate_at em rfl ?_ (xec _) ?_)))
  ·rw[hf,if_neg (by simp),ho];exact xbc (fin p hp.1 hp.2)
  ·rw[ho];refine xfn (xbb (xcu ?_) (few));unfold outOf;rw[xbm,xbd,xbq,hp.1.size_eq];simp
theorem zhc (r:Nat->Nat) {d:Addr} {xs:List Value} {W:Value->Shared->Prop} (isl:st.heap.IsList d xs.toArray) (few:xs.length<=sizeLine) (coh:Coh r xs)
  (ask:2<=xs.length->∀g:Heap,(∀b ob,st.heap.get? b=some ob->g.get? b=some ob)->Answers P w B.in1.in1 r xs {st with heap:=g})
  (fin:∀p:Array Nat,p.Perm (List.toArray (List.range xs.length))->Up r p xs.length->W (.ref (st.heap.objs.size+1)) {st with heap:=sortedAll st.heap xs (outOf xs p)}) :
  wpAny (model P w) B (call (.builtin "sorted") [.ref d]) W E st := by
 let g0 : Heap := (st.heap.push (seqObj "list" #[] 0)).update st.heap.objs.size (Obj.mapSeq (· ++ xs.toArray))
 have sz:g0.objs.size=st.heap.objs.size+1:=(Heap.size_update ..).trans (size_push' _ _);have new : (g0.push (seqObj "list" xs.toArray 0)).get? (st.heap.objs.size + 1) = some (seqObj "list" xs.toArray 0) := by
  have z := xbt g0 (o := seqObj "list" xs.toArray 0) rfl
  rw[sz] at z;exact z
 have old : ∀ b ob, st.heap.get? b = some ob -> (g0.push (seqObj "list" xs.toArray 0)).get? b = some ob := fun b ob e => by
  have lt:=xbl e;exact xbh _ ((Heap.get?_update_ne _ _ _ _ (xbv lt)).trans (xbh _ e))
 have ar : argsOk "sorted" ⟨[.ref d], []⟩ := args_sorted1 _
 refine Calls.call_function_entry kind_sorted plain_sorted entry_sorted ar ?_;unfold Builtin.«sorted»;refine xba (m := checkCount "sorted" 1 1 _) (xbc (xba (collect_list isl (xba (wpAny_newList ?_ (few))) (few))))
 show wpAny _ _ _ _ _ { st with heap := g0.push (seqObj "list" xs.toArray 0) }
 have esz:(Value.ref g0.objs.size)=Value.ref (st.heap.objs.size+1):=by rw[sz]
 rw [show ((st.heap.push (seqObj "list" #[] 0)).update st.heap.objs.size (Obj.mapSeq (· ++ xs.toArray))).objs.size = st.heap.objs.size + 1 from sz]
 refine xba (xds (xdw slot_list_sort ⟨_, new, rfl⟩ entry_list_sort (zfz r (st := { st with heap := g0.push (seqObj "list" xs.toArray 0) }) new few coh (fun two => ?_) fun p p1 p2 => ⟨_, rfl, xbc ⟨_, rfl, fin p p1 p2⟩⟩) (args_list_sort _)))
 exact ask two _ fun b ob e=>zeu (xbv (xev (xbl e))) (old b ob e)
theorem zep {T:String} {a d:Addr} {n:Nat} {It:Nat->Value->Prop} {OK:Heap->Prop} (S:KdlSrc P w T a d n It OK) (hh:B.handled=none) (ok:OK st.heap) (few:n<=sizeLine) {W:Value->Shared->Prop}
  (ask:∀xs:List Value,xs.length=n->(∀(j:Nat) (v:Value),xs[j]?=some v->It j v)->∃r:Nat->Nat,Coh r xs/\(2<=n->∀(g:Heap) (tk:Nat),(∀b ob,st.heap.get? b=some ob->g.get? b=some ob)->Answers P w B.in1.in1 r xs {st with heap:=g,toks:=tk}) /\
   ∀ (p : Array Nat) (q : Addr) (g : Heap) (tk c : Nat), p.Perm (List.toArray (List.range xs.length)) -> Up r p xs.length -> (∀ b ob, st.heap.get? b = some ob -> g.get? b = some ob) -> (∀ b ob, st.heap.get? b = some ob -> b ≠ q) -> g.get? q = some (seqObj "list" (outOf xs p) c) -> W (.ref q) { st with heap := g, toks := tk }) :
  wpAny (model P w) B (call (.builtin "sorted") [.ref a]) W E st := by
 have ar : argsOk "sorted" ⟨[.ref a], []⟩ := args_sorted1 _
 refine Calls.call_function_entry kind_sorted plain_sorted entry_sorted ar ?_;unfold Builtin.«sorted»;refine xba (m := checkCount "sorted" 1 1 _) (xbc (xba (kdu_collect (A := B.in1) S hh ok (few) fun g tk acc keep items => ?_)))
 have len:acc.toList.length=n:=by rw[xbq];exact items.1
 obtain ⟨r,coh,an,fin⟩:=ask acc.toList len (fun j v e=>items.2 j v (by rw[← xbs];exact e));refine xba (wpAny_newList ?_ (by rw[len];exact few));have new : (g.push (seqObj "list" acc.toList.toArray 0)).get? g.objs.size = some (seqObj "list" acc.toList.toArray 0) := xbt g rfl
 have old : ∀ b ob, st.heap.get? b = some ob -> (g.push (seqObj "list" acc.toList.toArray 0)).get? b = some ob := fun b ob e => xbh _ (keep b ob e)
 have lt:∀b ob,st.heap.get? b=some ob->b≠g.objs.size:=fun b ob e=>xbv (xbl (keep b ob e))
 show wpAny _ _ _ _ _ { st with heap := g.push (seqObj "list" acc.toList.toArray 0), toks := tk }
 refine xba (xds (xdw slot_list_sort ⟨_, new, rfl⟩ entry_list_sort (zfz r (st := { st with heap := g.push (seqObj "list" acc.toList.toArray 0), toks := tk }) new (by rw [len]; exact few) coh (fun two => ?_) fun p p1 p2 => ⟨_, rfl, xbc ⟨_, rfl, ?_⟩⟩) (args_list_sort _)))
 ·exact an (by lia) _ tk fun b ob e=>zeu (lt b ob e) (old b ob e)
 ·obtain ⟨c,ec⟩:=sortedHeap_at (n:=0) (vs:=acc.toList) (out:=outOf acc.toList p) new;refine fin p g.objs.size _ tk c p1 p2 (fun b ob e=>?_) ?_ ec
  ·rw[sortedHeap_old (lt b ob e) (xbl (old b ob e))];exact old b ob e
  ·exact lt
end
end Srt
namespace L2
open PySem PySem.Spec PyProof.Rows PySem.W
theorem small10000 {n:Nat} (h:n<=1000000):n<=sizeLine:=xbb h (by rw[xgi];lia)
theorem zex:∀{us:List Value} {a b:List Int},IntsAre us a->IntsAre us b->a=b
 | _,_,_,.nil,.nil=>rfl
 | _,_,_,.cons x t r,.cons _ _ r'=>by rw[zex r r']
theorem zlx {g:Heap} {ps:List (Addr × List Int)} (tup:TupsG g ps):Srt.Coh (Srt.rank (ps.map (·.2))) (ps.map fun p=>Value.ref p.1):=fun i j hi hj e=>by
 rw[xbd] at hi hj;have ei:ps[i]?=some ps[i]:=xbg hi;have ej:ps[j]?=some ps[j]:=xbg hj;rw[zg (fun p:Addr × List Int=>Value.ref p.1) _ ei,zg (fun p:Addr × List Int=>Value.ref p.1) _ ej] at e;injection e with e
 obtain ⟨us,o,n,a1,a2,a3,a4⟩:=tup _ (xdm hi);obtain ⟨us2,o2,n2,b1,b2,b3,b4⟩:=tup _ (xdm hj);rw[e,b2] at a2;injection a2 with a2
 subst a2;rw[b4] at a4;injection a4 with a4 _
 have a5:us2=us:=by simpa using a4
 subst a5;have d:=zex a1 b1;unfold Srt.rank;rw[zg (fun p:Addr × List Int=>p.2) _ ei,zg (fun p:Addr × List Int=>p.2) _ ej,d]
def rSortedAL (K:Fg):List V->Hp->VK->Prop:=fun xs H Q=>∃(l:Addr) (ps:List (Addr × List Int)),xs=[.ref l]/\SqL K H l (ps.map fun p=>V.ref p.1)/\ps.length<=1000000/\TupsAt K H ps /\
 ∀(q:Addr) (qs:List (Addr × List Int)),H q=none->qs.Perm ps->(qs.map (·.2)).Pairwise (fun a b=>HT.lexLt b a=false)->Q (.ref q) (upd H q (.lst (qs.map fun p=>V.ref p.1)))
def rSortedDAL:List V->Hp->VK->Prop:=fun xs H Q=>∃(a:Addr) (kvs:List (List Key × V)) (ks:List (List Int)),xs=[.ref a]/\Rd H a (.dT kvs)/\kvs.map (·.1)=ks.map (fun ns=>ns.map Sum.inl)/\ks.length<=1000000 /\
 ∀(q:Addr) (qs:List (Addr × List Int)),H q=none->(qs.map (·.2)).Perm ks->(qs.map (·.2)).Pairwise (fun x y=>HT.lexLt y x=false)->(∀p∈qs,H p.1=some (.tup (p.2.map V.int)))->Q (.ref q) (upd H q (.lst (qs.map fun p=>V.ref p.1)))
section
variable {X:Cx}
theorem zgw (hu : X.A.units + 64 < cLine) : CallR X (.builtin "sorted") (rSortedAL X.K) := by
 intro pins s σ H xs us Q I r h;obtain ⟨l,ps,rfl,hl,h64,ht,q⟩:=h;obtain ⟨u,rfl,ru⟩:=vals1 r;cases ru;obtain ⟨its,rv,pl,hz⟩:=I.list hl;have eits:its=ps.map fun p=>Value.ref p.1:=by
  have e:(ps.map fun p=>V.ref p.1)=(ps.map (·.1)).map V.ref:=by rw[xdc];rfl
  rw[e] at rv;rw[zhy rv,xdc]
  rfl
 subst eits;have tup:∀g:Heap,(∀b o,s.heap.get? b=some o->g.get? b=some o)->TupsG g ps:=fun g keep p hp=>by
  obtain ⟨us,rv',⟨o,b2,b3,n,b4⟩,_⟩:=I.tuple (ht p hp);exact ⟨us,o,n,zce rv',keep _ _ b2,b3,b4⟩
 refine Srt.zhc (Srt.rank (ps.map (·.2))) pl.isList (by rw[xbd];exact small10000 h64) (zlx (tup s.heap fun _ _ z=>z)) (fun h2 g keep=>zqa (by show X.A.units+1+1 < cLine;lia) (by rw[xbd] at h2;exact h2) (tup g keep)) (fun p p1 p2=>?_);rw[xbd] at p1 p2;obtain ⟨qs,q1,q2,q3⟩:=zkq p1 p2;obtain ⟨e,he⟩:=sortedAll_at s.heap (ps.map fun p=>Value.ref p.1) (Srt.outOf (ps.map fun p=>Value.ref p.1) p);rw[q3] at he ⊢;refine ⟨.ref (s.heap.objs.size+1),_,I.laid (a:=s.heap.objs.size+1) (o:=.lst (qs.map fun p=>V.ref p.1)) (t':=s.toks) (fun _ _ z=>sortedAll_old z) (xgh _) ⟨?_,_,e,zdn qs,he⟩,rfl,q _ _ (I.hok.fresh (xgh _)) q1 q2⟩;rw[xbd,q1.length_eq];exact small10000 (by lia)
theorem zfu (hc : X.calm = true) (hu : X.A.units + 64 < cLine) : CallR X (.builtin "sorted") rSortedDAL := by
 intro pins s σ H xs us Q I r h;obtain ⟨a,kvs,ks,rfl,hd,ek,few,q⟩:=h;obtain ⟨u,rfl,ru⟩:=vals1 r;cases ru;obtain ⟨z,ns,ys,rel,ob,es,ep,e1,e2,e3,e4,e5⟩:=(show ObjOk X.prog X.w H s.heap a (.dT kvs) from hd.ok I.hok)
 obtain ⟨ps,a1,a2,a3⟩:=zgs (P:=X.prog) (w:=X.w) rel ek;have hpl:ps.length=ks.length:=by rw[← a1,xbd]
 have hes:es.toList.map (·.key)=ps.map fun p=>Value.ref p.1:=by rw[e4,xdc];exact a3
 have hsz:es.size=ps.length:=by
  have:=congrArg List.length hes;rw[xbd,xbd,xbq] at this;exact this
 have tup:∀g:Heap,(∀b o,s.heap.get? b=some o->g.get? b=some o)->TupsG g ps:=fun g keep p hp=>by
  obtain ⟨us,rv,⟨o,b2,b3,n,b4⟩,_⟩:=I.tuple (SqT.of (a2 p hp));exact ⟨us,o,n,zce rv,keep _ _ b2,b3,b4⟩
 refine Srt.zep (Dct.zua ns es ep) (I.ok.hd hc) ⟨ob,e1,e2,e3⟩ (small10000 (by lia)) fun vs hl hv=>?_
 have evs:vs=ps.map fun p=>Value.ref p.1:=by
  rw[← hes];apply xij;intro i;by_cases hi:i < es.size
  ·have h1:vs[i]?=some vs[i]:=xbg (by lia);obtain ⟨en,h2,h3⟩:=hv i _ h1;rw[h1,h3,xcl,xbs,h2]
   rfl
  ·rw[xgb (by lia),xgb (by rw[xbd,xbq];lia)]
 subst evs;refine ⟨Srt.rank (ps.map (·.2)),zlx (tup s.heap fun _ _ z=>z),fun h2 g tk keep=>zqa (by show X.A.units+1+1 < cLine;lia) (by lia) (tup g keep),fun p t g tk c p1 p2 keep ne eg=>?_⟩;rw[xbd] at p1 p2;obtain ⟨qs,q1,q2,q3⟩:=zkq p1 p2;rw[q3] at eg;refine ⟨.ref t,_,I.laidN (o:=.lst (qs.map fun p=>V.ref p.1)) keep ne ⟨?_,_,c,zdn qs,eg⟩,rfl,q t qs (I.away ne) ((q1.map _).trans (by rw[a1])) q2 fun p hp=>a2 p (q1.mem_iff.mp hp)⟩;rw[xbd,q1.length_eq];exact small10000 (by lia)
end
end L2
namespace L2
open PySem PySem.Spec PyProof.Rows
section
variable {prog:Program} {w:World} {κ:Type} [DecidableEq κ] {knd:HeapKind prog w κ} {A:Around} {E:Value->Shared->Prop} {s:Shared} {d a:Addr} {k:κ} {xs:List (κ × Addr × Value)} {p:Addr × Value}
end
section
variable {X:Cx} {pins:List (Addr × Obj)} {σ:St} {H:Hp} {s:Shared} {a b:Addr} {kvs:List (List Key × V)} {k:List Key}
end
section
variable {X:Cx} {o e:Expr} {apos cpos:Pos} {td ty:TE}
end
def rCatA (K:Fg):R2:=fun x y H Q=>∃a b xs ys,x=.ref a/\y=.ref b/\SqT K H a xs/\SqT K H b ys/\xs.length+ys.length<=sizeLine /\
 (xs=[]->Q (.ref b) H)/\(xs≠[]->ys=[]->Q (.ref a) H)/\(xs≠[]->ys≠[]->∀p,H p=none->Q (.ref p) (upd H p (.tup (xs++ys))))
section
variable {X:Cx}
theorem zvc:OpR X (binaryOp .Add) (rCatA X.K):=by
 intro pins s σ H x y v u Q I rx ry h;obtain ⟨a,b,xs,ys,rfl,rfl,ha,hb,hz,q0,q1,q2⟩:=h;by_cases hx:xs=[]
 ·cases rx;cases ry;obtain ⟨its,r1,p1,_⟩:=I.tuple ha;obtain ⟨its2,r2,p2,_⟩:=I.tuple hb;obtain ⟨⟨cls,dd,data,sl⟩,ho,hc,n,hd⟩:=id p1;obtain ⟨⟨cls2,dd2,data2,sl2⟩,ho2,hc2,n2,hd2⟩:=id p2;simp only at hc hd hc2 hd2;subst hc hd hc2 hd2;have e:its=[]:=r1.nil_iff.mpr hx;exact concat_meets ⟨_,ho,rfl⟩ ⟨_,ho2,rfl⟩ noFill_tuple_add seq_tuple_add xio xie (xhw _ _)
   (tuple_addW0 a b its.toArray its2.toArray n n2 dd dd2 sl sl2 (by simp[e])) ⟨ho,ho2,⟨.ref b,H,I,rfl,q0 hx⟩⟩
 ·exact zvb pins s σ H _ _ v u Q I rx ry ⟨a,b,xs,ys,rfl,rfl,ha,hb,hx,hz,fun z=>q1 hx z,fun z=>q2 hx z⟩
end
section
variable {prog:Program} {w:World} {A:Around} {E:Value->Shared->Prop} {s:Shared}
theorem zol {t sl:Addr} {its:Array Value} {vl vu:Value} {lo hi:Option Int} {W:Value->Shared->Prop} (ht:IsTup s.heap t its) (hs:s.heap.IsSliceOf sl vl vu .none) (pl:IsPart vl lo) (pu:IsPart vu hi)
  (h0:HT.sIx its.size 0 lo=0) (h1:HT.sIx its.size its.size hi=its.size) (fin:W (.ref t) s):wpAny (model prog w) A (getItem (.ref t) (.ref sl)) W E s:=by
 obtain ⟨os,hos,hcs,hds⟩:=id hs;unfold getItem
 try with_reducible refine xds ?_
 first | refine xba (xbc ?_) | skip
 refine xba (wpAny_sequenceKey ht.typeIs (by decide) ?_);refine xba (wpAny_callSpecial?_slot (name := Str.ofString "__getitem__") ht.typeIs xib (xdw xib ht.typeIs entry_tuple_getitem ?_ (args_tuple_getitem _ _)))
 show wpAny _ _ (Builtin.Tuple.tupleItemsOf (.ref t) >>= _) _ _ s;refine xba (tupleItemsOf_ ht ?_);have hTs : s.TypeIs (.ref sl) "slice" := ⟨os, hos, hcs⟩
 refine xba (wpAny_typeOf hTs ?_);rw[if_pos (by decide)];refine xba (HT.zcb hs pl pu ?_);have yes:(((HT.sIx its.size 0 lo:Nat):Int) == 0 && (1:Int) == 1 && (HT.sIx its.size its.size hi - HT.sIx its.size 0 lo) == its.size)=true:=by
  rw[h0,h1];simp
 show wpAny _ _ (if (((HT.sIx its.size 0 lo:Nat):Int) == 0 && (1:Int) == 1 && (HT.sIx its.size its.size hi - HT.sIx its.size 0 lo) == its.size)=true then _ else _) _ _ s;rw[if_pos yes];refine xba (?_:wpAny _ _ (Builtin.Tuple.tupleIsExact (.ref t)) _ _ s);unfold Builtin.Tuple.tupleIsExact;refine xba (wpAny_typeOf ht.typeIs (xbc ?_));rw[if_pos (by decide)];exact xba (xgg (xbc ⟨_,rfl,xbc fin⟩))
end
def rSlA (K:Fg):V->Option Int->Option Int->Hp->VK->Prop:=fun x lo hi H Q=>∃a xs,x=.ref a/\SqT K H a xs/\(cutV xs lo hi=xs->Q (.ref a) H)/\∀p,H p=none->Q (.ref p) (upd H p (.tup (cutV xs lo hi)))
theorem ztu {X:Cx}:SlR X (rSlA X.K):=by
 intro pins s σ H x v vl vu lo hi sl Q I rx hs pl pu h;obtain ⟨a,xs,rfl,hx,q1,q2⟩:=h;by_cases hw:HT.sIx xs.length 0 lo=0/\HT.sIx xs.length xs.length hi=xs.length
 ·cases rx;obtain ⟨its,r,ht,hz⟩:=I.tuple hx;have hlen:its.toArray.size=xs.length:=by rw[xbm];exact r.length.symm
  refine ⟨"tuple", _, xib.lookup, ht.typeIs, ?_⟩
  refine zol ht hs pl pu (by rw[hlen];exact hw.1) (by rw[hlen];exact hw.2) ⟨.ref a,H,I,rfl,q1 ?_⟩;unfold cutV;rw[hw.1,hw.2];simp
 ·exact zys pins s σ H _ v vl vu lo hi sl Q I rx hs pl pu ⟨a,xs,rfl,hx,hw,q2⟩
theorem zes (ns:List Int):∀k,k<=ns.length->preSum (fun i=>ns.getD i 0) k=(ns.take k).sum
 | 0,_=>rfl
 | k+1,h=>by
  show preSum (fun i=>ns.getD i 0) k+ns.getD k 0=_;rw[zes ns k (by lia),xgl (by lia),List.sum_append,xbk,xbg (by lia)];simp
theorem zgn:∀{ns:List Int} {us:List Value} {i:Nat} {v:Value},Vals (ns.map V.int) us->us[i]?=some v->∃t,v=.int (ns.getD i 0) t
 | [],_,_,_,.nil,e=>by simp at e
 | n::ns,_,0,_,.cons r _,e=>by
  simp at e;subst e
  obtain ⟨t,rfl⟩:=r;exact ⟨t,rfl⟩
 | n::ns,_,i+1,v,.cons _ t,e=>by
  have:=zgn (i:=i) t (by simpa using e)
  simpa using this
def rSum (K:Fg):List V->Hp->VK->Prop:=fun xs H Q=>∃(a:Addr) (ns:List Int),xs=[.ref a]/\(SqL K H a (ns.map V.int)\/SqT K H a (ns.map V.int))/\Q (.int ns.sum) H
theorem zck {X : Cx} (hc : X.calm = true) : CallR X (.builtin "sum") (rSum X.K) := by
 intro pins s σ H xs us Q I r h;obtain ⟨a,ns,rfl,hs,q⟩:=h;obtain ⟨u,rfl,ru⟩:=vals1 r;cases ru;have key:∀{its:List Value} (h':Heap) (tk:Nat) (t':Tok) (nn:Nat),nn=ns.length->(∀b o,b≠s.heap.objs.size->s.heap.get? b=some o->h'.get? b=some o) ->
   EP X pins σ Q (.int (preSum (fun i=>ns.getD i 0) nn) t') {s with heap:=h',toks:=tk}:=fun h' tk t' nn hn hk=>by
  subst hn;rw[zes ns _ (xbe _),xiz];exact ⟨.int ns.sum,H,I.kept (t':=tk) fun b o e=>hk b o (xbv (xbl e)) e,⟨_,rfl⟩,q⟩
 refine call_sum_walkG ?_;rcases hs with hs | hs
 ·obtain ⟨its,rv,pl,hz⟩:=I.list hs;have hlt:a < s.heap.objs.size:=by obtain ⟨o,n,e,_⟩:=pl;exact xbl e
  have hl:=rv.length;rw[xbd] at hl;refine xil pl.isList ?_;refine ⟨s.heap.objs.size,_,[s.heap.objs.size],_,_,_,fun i=>ns.getD i 0,rfl,Walks.list (A:=X.A.in1) (I.ok.hd hc) _ a (xbv hlt) its.toArray,⟨⟨_,xbt _ rfl,rfl,rfl⟩,pl.isList.push _⟩,?_,fun i v e=>zgn rv (by simpa using e),fun h' tk t' hk=>?_⟩
  ·intro b hb;show b < (s.heap.push _).objs.size;rw[show ∀o:Obj,(s.heap.push o).objs.size=s.heap.objs.size+1 from fun o=>by simp[Heap.push]];rcases xbo.mp hb with rfl | hb
   ·exact xhp _
   ·rcases xbo.mp hb with rfl | hb
    ·exact xev hlt
    ·cases hb
  ·exact key (its:=its) h' tk t' _ (by simp[hl]) fun b o hb e=>hk b o (by simpa using hb) (xbh _ e)
 ·obtain ⟨its,rv,pl,hz⟩:=I.tuple hs;have hlt:a < s.heap.objs.size:=pl.lt;have hl:=rv.length;rw[xbd] at hl;have pt:s.heap.IsTuple a its.toArray:=pl;refine xjy pt ?_;refine ⟨s.heap.objs.size,_,[s.heap.objs.size],_,_,_,fun i=>ns.getD i 0,rfl,Walks.tuple (A:=X.A.in1) (I.ok.hd hc) _ a (xbv hlt) its.toArray,⟨⟨_,xbt _ rfl,rfl,rfl⟩,pt.push _⟩,?_,fun i v e=>zgn rv (by simpa using e),fun h' tk t' hk=>?_⟩
  ·intro b hb;show b < (s.heap.push _).objs.size;rw[show ∀o:Obj,(s.heap.push o).objs.size=s.heap.objs.size+1 from fun o=>by simp[Heap.push]];rcases xbo.mp hb with rfl | hb
   ·exact xhp _
   ·rcases xbo.mp hb with rfl | hb
    ·exact xev hlt
    ·cases hb
  ·exact key (its:=its) h' tk t' _ (by simp[hl]) fun b o hb e=>hk b o (by simpa using hb) (xbh _ e)
section
variable {X:Cx} {pins:List (Addr × Obj)} {σ:St} {H:Hp} {s:Shared} {h':Heap}
end
section
variable {X:Cx}
end
def bestI (gt:Bool) (n:Int) (ns:List Int):Int:=ns.foldl (fun i j=>if (if gt then decide (j > i) else decide (j < i))=true then j else i) n
theorem zei:∀(ns:List Int) (n:Int),bestI true n ns∈n::ns/\∀a∈n::ns,a<=bestI true n ns
 | [],n=>⟨by simp[bestI],by simp[bestI]⟩
 | m::ns,n=>by
  have e:bestI true n (m::ns)=bestI true (if m > n then m else n) ns:=by simp[bestI]
  obtain ⟨h1,h2⟩:=zei ns (if m > n then m else n);rw[e];refine ⟨?_,fun a ha=>?_⟩
  ·rcases xbo.mp h1 with z | z
   ·rw[z];split<;>simp
   ·simp[z]
  ·have h3:=h2 _ xbz;rcases xbo.mp ha with rfl | ha
   ·refine Int.le_trans ?_ h3;split<;>lia
   ·rcases xbo.mp ha with rfl | ha
    ·refine Int.le_trans ?_ h3;split<;>lia
    ·exact h2 a (xbu _ ha)
theorem zgx {n:Int} {ns:List Int} {k:Nat} (hk:k=ns.length):(n::ns).getD (argBest (fun i j=>decide ((n::ns).getD i 0 > (n::ns).getD j 0)) k) 0=bestI true n ns:=by
 subst hk;obtain ⟨h1,h2⟩:=argBest_gt (fun i=>(n::ns).getD i 0) ns.length;obtain ⟨g1,g2⟩:=zei ns n;have hl:argBest (fun i j=>decide ((n::ns).getD i 0 > (n::ns).getD j 0)) ns.length < (n::ns).length:=by rw[xcb];lia
 obtain ⟨j,hj,ej⟩:=xfs g1;have a1:=h2 j (by simp at hj;lia);have a2:=g2 ((n::ns).getD (argBest (fun i j=>decide ((n::ns).getD i 0 > (n::ns).getD j 0)) ns.length) 0) (by rw[xbk,xbg hl];exact xdm hl);have e:(n::ns).getD j 0=bestI true n ns:=by rw[xbk,xbg hj,ej];rfl
 rw[e] at a1;lia
def rBest (K:Fg) (gt:Bool):List V->Hp->VK->Prop:=fun xs H Q=>∃(a:Addr) (n:Int) (ns:List Int),xs=[.ref a]/\(SqL K H a ((n::ns).map V.int)\/SqT K H a ((n::ns).map V.int))/\Q (.int (bestI gt n ns)) H
section
variable {X:Cx}
theorem zhx {pins:List (Addr × Obj)} {σ:St} {H:Hp} {s:Shared} {E:Value->Shared->Prop} {a:Addr} {ns:List Int} {R:Value->Shared->Prop} (hc:X.calm=true) (I:Inv X pins σ H s) (hs:SqL X.K H a (ns.map V.int)\/SqT X.K H a (ns.map V.int))
  (h:∀I' fp wr P St s2,Walks X.prog X.w X.A.in1 I' fp wr ns.length P St->St 0 s2.heap->(∀b∈fp,b < s2.heap.objs.size)->(∀i v,P i v->∃t,v=.int (ns.getD i 0) t) ->
   (∀h' tk,(∀b o,b∉wr->s2.heap.get? b=some o->h'.get? b=some o)->Inv X pins σ H {s2 with heap:=h',toks:=tk})->R (.ref I') s2) :
  wpAny (model X.prog X.w) X.A.in1 (pyIter (.ref a)) R E s:=by
 have key:∀(o:Obj) (h':Heap) (tk:Nat),(∀b u,b∉[s.heap.objs.size]->(s.heap.push o).get? b=some u->h'.get? b=some u)->Inv X pins σ H {s with heap:=h',toks:=tk}:=fun o h' tk hk =>
  I.kept (t':=tk) fun b u e=>hk b u (by simp;exact xbv (xbl e)) (xbh _ e)
 have low:∀(o:Obj),a < s.heap.objs.size->∀b∈[s.heap.objs.size,a],b < (s.heap.push o).objs.size:=fun o hlt b hb=>by
  rw[xjq];have hb':b=s.heap.objs.size\/b=a:=by simpa using hb
  rcases hb' with z | z
  ·rw[z];exact xhp _
  ·rw[z];exact xev hlt
 rcases hs with hs | hs
 ·obtain ⟨its,rv,pl,hz⟩:=I.list hs;have hlt:a < s.heap.objs.size:=by obtain ⟨o,n,e,_⟩:=pl;exact xbl e
  have hl:=rv.length;rw[xbd] at hl;have W:=Walks.list (prog:=X.prog) (w:=X.w) (A:=X.A.in1) (I.ok.hd hc) s.heap.objs.size a (xbv hlt) its.toArray;rw[show its.toArray.size=ns.length from by rw[xbm];exact hl.symm] at W;exact xil pl.isList (h _ _ _ _ _ { s with heap := s.heap.push { cls := .type "list_iterator", data := .fields #[.ref a, .int 0 0] } } W ⟨⟨_, xbt _ rfl, rfl, rfl⟩, pl.isList.push _⟩ (low _ hlt) (fun i v e => zgn rv (by simpa using e)) fun h' tk hk => key _ h' tk hk)
 ·obtain ⟨its,rv,pl,hz⟩:=I.tuple hs;have hlt:a < s.heap.objs.size:=pl.lt;have hl:=rv.length;rw[xbd] at hl;have pt:s.heap.IsTuple a its.toArray:=pl;have W:=Walks.tuple (prog:=X.prog) (w:=X.w) (A:=X.A.in1) (I.ok.hd hc) s.heap.objs.size a (xbv hlt) its.toArray;rw[show its.toArray.size=ns.length from by rw[xbm];exact hl.symm] at W;exact xjy pt (h _ _ _ _ _ { s with heap := s.heap.push { cls := .type "tuple_iterator", data := .fields #[.ref a, .int 0 0] } } W ⟨⟨_, xbt _ rfl, rfl, rfl⟩, pt.push _⟩ (low _ hlt) (fun i v e => zgn rv (by simpa using e)) fun h' tk hk => key _ h' tk hk)
theorem zop (hc : X.calm = true) : CallR X (.builtin "max") (rBest X.K true) := by
 intro pins s σ H xs us Q I r h;obtain ⟨a,n,ns,rfl,hs,q⟩:=h;obtain ⟨u,rfl,ru⟩:=vals1 r;cases ru;refine call_max_walk (zhx hc I hs fun I' fp wr P St s2 W st low val keep=>?_);refine ⟨I',fp,wr,_,P,St,_,rfl,W,st,low,by simp,CmpOf.ints_gt (fun i=>(n::ns).getD i 0) val,fun v h' tk hP hk=>?_⟩;obtain ⟨t,rfl⟩:=val _ _ hP;rw[zgx (by simp)];exact ⟨.int (bestI true n ns),H,keep h' tk hk,⟨_,rfl⟩,q⟩
end
section
variable {prog:Program} {w:World} {A:Around} {E:Value->Shared->Prop} {s:Shared} {z TI TO i1 i2 t1 t2:Addr} {xs ys:Array Value} {j:Nat}
end
section
variable {prog:Program} {w:World} {A:Around} {E:Value->Shared->Prop} {s:Shared} {z TI TO i1 i2 t1 t2:Addr} {xs ys:Array Value} {j:Nat}
end
section
variable {prog:Program} {w:World} {A:Around} {E:Value->Shared->Prop} {s:Shared}
end
section
variable {X:Cx}
end
end L2
namespace Dd
open PySem L2
set_option genInjectivity true in
inductive D where
 | non | bl (b:Bool) | int (i:Int) | str (x:Str) | ty (n:String) | ref (n:Nat) | tup (ds:List D) | lst (ds:List D) | scr (ds:List D) | exn (c:Str) (l:List Int)
set_option genInjectivity true in
inductive O where
 /-- a list that may change;a dict by tuples of ints;one that is only read;gone -/
 | lst (xs:List D) | dT (kvs:List (List Int × D)) | fT (kvs:List (List Int × D)) | dead
 /-- the law's table of codes -/
 | tab
abbrev Store:=List O
structure Exc where
 cls:Str
 at_:List Int
set_option genInjectivity true in
inductive Res (α:Type) where
 | ok (a:α) (st:Store) | exc (x:Exc) (st:Store) | stuck
def Res.bind {α β:Type}:Res α->(α->Store->Res β)->Res β
 | .ok a st,f=>f a st
 | .exc x st,_=>.exc x st
 | .stuck,_=>.stuck
@[simp] theorem zdg {α β:Type} (a:α) (st:Store) (f:α->Store->Res β):(Res.ok a st).bind f=f a st:=rfl
@[simp] theorem zbcc {α β:Type} (x:Exc) (st:Store) (f:α->Store->Res β):(Res.exc x st:Res α).bind f=.exc x st:=rfl
@[simp] theorem zxv {α β:Type} (f:α->Store->Res β):(Res.stuck:Res α).bind f=.stuck:=rfl
theorem zb {α β:Type} {r:Res α} {f:α->Store->Res β} {b:β} {st':Store} (h:r.bind f=.ok b st'):∃a st,r=.ok a st/\f a st=.ok b st':=by
 cases r with
 | ok a st=>exact ⟨a,st,rfl,h⟩
 | exc x st=>cases h
 | stuck=>cases h
abbrev DS:=List (Option D)
abbrev SE:=DS->Store->Res D
abbrev ST:=DS->Store->Res Bool
abbrev SA:=DS->Store->Res (List D)
set_option genInjectivity true in
inductive Fl where
 | nx (σ:DS) | ret (v:D) | brk (σ:DS) | ct (σ:DS)
abbrev SS:=DS->Store->Res Fl
abbrev DFn:=List D->Store->Res D
structure Loc where
 m:List (Option Addr)
 g:List Addr
def Out (ρ:Loc) (a:Addr):Prop:=some a∉ρ.m/\a∉ρ.g
def Ls (K:Fg) (ρ:Loc) (H:Hp) (a:Addr) (vs:List V):Prop:=(Rd H a (.lst vs)/\Out ρ a)\/∀H':Hp,SqL K H' a vs
def XAt (K:Fg) (ρ:Loc) (H:Hp) (c:Str) (l:List Int) (a:Addr):Prop:=∃C o,PySem.W.nsIn K mainGlobals c=some (some (.ref C))/\(H a=some (.frz o (.ext fun _=>True))/\Out ρ a)/\o.cls=.ref C/\(∃vs,o.data=.fields vs/\vs[2]?=some .none) /\
 ((l = [] /\ o.dict = none) \/ ∃ i dx od, l = [i] /\ o.dict = some dx /\ H dx = some (.frz od (.xd [("at", .int i)])) /\ Out ρ dx)
theorem XAt.map {K:Fg} {ρ ρ':Loc} {H H':Hp} {c:Str} {l:List Int} {a:Addr} (h:XAt K ρ H c l a) (f:∀b ob u,H b=some (.frz ob u)->Out ρ b->H' b=some (.frz ob u)/\Out ρ' b):XAt K ρ' H' c l a:=by
 obtain ⟨C,o,h1,h2,h3,h4,h5⟩:=h;refine ⟨C,o,h1,f _ _ _ h2.1 h2.2,h3,h4,?_⟩;rcases h5 with h5 | ⟨i,dx,od,h6,h7,h8,h9⟩
 ·exact .inl h5
 ·exact .inr ⟨i,dx,od,h6,h7,(f _ _ _ h8 h9).1,(f _ _ _ h8 h9).2⟩
mutual
inductive At (K:Fg) (ρ:Loc) (H:Hp):D->V->Prop
 | non:At K ρ H .non .non
 | bl (b:Bool):At K ρ H (.bl b) (.bl b)
 | int (i:Int):At K ρ H (.int i) (.int i)
 | str (x:Str):At K ρ H (.str x) (.str x)
 | ty (n:String):At K ρ H (.ty n) (.ty n)
 | ref {n:Nat} {v:V}:n < ρ.m.length->(∀a,ρ.m[n]?=some (some a)->v=.ref a)->At K ρ H (.ref n) v
 | tup {a:Addr} {ds:List D} {vs:List V}:H a=some (.tup vs)->Out ρ a->AtAll K ρ H ds vs->At K ρ H (.tup ds) (.ref a)
 | lst {a:Addr} {ds:List D} {vs:List V}:H a=some (.lst vs)->Out ρ a->AtAll K ρ H ds vs->At K ρ H (.lst ds) (.ref a)
 | scr {a:Addr} {ds:List D} {vs:List V}:Ls K ρ H a vs->AtAll K ρ H ds vs->At K ρ H (.scr ds) (.ref a)
 | exn {c:Str} {l:List Int} {a:Addr}:XAt K ρ H c l a->At K ρ H (.exn c l) (.ref a)
inductive AtAll (K:Fg) (ρ:Loc) (H:Hp):List D->List V->Prop
 | nil:AtAll K ρ H [] []
 | cons {d:D} {ds:List D} {v:V} {vs:List V}:At K ρ H d v->AtAll K ρ H ds vs->AtAll K ρ H (d::ds) (v::vs)
end
structure Mv (ρ:Loc) (H:Hp) (ρ':Loc) (H':Hp):Prop where
 out:∀{a:Addr} {o:HO},H a=some o->Out ρ a->H' a=some o/\Out ρ' a
 len:ρ.m.length<=ρ'.m.length
 old:∀(n:Nat) (a:Addr),n < ρ.m.length->ρ'.m[n]?=some (some a)->ρ.m[n]?=some (some a)
theorem Ls.mv {K:Fg} {ρ ρ':Loc} {H H':Hp} {a:Addr} {vs:List V} (x:Mv ρ H ρ' H') (h:Ls K ρ H a vs):Ls K ρ' H' a vs:=by
 rcases h with ⟨h | ⟨o,h⟩,n⟩ | h
 ·exact .inl ⟨.inl (x.out h n).1,(x.out h n).2⟩
 ·exact .inl ⟨.inr ⟨o,(x.out h n).1⟩,(x.out h n).2⟩
 ·exact .inr h
theorem At.mv {K:Fg} {ρ ρ':Loc} {H H':Hp} (x:Mv ρ H ρ' H') {d:D} {v:V} (h:At K ρ H d v):At K ρ' H' d v :=
 At.rec (motive_1:=fun d v _=>At K ρ' H' d v) (motive_2:=fun d v _=>AtAll K ρ' H' d v) .non .bl .int .str .ty (fun h e=>.ref (xbf h x.len) fun a q=>e a (x.old _ a h q)) (fun h n _ ih=>.tup (x.out h n).1 (x.out h n).2 ih) (fun h n _ ih=>.lst (x.out h n).1 (x.out h n).2 ih) (fun h _ ih=>.scr (h.mv x) ih) (fun h=>.exn (h.map fun _ _ _ e n=>x.out e n)) .nil (fun _ _ a b=>.cons a b) h
theorem AtAll.mv {K:Fg} {ρ ρ':Loc} {H H':Hp} (x:Mv ρ H ρ' H') {d:List D} {v:List V} (h:AtAll K ρ H d v):AtAll K ρ' H' d v :=
 AtAll.rec (motive_1:=fun _ _ _=>True) (motive_2:=fun d v _=>AtAll K ρ' H' d v) trivial (fun _=>trivial) (fun _=>trivial) (fun _=>trivial) (fun _=>trivial) (fun _ _=>trivial) (fun _ _ _ _=>trivial) (fun _ _ _ _=>trivial) (fun _ _ _=>trivial) (fun _=>trivial) .nil (fun a _ _ b=>.cons (a.mv x) b) h
structure Ext (ρ:Loc) (H:Hp) (ρ':Loc) (H':Hp):Prop where
 len:ρ.m.length<=ρ'.m.length
 old:∀(n:Nat) (a:Addr),n < ρ.m.length->ρ'.m[n]?=some (some a)->ρ.m[n]?=some (some a)
 keep:∀a o,H a=some o->some a∉ρ.m->H' a=some o/\some a∉ρ'.m
 gho:ρ'.g=ρ.g
 frz:∀a ob u,H a=some (.frz ob u)->H' a=some (.frz ob u)
theorem Ext.out {ρ ρ':Loc} {H H':Hp} (x:Ext ρ H ρ' H') {a:Addr} {o:HO} (h:H a=some o) (n:Out ρ a):H' a=some o/\Out ρ' a :=
 ⟨(x.keep a o h n.1).1,(x.keep a o h n.1).2,by rw[x.gho];exact n.2⟩
theorem Ext.mv {ρ ρ':Loc} {H H':Hp} (x:Ext ρ H ρ' H'):Mv ρ H ρ' H':=⟨fun h n=>x.out h n,x.len,x.old⟩
theorem Ls.sq {K:Fg} {ρ:Loc} {H:Hp} {a:Addr} {vs:List V} (h:Ls K ρ H a vs):SqL K H a vs:=by
 rcases h with h | h
 ·exact .inl h.1
 ·exact h H
section
variable {K:Fg}
theorem Ext.refl (ρ:Loc) (H:Hp):Ext ρ H ρ H:=⟨xbe _,fun _ _ _ e=>e,fun _ _ e n=>⟨e,n⟩,rfl,fun _ _ _ e=>e⟩
theorem Ext.trans {ρ ρ1 ρ2:Loc} {H H1 H2:Hp} (a:Ext ρ H ρ1 H1) (b:Ext ρ1 H1 ρ2 H2):Ext ρ H ρ2 H2 :=
 ⟨xbb a.len b.len,fun n c h e=>a.old n c h (b.old n c (xbf h a.len) e),fun c o e n=>by
  obtain ⟨e1,n1⟩:=a.keep c o e n
  exact b.keep c o e1 n1,b.gho.trans a.gho,fun c ob u e=>b.frz c ob u (a.frz c ob u e)⟩
theorem At.ext {ρ ρ':Loc} {H H':Hp} (x:Ext ρ H ρ' H') {d:D} {v:V} (h:At K ρ H d v):At K ρ' H' d v:=h.mv x.mv
theorem AtAll.ext {ρ ρ':Loc} {H H':Hp} (x:Ext ρ H ρ' H') {d:List D} {v:List V} (h:AtAll K ρ H d v):AtAll K ρ' H' d v:=h.mv x.mv
theorem AtAll.length {ρ:Loc} {H:Hp}:∀{ds:List D} {vs:List V},AtAll K ρ H ds vs->vs.length=ds.length
 | _,_,.nil=>rfl
 | _,_,.cons _ t=>by rw[xcb,xcb,AtAll.length t]
theorem AtAll.get {ρ:Loc} {H:Hp}:∀{ds:List D} {vs:List V} {i:Nat} {d:D},AtAll K ρ H ds vs->ds[i]?=some d->∃v,vs[i]?=some v/\At K ρ H d v
 | _,_,_,_,.nil,e=>by simp at e
 | _,_,0,_,.cons a _,e=>by simp at e;subst e;exact ⟨_,rfl,a⟩
 | _,_,i+1,d,.cons _ t,e=>by
  obtain ⟨u,h1,h2⟩:=AtAll.get (i:=i) (d:=d) t (by simpa using e);exact ⟨u,by simpa using h1,h2⟩
theorem AtAll.append {ρ:Loc} {H:Hp}:∀{ds es:List D} {vs us:List V},AtAll K ρ H ds vs->AtAll K ρ H es us->AtAll K ρ H (ds++es) (vs++us)
 | _,_,_,_,.nil,b=>b
 | _,_,_,_,.cons a t,b=>.cons a (AtAll.append t b)
theorem AtAll.take {ρ:Loc} {H:Hp}:∀{ds:List D} {vs:List V} (n:Nat),AtAll K ρ H ds vs->AtAll K ρ H (ds.take n) (vs.take n)
 | _,_,0,_=>.nil
 | _,_,_+1,.nil=>.nil
 | _,_,n+1,.cons a t=>.cons a (AtAll.take n t)
theorem AtAll.drop {ρ:Loc} {H:Hp}:∀{ds:List D} {vs:List V} (n:Nat),AtAll K ρ H ds vs->AtAll K ρ H (ds.drop n) (vs.drop n)
 | _,_,0,h=>h
 | _,_,_+1,.nil=>.nil
 | _,_,n+1,.cons a t=>AtAll.drop n t
theorem AtAll.set {ρ:Loc} {H:Hp} {d:D} {v:V} (a:At K ρ H d v):∀{ds:List D} {vs:List V} (n:Nat),AtAll K ρ H ds vs->AtAll K ρ H (ds.set n d) (vs.set n v)
 | _,_,_,.nil=>.nil
 | _,_,0,.cons _ t=>.cons a t
 | _,_,n+1,.cons b t=>.cons b (AtAll.set a n t)
def KvAt (K:Fg) (ρ:Loc) (H:Hp):List (List Int × D)->List (List Key × V)->Prop:=Paired fun p q=>q.1=p.1.map Sum.inl/\At K ρ H p.2 q.2
theorem KvAt.ext {ρ ρ':Loc} {H H':Hp} (x:Ext ρ H ρ' H') {a:List (List Int × D)} {b:List (List Key × V)} (h:KvAt K ρ H a b):KvAt K ρ' H' a b:=Paired.mapP h fun p q z=>⟨z.1,z.2.ext x⟩
abbrev lamQ : Str := (("law" : Str) ++ ".<locals>.") ++ "<lambda>"
def TabOk (H:Hp) (ps:Array Value):Prop:=TriplesOk ps.toList/\∀pos cv,codeAmong pos ps.toList=some cv->∃c oc vs t,cv=.ref c/\H c=some (.frz oc (.ext fun _=>True))/\oc.data=.fields vs/\vs[1]?=some (.str lamQ t)
theorem TabOk.map {H H':Hp} {ps:Array Value} (h:TabOk H ps) (f:∀b ob u,H b=some (.frz ob u)->H' b=some (.frz ob u)):TabOk H' ps :=
 ⟨h.1,fun pos cv e=>by obtain ⟨c,oc,vs,t,e1,e2,e3⟩:=h.2 pos cv e;exact ⟨c,oc,vs,t,e1,f _ _ _ e2,e3⟩⟩
def OAt (K:Fg) (ρ:Loc) (H:Hp):O->Addr->Prop
 | .lst xs,a=>∃vs,H a=some (.lst vs)/\AtAll K ρ H xs vs
 | .dT kvs,a=>∃vs,H a=some (.dT vs)/\KvAt K ρ H kvs vs
 | .fT kvs,a=>∃vs ob,H a=some (.frz ob (.dT vs))/\KvAt K ρ H kvs vs
 | .dead,_=>False
 | .tab, a => (∃ c, PySem.W.tabIn K "law" = some (c, a)) /\ ∃ ps, H a = some (.tbl ps) /\ TabOk H ps
structure Rep (K:Fg) (ρ:Loc) (st:Store) (H:Hp):Prop where
 len:ρ.m.length=st.length
 inj:∀(n m:Nat) (a:Addr),ρ.m[n]?=some (some a)->ρ.m[m]?=some (some a)->n=m
 obj:∀(n:Nat) (a:Addr) (o:O),ρ.m[n]?=some (some a)->st[n]?=some o->OAt K ρ H o a
 gh:∀a∈ρ.g,(∃vs,H a=some (.lst vs))/\some a∉ρ.m
 live:∀(n:Nat) (o:O),st[n]?=some o->o≠.dead->∃a,ρ.m[n]?=some (some a)
def AtO (K:Fg) (ρ:Loc) (H:Hp) (o:Option D) (v:Option V):Prop:=∀d,o=some d->∃u,v=some u/\At K ρ H d u
abbrev AtS (K:Fg) (ρ:Loc) (H:Hp):DS->St->Prop:=Paired (AtO K ρ H)
theorem AtS.ext {ρ ρ':Loc} {H H':Hp} (x:Ext ρ H ρ' H') {σ:DS} {τ:St} (h:AtS K ρ H σ τ):AtS K ρ' H' σ τ:=Paired.mapP h fun o v z d e=>by
 obtain ⟨u,e1,a⟩:=z d e;exact ⟨u,e1,a.ext x⟩
theorem AtS.get {ρ:Loc} {H:Hp}:∀{σ:DS} {τ:St} {i:Nat} {d:D},AtS K ρ H σ τ->σ[i]?=some (some d)->∃u,τ[i]?=some (some u)/\At K ρ H d u
 | _,_,_,_,.nil,e=>by simp at e
 | _,_,0,_,.cons a _,e=>by
  simp at e;subst e
  obtain ⟨u,e1,h⟩:=a _ rfl;exact ⟨u,by simp[e1],h⟩
 | _,_,i+1,d,.cons _ t,e=>by
  obtain ⟨u,h1,h2⟩:=AtS.get (i:=i) (d:=d) t (by simpa using e);exact ⟨u,by simpa using h1,h2⟩
theorem AtS.set {ρ:Loc} {H:Hp} {d:D} {v:V} (a:At K ρ H d v):∀{σ:DS} {τ:St} (i:Nat),AtS K ρ H σ τ->AtS K ρ H (σ.set i (some d)) (τ.set i (some v))
 | _,_,_,.nil=>.nil
 | _,_,0,.cons _ t=>.cons (fun d' e=>by cases e;exact ⟨v,rfl,a⟩) t
 | _,_,i+1,.cons q t=>.cons q (AtS.set a i t)
end
def tD (K:Fg) (f:SE):TE:=fun τ H Q=>∃ρ σ st v st',AtS K ρ H σ τ/\Rep K ρ st H/\f σ st=.ok v st'/\∀ρ' H' u,Ext ρ H ρ' H'->Rep K ρ' st' H'->At K ρ' H' v u->Q u H'
def tDT (K:Fg) (f:ST):TT:=fun τ H Q=>∃ρ σ st v st',AtS K ρ H σ τ/\Rep K ρ st H/\f σ st=.ok v st'/\∀ρ' H',Ext ρ H ρ' H'->Rep K ρ' st' H'->Q v H'
def tDA (K:Fg) (f:SA):TA:=fun τ H Q=>∃ρ σ st v st',AtS K ρ H σ τ/\Rep K ρ st H/\f σ st=.ok v st'/\∀ρ' H' u,Ext ρ H ρ' H'->Rep K ρ' st' H'->AtAll K ρ' H' v u->Q u H'
def FlOk (K:Fg) (ρ:Loc) (H:Hp) (st':Store) (E:Ends):Fl->Prop
 | .nx σ=>∀ρ' H' τ,Ext ρ H ρ' H'->Rep K ρ' st' H'->AtS K ρ' H' σ τ->E.nx τ H'
 | .brk σ=>∀ρ' H' τ,Ext ρ H ρ' H'->Rep K ρ' st' H'->AtS K ρ' H' σ τ->E.bk τ H'
 | .ct σ=>∀ρ' H' τ,Ext ρ H ρ' H'->Rep K ρ' st' H'->AtS K ρ' H' σ τ->E.ct τ H'
 | .ret v=>∀ρ' H' u,Ext ρ H ρ' H'->Rep K ρ' st' H'->At K ρ' H' v u->E.rt u H'
theorem FlOk.ext {K:Fg} {ρ ρ1:Loc} {H H1:Hp} {st':Store} {E:Ends} {fl:Fl} (x:Ext ρ H ρ1 H1) (h:FlOk K ρ H st' E fl):FlOk K ρ1 H1 st' E fl:=by
 cases fl with
 | nx σ=>exact fun ρ' H' τ e=>h ρ' H' τ (x.trans e)
 | brk σ=>exact fun ρ' H' τ e=>h ρ' H' τ (x.trans e)
 | ct σ=>exact fun ρ' H' τ e=>h ρ' H' τ (x.trans e)
 | ret v=>exact fun ρ' H' τ e=>h ρ' H' τ (x.trans e)
def tDS (K:Fg) (f:SS):TS:=fun E τ H=>∃ρ σ st fl st',AtS K ρ H σ τ/\Rep K ρ st H/\f σ st=.ok fl st'/\FlOk K ρ H st' E fl
abbrev DE (X:Cx) (e:Expr) (f:SE):Prop:=PE X e (tD X.K f)
abbrev DT (X:Cx) (e:Expr) (f:ST):Prop:=PT X e (tDT X.K f)
abbrev DW (X:Cx) (e:Expr) (f:ST):Prop:=PW X e (tDT X.K f)
abbrev DA (X:Cx) (es:List Expr) (f:SA):Prop:=PA X es (tDA X.K f)
abbrev DSt (X:Cx) (s:Stmt) (f:SS):Prop:=PS X s (tDS X.K f)
abbrev DSs (X:Cx) (s:List Stmt) (f:SS):Prop:=PSs X s (tDS X.K f)
section
variable {X:Cx} {e:Expr} {es:List Expr} {s:Stmt} {ss:List Stmt}
theorem zek {t t':TE} (h:PE X e t) (k:∀σ H Q,t' σ H Q->t σ H Q):PE X e t':=fun pins s σ H Q I q=>h pins s σ H Q I (k _ _ _ q)
theorem zze {t t':TT} (h:PT X e t) (k:∀σ H Q,t' σ H Q->t σ H Q):PT X e t':=fun pins s σ H Q I q=>h pins s σ H Q I (k _ _ _ q)
theorem pw_to {t t':TT} (h:PW X e t) (k:∀σ H Q,t' σ H Q->t σ H Q):PW X e t':=fun wh pins s σ H Q I q=>h wh pins s σ H Q I (k _ _ _ q)
theorem zbcx {t t':TA} (h:PA X es t) (k:∀σ H Q,t' σ H Q->t σ H Q):PA X es t':=fun pos pins s σ H Q I q=>h pos pins s σ H Q I (k _ _ _ q)
theorem zkm {t t':TS} (h:PS X s t) (k:∀E σ H,t' E σ H->t E σ H):PS X s t':=fun pins z σ H E I q=>h pins z σ H E I (k _ _ _ q)
theorem zud {t t':TS} (h:PSs X ss t) (k:∀E σ H,t' E σ H->t E σ H):PSs X ss t':=fun pins z σ H E I q=>h pins z σ H E I (k _ _ _ q)
end
def eVar (i:Nat):SE:=fun σ st=>match σ[i]? with
 | some (some d)=>.ok d st
 | _=>.stuck
def eC (d:D):SE:=fun _ st=>.ok d st
section
variable {X:Cx}
theorem zbeo {e:Expr} {i:Nat} (h:PE X e (tVar i)):DE X e (eVar i):=zek h fun τ H Q hq0=>by
 obtain ⟨ρ,σ,st,v,st',a,r,e,q⟩:=hq0;unfold eVar at e;split at e
 ·rename_i d hd;cases e;obtain ⟨u,e1,e2⟩:=a.get hd;exact ⟨u,e1,q ρ H u (.refl _ _) r e2⟩
 ·cases e
theorem zbbv {e:Expr} {v:V} {d:D} (h:PE X e (tC v)) (k:∀ρ H,At X.K ρ H d v):DE X e (eC d):=zek h fun τ H Q hq0=>by
 obtain ⟨ρ,σ,st,v,st',a,r,e,q⟩:=hq0;cases e;exact q ρ H _ (.refl _ _) r (k _ _)
theorem zbeu {i j pos}:DE X (.Constant (.int i) j pos) (eC (.int i)):=zbbv zzp fun _ _=>.int i
theorem d_bl {b j pos}:DE X (.Constant (.bool b) j pos) (eC (.bl b)):=zbbv zbdu fun _ _=>.bl b
end
def eOp (g:D->D->Store->Res D) (f f':SE):SE:=fun σ st=>(f σ st).bind fun x st1=>(f' σ st1).bind fun y st2=>g x y st2
def eUn (g:D->Store->Res D) (f:SE):SE:=fun σ st=>(f σ st).bind fun x st1=>g x st1
def OpD (K:Fg) (g:D->D->Store->Res D) (r:R2):Prop :=
 ∀ρ H st x y u v z st' (Q:VK),Rep K ρ st H->At K ρ H x u->At K ρ H y v->g x y st=.ok z st'->(∀ρ' H' w,Ext ρ H ρ' H'->Rep K ρ' st' H'->At K ρ' H' z w->Q w H')->r u v H Q
theorem zyf {K:Fg} {g:D->D->Store->Res D} {r:R2} (hr:OpD K g r) {f f':SE}:∀τ H Q,tD K (eOp g f f') τ H Q->tOp r (tD K f) (tD K f') τ H Q:=fun τ H Q hq0=>by
 obtain ⟨ρ,σ,st,v,st',a,rp,e,q⟩:=hq0;obtain ⟨x,st1,e1,e⟩:=zb e;obtain ⟨y,st2,e2,e⟩:=zb e;refine ⟨ρ,σ,st,x,st1,a,rp,e1,fun ρ1 H1 u x1 rp1 a1=>?_⟩;refine ⟨ρ1,σ,st1,y,st2,a.ext x1,rp1,e2,fun ρ2 H2 w x2 rp2 a2=>?_⟩;exact hr ρ2 H2 st2 x y u w v st' Q rp2 (a1.ext x2) a2 e fun ρ' H' z x3 rp3 a3=>q ρ' H' z (x1.trans (x2.trans x3)) rp3 a3
section
variable {X:Cx} {a b c:Expr} {f f' f'':SE} {pos:Pos}
theorem d_op {op:Operator} {r:R2} {g:D->D->Store->Res D} (ho:OpR X (binaryOp op) r) (hr:OpD X.K g r) (ha:DE X a f) (hb:DE X b f'):DE X (.BinOp a op b pos) (eOp g f f'):=zek (zbdr ho ha hb) (zyf hr)
theorem zbev {op:CmpOp} {r:R2} {g:D->D->Store->Res D} (ho:OpR X (compareOp op) r) (hr:OpD X.K g r) (ha:DE X a f) (hb:DE X b f') (hm:behindInMarks op b=false):DE X (.Compare a [op] [b] pos) (eOp g f f'):=zek (zut ho ha hb hm) (zyf hr)
def eB (f:SE):ST:=fun σ st=>(f σ st).bind fun v st1=>match v with
 | .bl b=>.ok b st1
 | _=>.stuck
theorem eB_t {K:Fg} {f:SE}:∀τ H Q,tDT K (eB f) τ H Q->tD K f τ H fun x H1=>∃c,x=.bl c/\Q c H1:=fun τ H Q hq0=>by
 obtain ⟨ρ,σ,st,v,st',a,rp,e,q⟩:=hq0;obtain ⟨x,st1,e1,e⟩:=zb e;refine ⟨ρ,σ,st,x,st1,a,rp,e1,fun ρ1 H1 u x1 rp1 a1=>?_⟩;cases x<;>try (cases e;done)
 cases e;cases a1;exact ⟨_,rfl,q _ _ x1 rp1⟩
theorem zbbh {op:CmpOp} {r:R2} {g:D->D->Store->Res D} (ho:OpR X (compareOp op) r) (hr:OpD X.K g r) (ha:DE X a f) (hb:DE X b f') (hm:behindInMarks op b=false):DT X (.Compare a [op] [b] pos) (eB (eOp g f f')) :=
 zze (zuc ho ha hb hm) fun τ H Q h=>zyf hr _ _ _ (eB_t _ _ _ h)
def eChain (g g':D->D->Store->Res D) (f f' f'':SE):SE:=fun σ st=>(f σ st).bind fun x st1=>(f' σ st1).bind fun y st2=>(g x y st2).bind fun z st3=>match z with
 | .bl true=>(f'' σ st3).bind fun w st4=>g' y w st4
 | .bl false=>.ok (.bl false) st3
 | _=>.stuck
end
end Dd
namespace Dd
open PySem L2
section
variable {K:Fg} {ρ:Loc} {st:Store} {H:Hp} {p a:Addr} {o:HO} {n:Nat}
theorem Ext.new (hp:H p=none) (o:HO):Ext ρ H ρ (upd H p o):=⟨xbe _,fun _ _ _ e=>e,fun b u e m=>⟨by rw[zp (zh e hp)];exact e,m⟩,rfl,fun b ob u e=>by rw[zp (zh e hp)];exact e⟩
theorem zcz {vs:List V} (h:H a=some (.lst vs)):∀ob u,H a≠some (.frz ob u):=fun ob u z=>by rw[h] at z;cases z
theorem zii {vs:List (List Key × V)} (h:H a=some (.dT vs)):∀ob u,H a≠some (.frz ob u):=fun ob u z=>by rw[h] at z;cases z
theorem Ext.wr (h:ρ.m[n]?=some (some a)) (hz:∀ob u,H a≠some (.frz ob u)) (o:HO):Ext ρ H ρ (upd H a o):=⟨xbe _,fun _ _ _ e=>e,fun b u e m=>⟨by
 rw[zp]
 ·exact e
 ·rintro rfl
  exact m (xcz h),m⟩,rfl,fun b ob u e=>by
 rw[zp]
 ·exact e
 ·rintro rfl
  exact hz _ _ e⟩
theorem OAt.has {x:O} (h:OAt K ρ H x a):∃u,H a=some u:=by
 cases x with
 | lst xs=>obtain ⟨vs,e,_⟩:=h;exact ⟨_,e⟩
 | dT kvs=>obtain ⟨vs,e,_⟩:=h;exact ⟨_,e⟩
 | fT kvs=>obtain ⟨vs,ob,e,_⟩:=h;exact ⟨_,e⟩
 | dead=>exact h.elim
 | tab=>obtain ⟨_,ps,e,_⟩:=h;exact ⟨_,e⟩
theorem OAt.ext {ρ':Loc} {H':Hp} {x:O} (e:Ext ρ H ρ' H') (same:H' a=H a) (h:OAt K ρ H x a):OAt K ρ' H' x a:=by
 cases x with
 | lst xs=>obtain ⟨vs,q,r⟩:=h;exact ⟨vs,by rw[same];exact q,r.ext e⟩
 | dT kvs=>obtain ⟨vs,q,r⟩:=h;exact ⟨vs,by rw[same];exact q,r.ext e⟩
 | fT kvs=>obtain ⟨vs,ob,q,r⟩:=h;exact ⟨vs,ob,by rw[same];exact q,r.ext e⟩
 | dead=>exact h.elim
 | tab=>obtain ⟨c,ps,q,r⟩:=h;exact ⟨c,ps,by rw[same];exact q,r.map e.frz⟩
theorem Rep.has (r:Rep K ρ st H) (h:ρ.m[n]?=some (some a)):∃x,st[n]?=some x/\OAt K ρ H x a:=by
 have hn:n < st.length:=by rw[← r.len];exact (xbn.mp h).1
 exact ⟨st[n],xbg hn,r.obj n a _ h (xbg hn)⟩
theorem Rep.new (r:Rep K ρ st H) (hp:H p=none) (o:HO):Rep K ρ st (upd H p o):=⟨r.len,r.inj,fun m b x e1 e2=>by
 have q:=r.obj m b x e1 e2;obtain ⟨u,hu⟩:=q.has;exact q.ext (Ext.new hp o) (zp (zh hu hp)),fun b hb=>by
 obtain ⟨⟨u,hu⟩,n⟩:=r.gh b hb
 exact ⟨⟨u,by rw[zp (zh hu hp)];exact hu⟩,n⟩,r.live⟩
theorem Rep.wr (r:Rep K ρ st H) (h:ρ.m[n]?=some (some a)) (hz:∀ob u,H a≠some (.frz ob u)) {x:O} {o:HO} (q:OAt K ρ (upd H a o) x a):Rep K ρ (st.set n x) (upd H a o):=⟨by rw[r.len,xfz],r.inj,fun m b y e1 e2=>by
 by_cases hm:m=n
 ·subst hm;have hb:b=a:=by rw[h] at e1;exact (xck (xck e1)).symm
  subst hb;have hl:m < st.length:=by rw[← r.len];exact (xbn.mp h).1
  rw[xfu hl] at e2;cases e2;exact q
 ·rw[xdt (xfc hm)] at e2;refine (r.obj m b y e1 e2).ext (Ext.wr h hz o) (zp fun z=>hm ?_);subst z;exact r.inj m n b e1 h,fun b hb=>by
 obtain ⟨⟨u,hu⟩,n1⟩:=r.gh b hb;refine ⟨⟨u,?_⟩,n1⟩;rw[zp]
 ·exact hu
 ·rintro rfl;exact n1 (xcz h),fun m y e ne=>by
 by_cases hm:m=n
 ·subst hm;exact ⟨a,h⟩
 ·rw[xdt (xfc hm)] at e
  exact r.live m y e ne⟩
theorem Rep.alloc (r:Rep K ρ st H) (hp:H p=none) {x:O} {o:HO} (q:Ext ρ H ⟨ρ.m++[some p],ρ.g⟩ (upd H p o)->OAt K ⟨ρ.m++[some p],ρ.g⟩ (upd H p o) x p):Ext ρ H ⟨ρ.m++[some p],ρ.g⟩ (upd H p o)/\Rep K ⟨ρ.m++[some p],ρ.g⟩ (st++[x]) (upd H p o):=by
 have hn:∀(m:Nat) (b:Addr),(ρ.m++[some p])[m]?=some (some b)->(m < ρ.m.length/\ρ.m[m]?=some (some b))\/(m=ρ.m.length/\b=p):=fun m b e=>by
  rcases xfk m ρ.m.length with z | z
  ·rw[xbx z] at e;exact .inl ⟨z,e⟩
  ·rw[xch z] at e;have z2:m - ρ.m.length=0:=by
    have:=(xbn.mp e).1;simp at this;lia
   rw[z2] at e;simp at e;exact .inr ⟨by lia,e.symm⟩
 have nl:∀(m:Nat),ρ.m[m]?≠some (some p):=fun m e=>by
  obtain ⟨x,_,q⟩:=r.has e;obtain ⟨u,hu⟩:=q.has;rw[hp] at hu;cases hu
 have E:Ext ρ H ⟨ρ.m++[some p],ρ.g⟩ (upd H p o):=⟨by rw[xcd];lia,fun m b h e=>by
   rw[xbx h] at e;exact e,fun b u e m=>⟨by rw[zp (zh e hp)];exact e,fun z=>by
   rcases xca.mp z with z | z
   ·exact m z
   ·simp at z;subst z;rw[hp] at e;cases e⟩,rfl,fun b ob u e=>by rw[zp (zh e hp)];exact e⟩
 refine ⟨E,⟨by rw[xcd,xcd,r.len];rfl,fun m k b e1 e2=>?_,fun m b y e1 e2=>?_,fun b hb=>?_,fun m y e ne=>?_⟩⟩
 ·rcases hn m b e1 with ⟨h1,q1⟩ | ⟨h1,rfl⟩
  ·rcases hn k b e2 with ⟨h2,q2⟩ | ⟨h2,rfl⟩
   ·exact r.inj m k b q1 q2
   ·exact absurd q1 (nl m)
  ·rcases hn k b e2 with ⟨h2,q2⟩ | ⟨h2,_⟩
   ·exact absurd q2 (nl k)
   ·lia
 ·rcases hn m b e1 with ⟨h1,q1⟩ | ⟨h1,rfl⟩
  ·rw[xbx (by rw[← r.len];exact h1)] at e2;have q:=r.obj m b y q1 e2;obtain ⟨u,hu⟩:=q.has;exact q.ext E (zp (zh hu hp))
  ·rw[h1,r.len,xch (xbe _)] at e2;simp at e2;subst e2;exact q E
 ·obtain ⟨⟨u,hu⟩,n1⟩:=r.gh b hb;refine ⟨⟨u,by rw[zp (zh hu hp)];exact hu⟩,fun z=>?_⟩;rcases xca.mp z with z | z
  ·exact n1 z
  ·simp at z;subst z;rw[hp] at hu;cases hu
 ·rcases xfk m st.length with z | z
  ·rw[xbx z] at e;obtain ⟨b,hb⟩:=r.live m y e ne;exact ⟨b,by rw[xbx (by rw[r.len];exact z)];exact hb⟩
  ·have z2:=(xbn.mp e).1;simp at z2;have z3:m=ρ.m.length:=by rw[r.len];lia
   exact ⟨p,by rw[z3,xch (xbe _)];simp⟩
theorem zfl (r:Rep K ρ st H) (hp:H p=none):Out ρ p:=by
 refine ⟨fun z=>?_,fun z=>?_⟩
 ·obtain ⟨i,hi,e⟩:=xfs z;obtain ⟨x,_,q⟩:=r.has (n:=i) (a:=p) (by rw[xbg hi,e]);obtain ⟨u,hu⟩:=q.has;rw[hp] at hu;cases hu
 ·obtain ⟨⟨u,hu⟩,_⟩:=r.gh p z;rw[hp] at hu;cases hu
theorem At.newT (r:Rep K ρ st H) (hp:H p=none) {ds:List D} {vs:List V} (h:AtAll K ρ H ds vs):At K ρ (upd H p (.tup vs)) (.tup ds) (.ref p):=.tup zo (zfl r hp) (h.ext (Ext.new hp _))
theorem At.newL (r:Rep K ρ st H) (hp:H p=none) {ds:List D} {vs:List V} (h:AtAll K ρ H ds vs):At K ρ (upd H p (.lst vs)) (.lst ds) (.ref p):=.lst zo (zfl r hp) (h.ext (Ext.new hp _))
end
def eAnd (f f':SE):SE:=fun σ st=>(f σ st).bind fun v st1=>match v with
 | .bl true=>f' σ st1
 | .bl false=>.ok (.bl false) st1
 | _=>.stuck
def eOr (f f':SE):SE:=fun σ st=>(f σ st).bind fun v st1=>match v with
 | .bl true=>.ok (.bl true) st1
 | .bl false=>f' σ st1
 | _=>.stuck
def eNot (f:SE):SE:=fun σ st=>(f σ st).bind fun v st1=>match v with
 | .bl b=>.ok (.bl (!b)) st1
 | _=>.stuck
def bAnd (f f':ST):ST:=fun σ st=>(f σ st).bind fun b st1=>if b=true then f' σ st1 else .ok false st1
def bOr (f f':ST):ST:=fun σ st=>(f σ st).bind fun b st1=>if b=true then .ok true st1 else f' σ st1
def bNot (f:ST):ST:=fun σ st=>(f σ st).bind fun b st1=>.ok (!b) st1
def eIf (c:ST) (f f':SE):SE:=fun σ st=>(c σ st).bind fun b st1=>if b=true then f σ st1 else f' σ st1
section
variable {X:Cx} {a b:Expr} {rest:List Expr} {f f':SE} {t t':ST} {pos:Pos}
theorem zbbc {op} (h:DT X a t) (hop:op=.And\/op=.Or):DW X (.BoolOp op [a] pos) t:=by
 rcases hop with rfl | rfl
 ·exact pw_and1 h
 ·exact pw_or1 h
theorem zbbd (ha:DT X a t) (hb:DW X (.BoolOp .And (b::rest) pos) t'):DW X (.BoolOp .And (a::b::rest) pos) (bAnd t t'):=pw_to (pw_and ha hb) fun τ H Q hq0=>by
 obtain ⟨ρ,σ,st,v,st',at',rp,e,q⟩:=hq0;obtain ⟨x,st1,e1,e⟩:=zb e;refine ⟨ρ,σ,st,x,st1,at',rp,e1,fun ρ1 H1 x1 rp1=>?_⟩;cases x with
 | true=>exact iteT ⟨ρ1,σ,st1,v,st',at'.ext x1,rp1,e,fun ρ' H' x2=>q ρ' H' (x1.trans x2)⟩
 | false=>cases e;exact iteF (q _ _ x1 rp1)
theorem zbek (ha:DT X a t) (hb:DW X (.BoolOp .Or (b::rest) pos) t'):DW X (.BoolOp .Or (a::b::rest) pos) (bOr t t'):=pw_to (pw_or ha hb) fun τ H Q hq0=>by
 obtain ⟨ρ,σ,st,v,st',at',rp,e,q⟩:=hq0;obtain ⟨x,st1,e1,e⟩:=zb e;refine ⟨ρ,σ,st,x,st1,at',rp,e1,fun ρ1 H1 x1 rp1=>?_⟩;cases x with
 | false=>exact iteF ⟨ρ1,σ,st1,v,st',at'.ext x1,rp1,e,fun ρ' H' x2=>q ρ' H' (x1.trans x2)⟩
 | true=>cases e;exact iteT (q _ _ x1 rp1)
theorem zbbg (ha:DT X a t):DT X (.UnaryOp .Not a pos) (bNot t):=zze (zzf ha) fun τ H Q hq0=>by
 obtain ⟨ρ,σ,st,v,st',at',rp,e,q⟩:=hq0;obtain ⟨x,st1,e1,e⟩:=zb e;cases e;exact ⟨ρ,σ,st,x,_,at',rp,e1,fun ρ1 H1 x1 rp1=>q _ _ x1 rp1⟩
end
def aNil:SA:=fun _ st=>.ok [] st
def aCons (f:SE) (g:SA):SA:=fun σ st=>(f σ st).bind fun x st1=>(g σ st1).bind fun xs st2=>.ok (x::xs) st2
def eTup (g:SA):SE:=fun σ st=>(g σ st).bind fun xs st1=>if xs.length<=sizeLine then .ok (.tup xs) st1 else .stuck
def eLst (g:SA):SE:=fun σ st=>(g σ st).bind fun xs st1=>if xs.length<=sizeLine then .ok (.lst xs) st1 else .stuck
def eLstM (g:SA):SE:=fun σ st=>(g σ st).bind fun xs st1=>if xs.length<=sizeLine then .ok (.ref st1.length) (st1++[.lst xs]) else .stuck
section
variable {X:Cx} {e:Expr} {es:List Expr} {f:SE} {g:SA} {pos:Pos}
theorem zbbp:DA X [] aNil:=zbcx zqz fun τ H Q hq0=>by
 obtain ⟨ρ,σ,st,v,st',a,rp,e,q⟩:=hq0;cases e;exact q _ _ _ (.refl _ _) rp .nil
theorem zwx (ha:DE X e f) (hr:DA X es g) (hs:starEach (e::es) X.env=(false,eval e X.env)::starEach es X.env:=by rfl):DA X (e::es) (aCons f g):=zbcx (zkp ha hr hs) fun τ H Q hq0=>by
 obtain ⟨ρ,σ,st,v,st',a,rp,e,q⟩:=hq0;obtain ⟨x,st1,e1,e⟩:=zb e;obtain ⟨y,st2,e2,e⟩:=zb e;cases e;refine ⟨ρ,σ,st,x,st1,a,rp,e1,fun ρ1 H1 u x1 rp1 a1=>?_⟩;exact ⟨ρ1,σ,st1,y,_,a.ext x1,rp1,e2,fun ρ2 H2 w x2 rp2 a2=>q _ _ _ (x1.trans x2) rp2 (.cons (a1.ext x2) a2)⟩
theorem zbep {x1} (h:DA X es g):DE X (.Tuple es x1 pos) (eTup g):=zek (zzo h) fun τ H Q hq0=>by
 obtain ⟨ρ,σ,st,v,st',a,rp,e,q⟩:=hq0;obtain ⟨x,st1,e1,e⟩:=zb e;split at e
 ·rename_i hl;cases e;refine ⟨ρ,σ,st,x,_,a,rp,e1,fun ρ1 H1 u x1 rp1 a1=>⟨by rw[a1.length];exact hl,fun p hp=>?_⟩⟩;exact q ρ1 _ _ (x1.trans (Ext.new hp _)) (rp1.new hp _) (.newT rp1 hp a1)
 ·cases e
theorem zbet (h:DA X es g):DE X (.List es pos) (eLst g):=zek (zuq h) fun τ H Q hq0=>by
 obtain ⟨ρ,σ,st,v,st',a,rp,e,q⟩:=hq0;obtain ⟨x,st1,e1,e⟩:=zb e;split at e
 ·rename_i hl;cases e;refine ⟨ρ,σ,st,x,_,a,rp,e1,fun ρ1 H1 u x1 rp1 a1=>⟨by rw[a1.length];exact hl,fun p hp=>?_⟩⟩;exact q ρ1 _ _ (x1.trans (Ext.new hp _)) (rp1.new hp _) (.newL rp1 hp a1)
 ·cases e
theorem At.last {K:Fg} {ρ:Loc} {H:Hp} {p:Addr} {n:Nat} (h:n=ρ.m.length):At K ⟨ρ.m++[some p],ρ.g⟩ H (.ref n) (.ref p):=by
 subst h;refine .ref (by simp) fun a e=>?_
 simp at e;rw[e]
theorem zbbr (h:DA X es g):DE X (.List es pos) (eLstM g):=zek (zuq h) fun τ H Q hq0=>by
 obtain ⟨ρ,σ,st,v,st',a,rp,e,q⟩:=hq0;obtain ⟨x,st1,e1,e⟩:=zb e;split at e
 ·rename_i hl;cases e;refine ⟨ρ,σ,st,x,_,a,rp,e1,fun ρ1 H1 u x1 rp1 a1=>⟨by rw[a1.length];exact hl,fun p hp=>?_⟩⟩;obtain ⟨E,R⟩:=rp1.alloc hp (x:=.lst x) (o:=.lst u) fun E=>⟨u,zo,a1.ext E⟩
  exact q _ _ _ (x1.trans E) R (.last rp1.len.symm)
 ·cases e
end
def asL (st:Store):D->Option (List D)
 | .lst xs=>some xs
 | .ref n=>match st[n]? with
  | some (.lst xs)=>some xs
  | _=>none
 | _=>none
section
variable {K:Fg} {ρ:Loc} {st:Store} {H:Hp} {d:D} {u:V} {xs:List D}
theorem zel (rp:Rep K ρ st H) {n:Nat} {o:O} (a:At K ρ H (.ref n) u) (e:st[n]?=some o) (hd:o≠.dead):∃p,u=.ref p/\ρ.m[n]?=some (some p)/\OAt K ρ H o p:=by
 cases a with
 | ref h1 h2 =>
  obtain ⟨p,hp⟩:=rp.live n o e hd;exact ⟨p,h2 p hp,hp,rp.obj n p o hp e⟩
theorem zen (rp:Rep K ρ st H) (a:At K ρ H d u) (e:asL st d=some xs):∃p vs,u=.ref p/\H p=some (.lst vs)/\AtAll K ρ H xs vs:=by
 cases d<;>try (cases e;done)
 ·rename_i n;unfold asL at e;dsimp only at e;split at e
  ·rename_i ys hys;cases e;obtain ⟨p,rfl,hp,vs,q1,q2⟩:=zel rp a hys (by intro z;cases z);exact ⟨p,vs,rfl,q1,q2⟩
  ·cases e
 ·cases e;cases a with
  | lst h1 h2 h3=>exact ⟨_,_,rfl,h1,h3⟩
end
def oI (C:Int->Int->Prop) [DecidableRel C] (h:Int->Int->D) (x y:D) (st:Store):Res D:=match x,y with
 | .int i,.int j=>if C i j then .ok (h i j) st else .stuck
 | _,_=>.stuck
theorem oI_D {K:Fg} {C:Int->Int->Prop} [DecidableRel C] {h:Int->Int->D} {g:Int->Int->V} (k:∀i j ρ H,At K ρ H (h i j) (g i j)):OpD K (oI C h) (rI C g):=fun ρ H st x y u v z st' Q rp a b e q=>by
 unfold oI at e;split at e
 ·cases a;cases b;split at e
  ·rename_i hc;cases e;exact ⟨_,_,rfl,rfl,hc,q _ _ _ (.refl _ _) rp (k _ _ _ _)⟩
  ·cases e
 ·cases e
theorem znj {K:Fg} {h:Int->Int->D} {g:Int->Int->V} (k:∀i j ρ H,At K ρ H (h i j) (g i j)):OpD K (oI (fun _ _=>True) h) (rI0 g):=fun ρ H st x y u v z st' Q rp a b e q=>by
 obtain ⟨i,j,e1,e2,_,e3⟩:=oI_D (C:=fun _ _=>True) k ρ H st x y u v z st' Q rp a b e q;exact ⟨i,j,e1,e2,e3⟩
instance:DecidableRel CMul:=fun i j=>by unfold CMul;infer_instance
instance:DecidableRel CDivP:=fun i j=>by unfold CDivP;infer_instance
instance:DecidableRel CPow:=fun i j=>by unfold CPow;infer_instance
abbrev oSub:=oI (fun _ _=>True) fun i j=>.int (i - j)
abbrev oFdiv:=oI CDivP fun i j=>.int (i / j)
abbrev oMod:=oI (fun _ j=>0 < j) fun i j=>.int (i % j)
abbrev oPow:=oI CPow fun i j=>.int (i ^ j.toNat)
abbrev oMulI:=oI CMul fun i j=>.int (i * j)
def oAdd (x y:D) (st:Store):Res D:=match x,y with
 | .int i,.int j=>.ok (.int (i+j)) st
 | .tup a,.tup b=>if a.length+b.length<=sizeLine then .ok (.tup (a++b)) st else .stuck
 | .str a,.str b=>if a.length+b.length<=sizeLine then .ok (.str (a++b)) st else .stuck
 | x,y=>match asL st x,asL st y with
  | some a,some b=>if a.length+b.length<=sizeLine then .ok (.lst (a++b)) st else .stuck
  | _,_=>.stuck
abbrev rAddA (K:Fg):R2:=fun x y H Q=>rI0 (fun i j=>.int (i+j)) x y H Q\/rCatA K x y H Q\/(∃i j,x=.str i/\y=.str j/\i.length+j.length<=sizeLine/\Q (.str (i++j)) H)\/rCat x y H Q
section
variable {X:Cx}
theorem zbi:OpR X (binaryOp .Add) (rAddA X.K):=zzt.or (zvc.or (zkt.or zzs))
theorem zco {K:Fg}:OpD K oAdd (rAddA K):=fun ρ H st x y u v z st' Q rp a b e q=>by
 unfold oAdd at e;split at e
 ·cases a;cases b;cases e;exact .inl ⟨_,_,rfl,rfl,q _ _ _ (.refl _ _) rp (.int _)⟩
 ·rename_i ds es;split at e
  ·rename_i hl;cases e;refine .inr (.inl ?_);cases a with
   | tup h1 h2 h3 =>
    cases b with
    | tup k1 k2 k3 =>
     refine ⟨_,_,_,_,rfl,rfl,SqT.of h1,SqT.of k1,by rw[h3.length,k3.length];exact hl,fun z=>?_,fun z1 z2=>?_,fun z1 z2 p hp=>?_⟩
     ·subst z;cases h3;exact q _ _ _ (.refl _ _) rp (.tup k1 k2 k3)
     ·subst z2;cases k3;rw[xej] at q;exact q _ _ _ (.refl _ _) rp (.tup h1 h2 h3)
     ·exact q _ _ _ (Ext.new hp _) (rp.new hp _) (.newT rp hp (h3.append k3))
  ·cases e
 ·split at e
  ·rename_i hl;cases a;cases b;cases e;exact .inr (.inr (.inl ⟨_,_,rfl,rfl,hl,q _ _ _ (.refl _ _) rp (.str _)⟩))
  ·cases e
 ·split at e
  ·rename_i h1 h2;split at e
   ·rename_i hl;cases e;obtain ⟨p,vs,rfl,g1,g2⟩:=zen rp a h1;obtain ⟨p',ws,rfl,k1,k2⟩:=zen rp b h2;exact .inr (.inr (.inr ⟨_,_,_,_,rfl,rfl,g1,k1,by rw[g2.length,k2.length];exact hl,fun t ht=>q _ _ _ (Ext.new ht _) (rp.new ht _) (.newL rp ht (g2.append k2))⟩))
   ·cases e
  ·cases e
end
abbrev oGt:=oI (fun _ _=>True) fun i j=>.bl (decide (j < i))
mutual
def toData:D->Option PyData
 | .non=>some .none
 | .bl b=>some (.bool b)
 | .int i=>some (.int i)
 | .str x=>some (.str x)
 | .tup ds=>(toDatas ds).map .tuple
 | .lst ds=>(toDatas ds).map .list
 | _=>none
def toDatas:List D->Option (List PyData)
 | []=>some []
 | d::ds=>(toData d).bind fun x=>(toDatas ds).map fun xs=>x::xs
end
mutual
theorem zpw {K:Fg} {ρ:Loc} {H:Hp}:∀{d:D} {v:V} {p:PyData},At K ρ H d v->toData d=some p->DAt K H v p
 | _,_,_,.non,e=>by cases e;exact .non
 | _,_,_,.bl b,e=>by cases e;exact .bl b
 | _,_,_,.int i,e=>by cases e;exact .int i
 | _,_,_,.str x,e=>by cases e;exact .str x
 | _,_,_,.ty n,e=>by cases e
 | _,_,_,.exn _,e=>by cases e
 | _,_,_,.ref _ _,e=>by cases e
 | _,_,_,.tup h _ al,e=>by
  rw[toData] at e;obtain ⟨ps,e1,rfl⟩:=xdg.mp e;exact .tup (SqT.of h) (zfs al e1)
 | _,_,_,.lst h _ al,e=>by
  rw[toData] at e;obtain ⟨ps,e1,rfl⟩:=xdg.mp e;exact .lst (SqL.of h) (zfs al e1)
 | _,_,_,.scr _ _,e=>by cases e
theorem zfs {K:Fg} {ρ:Loc} {H:Hp}:∀{d:List D} {v:List V} {p:List PyData},AtAll K ρ H d v->toDatas d=some p->DAll K H v p
 | _,_,_,.nil,e=>by cases e;exact .nil
 | _,_,_,.cons a b,e=>by
  rw[toDatas] at e;obtain ⟨x,e1,e⟩:=xed.mp e;obtain ⟨xs,e2,rfl⟩:=xdg.mp e;exact .cons (zpw a e1) (zfs b e2)
end
def now (st:Store) (d:D):D:=match asL st d with
 | some xs=>.lst xs
 | none=>d
def dataOf (st:Store) (d:D):Option PyData:=toData (now st d)
theorem zir {K:Fg} {ρ:Loc} {st:Store} {H:Hp} (rp:Rep K ρ st H) {d:D} {u:V} {p:PyData} (a:At K ρ H d u) (e:dataOf st d=some p):DAt K H u p:=by
 unfold dataOf now at e;split at e
 ·rename_i xs hx;obtain ⟨q,vs,rfl,h1,h2⟩:=zen rp a hx;rw[toData] at e;obtain ⟨ps,e1,rfl⟩:=xdg.mp e;exact .lst (SqL.of h1) (zfs h2 e1)
 ·exact zpw a e
def oEqG (neg:Bool) (x y:D) (st:Store):Res D:=match dataOf st x,dataOf st y with
 | some a,some b=>if PySem.SeqAt.shaped a=true/\PySem.SeqAt.shaped b=true then .ok (.bl (if neg then !PyData.eqv a b else PyData.eqv a b)) st else .stuck
 | _,_=>.stuck
theorem zpe {K:Fg} {neg:Bool}:OpD K (oEqG neg) (rEqX K neg):=fun ρ H st x y u v z st' Q rp a b e q=>by
 unfold oEqG at e;split at e
 ·rename_i p1 p2 h1 h2;split at e
  ·rename_i hs;cases e;exact ⟨_,_,zir rp a h1,zir rp b h2,hs.1,hs.2,q _ _ _ (.refl _ _) rp (.bl _)⟩
  ·cases e
 ·cases e
abbrev oEq:=oEqG false
abbrev oNe:=oEqG true
def asInts:List D->Option (List Int)
 | []=>some []
 | .int i::r=>(asInts r).map (i::·)
 | _::_=>none
theorem zbg {K:Fg} {ρ:Loc} {H:Hp}:∀{ds:List D} {vs:List V} {ns:List Int},AtAll K ρ H ds vs->asInts ds=some ns->vs=ns.map V.int
 | _,_,_,.nil,e=>by cases e;rfl
 | _,_,_,.cons (d:=d) a b,e=>by
  cases d<;>try (cases e;done)
  rw[asInts] at e;obtain ⟨ms,e1,rfl⟩:=xdg.mp e;cases a;rw[zbg b e1]
  rfl
def oLtT (x y:D) (st:Store):Res D:=match x,y with
 | .int i,.int j=>.ok (.bl (decide (i < j))) st
 | .tup a,.tup b=>match asInts a,asInts b with
  | some ns,some ms=>.ok (.bl (HT.lexLt ns ms)) st
  | _,_=>.stuck
 | _,_=>.stuck
abbrev rLtA (K:Fg):R2:=fun x y H Q=>rI0 (fun i j=>.bl (decide (i < j))) x y H Q\/rLtT K x y H Q
theorem zrc {X:Cx} (hu:X.A.units < cLine):OpR X (compareOp .Lt) (rLtA X.K):=zbdv.or (zzr hu)
theorem zrf {K:Fg}:OpD K oLtT (rLtA K):=fun ρ H st x y u v z st' Q rp a b e q=>by
 unfold oLtT at e;split at e
 ·cases a;cases b;cases e
  exact .inl ⟨_,_,rfl,rfl,q _ _ _ (.refl _ _) rp (.bl _)⟩
 ·split at e
  ·rename_i h1 h2;cases e;cases a with
   | tup g1 g2 g3 =>
    cases b with
    | tup k1 k2 k3 =>
     have e1:=zbg g3 h1;have e2:=zbg k3 h2;subst e1 e2;exact .inr ⟨_,_,_,_,rfl,rfl,SqT.of g1,SqT.of k1,q _ _ _ (.refl _ _) rp (.bl _)⟩
  ·cases e
 ·cases e
def seqOf (st:Store):D->Option (List D)
 | .tup xs=>some xs
 | .scr xs=>some xs
 | d=>asL st d
theorem zdq {K:Fg} {ρ:Loc} {st:Store} {H:Hp} (rp:Rep K ρ st H) {d:D} {u:V} {xs:List D} (a:At K ρ H d u) (e:seqOf st d=some xs) :
  ∃p vs,u=.ref p/\(SqL K H p vs\/SqT K H p vs)/\AtAll K ρ H xs vs:=by
 unfold seqOf at e;split at e
 ·cases e;cases a with
  | tup h1 h2 h3=>exact ⟨_,_,rfl,.inr (SqT.of h1),h3⟩
 ·cases e;cases a with
  | scr h1 h3=>exact ⟨_,_,rfl,.inl h1.sq,h3⟩
 ·obtain ⟨p,vs,rfl,h1,h2⟩:=zen rp a e;exact ⟨p,vs,rfl,.inl (SqL.of h1),h2⟩
theorem AtAll.atI {K:Fg} {ρ:Loc} {H:Hp} {ds:List D} {vs:List V} {i:Int} {d:D} (h:AtAll K ρ H ds vs) (e:L2.atI ds i=some d):∃v,L2.atI vs i=some v/\At K ρ H d v:=by
 unfold L2.atI at e ⊢;rw[h.length];cases hi:ixN ds.length i with
 | none=>rw[hi] at e;cases e
 | some j =>
  rw[hi] at e;obtain ⟨v,e1,e2⟩:=h.get (i:=j) e;exact ⟨v,e1,e2⟩
def oIx (x y:D) (st:Store):Res D:=match seqOf st x,y with
 | some xs,.int i=>match L2.atI xs i with
  | some v=>.ok v st
  | none=>.stuck
 | _,_=>.stuck
theorem zbdz {K:Fg}:OpD K oIx (rIx K):=fun ρ H st x y u v z st' Q rp a b e q=>by
 unfold oIx at e;split at e
 ·rename_i h1;split at e
  ·rename_i w hw;cases e;cases b;obtain ⟨p,vs,rfl,h2,h3⟩:=zdq rp a h1;obtain ⟨w',e2,a2⟩:=h3.atI hw;rcases h2 with h2 | h2
   ·exact .inl ⟨_,_,_,_,rfl,rfl,h2,e2,q _ _ _ (.refl _ _) rp a2⟩
   ·exact .inr (.inl ⟨_,_,_,_,rfl,rfl,h2,e2,q _ _ _ (.refl _ _) rp a2⟩)
  ·cases e
 ·cases e
def cutD (xs:List D) (lo hi:Option Int):List D:=(xs.drop (HT.sIx xs.length 0 lo)).take (HT.sIx xs.length xs.length hi - HT.sIx xs.length 0 lo)
theorem AtAll.cut {K:Fg} {ρ:Loc} {H:Hp} {ds:List D} {vs:List V} (h:AtAll K ρ H ds vs) (lo hi:Option Int):AtAll K ρ H (cutD ds lo hi) (cutV vs lo hi):=by
 unfold cutD cutV;rw[h.length];exact (h.drop _).take _
def pNone:DS->Store->Res (Option Int):=fun _ st=>.ok none st
def pSome (f:SE):DS->Store->Res (Option Int):=fun σ st=>(f σ st).bind fun v st1=>match v with
 | .int i=>.ok (some i) st1
 | _=>.stuck
def eSl (f:SE) (lo hi:DS->Store->Res (Option Int)):SE:=fun σ st=>(f σ st).bind fun x st1=>(lo σ st1).bind fun l st2=>(hi σ st2).bind fun h st3=>match x with
 | .tup xs=>.ok (.tup (cutD xs l h)) st3
 | x=>match asL st3 x with
  | some xs=>.ok (.lst (cutD xs l h)) st3
  | none=>.stuck
def tDO (K:Fg) (f:DS->Store->Res (Option Int)):TO:=fun τ H Q=>∃ρ σ st v st',AtS K ρ H σ τ/\Rep K ρ st H/\f σ st=.ok v st'/\∀ρ' H',Ext ρ H ρ' H'->Rep K ρ' st' H'->Q v H'
abbrev DO (X:Cx) (e:Option Expr) (f:DS->Store->Res (Option Int)):Prop:=PO X e (tDO X.K f)
section
variable {X:Cx} {a b e:Expr} {f f':SE} {pos:Pos} {lo hi:Option Expr} {l h:DS->Store->Res (Option Int)}
theorem zbcw {t t':TO} {e:Option Expr} (h:PO X e t) (k:∀σ H Q,t' σ H Q->t σ H Q):PO X e t':=fun pins s σ H Q I q=>h pins s σ H Q I (k _ _ _ q)
theorem zwp:DO X none pNone:=zbcw zuj fun τ H Q hq0=>by
 obtain ⟨ρ,σ,st,v,st',a,rp,e,q⟩:=hq0;cases e;exact q _ _ (.refl _ _) rp
theorem zwo (he:DE X e f):DO X (some e) (pSome f):=zbcw (zui he) fun τ H Q hq0=>by
 obtain ⟨ρ,σ,st,v,st',a,rp,e,q⟩:=hq0;obtain ⟨x,st1,e1,e⟩:=zb e;refine ⟨ρ,σ,st,x,st1,a,rp,e1,fun ρ1 H1 u x1 rp1 a1=>?_⟩;cases x<;>try (cases e;done)
 cases e;cases a1;exact ⟨_,rfl,q _ _ x1 rp1⟩
theorem d_ix (ha:DE X a f) (hb:DE X b f') (hs:PlainIx b):DE X (.Subscript a b pos) (eOp oIx f f'):=zek (zbds zbam ha hb hs) (zyf zbdz)
theorem d_sl {p2:Pos} (he:DE X e f) (hl:DO X lo l) (hu:DO X hi h):DE X (.Subscript e (.Slice lo hi none p2) pos) (eSl f l h):=zek (zqt (ztu.or ztv) he hl hu) fun τ H Q hq0=>by
 obtain ⟨ρ,σ,st,v,st',a,rp,e,q⟩:=hq0;obtain ⟨x,st1,e1,e⟩:=zb e;obtain ⟨y,st2,e2,e⟩:=zb e;obtain ⟨z,st3,e3,e⟩:=zb e;refine ⟨ρ,σ,st,x,st1,a,rp,e1,fun ρ1 H1 u x1 rp1 a1=>?_⟩;refine ⟨ρ1,σ,st1,y,st2,a.ext x1,rp1,e2,fun ρ2 H2 x2 rp2=>?_⟩;refine ⟨ρ2,σ,st2,z,st3,a.ext (x1.trans x2),rp2,e3,fun ρ3 H3 x3 rp3=>?_⟩;have a3:=a1.ext (x2.trans x3);have X3:=x1.trans (x2.trans x3);split at e
 ·cases e;refine .inl ?_;cases a3 with
  | tup h1 h2 h3 =>
   refine ⟨_,_,rfl,SqT.of h1,fun ec=>?_,fun p hp=>?_⟩
   ·refine q _ _ _ X3 rp3 (.tup h1 h2 ?_);have:=h3.cut y z;rw[ec] at this;exact this
   ·exact q _ _ _ (X3.trans (Ext.new hp _)) (rp3.new hp _) (.newT rp3 hp (h3.cut y z))
 ·split at e
  ·rename_i xs hx;cases e;obtain ⟨p,vs,rfl,g1,g2⟩:=zen rp3 a3 hx;exact .inr ⟨_,_,rfl,SqL.of g1,fun p hp=>q _ _ _ (X3.trans (Ext.new hp _)) (rp3.new hp _) (.newL rp3 hp (g2.cut y z))⟩
  ·cases e
end
end Dd
namespace Dd
open PySem L2
def eCall (g:List D->Store->Res D) (f:SA):SE:=fun σ st=>(f σ st).bind fun xs st1=>g xs st1
def CaD (K:Fg) (g:List D->Store->Res D) (r:List V->Hp->VK->Prop):Prop :=
 ∀ρ H st xs us z st' (Q:VK),Rep K ρ st H->AtAll K ρ H xs us->g xs st=.ok z st'->(∀ρ' H' w,Ext ρ H ρ' H'->Rep K ρ' st' H'->At K ρ' H' z w->Q w H')->r us H Q
theorem zxq {K:Fg} {g:List D->Store->Res D} {r:List V->Hp->VK->Prop} (hr:CaD K g r) {f:SA}:∀τ H Q,tD K (eCall g f) τ H Q->tCB r (tDA K f) τ H Q:=fun τ H Q hq0=>by
 obtain ⟨ρ,σ,st,v,st',a,rp,e,q⟩:=hq0;obtain ⟨x,st1,e1,e⟩:=zb e;exact ⟨ρ,σ,st,x,st1,a,rp,e1,fun ρ1 H1 u x1 rp1 a1=>hr ρ1 H1 st1 x u v st' Q rp1 a1 e fun ρ' H' w x2=>q ρ' H' w (x1.trans x2)⟩
section
variable {X:Cx} {x:Str} {p pos:Pos} {e:Expr} {es:List Expr} {f:SA} {id T:String} {r:List V->Hp->VK->Prop} {g:List D->Store->Res D}
theorem zxg (hc : CallR X (.builtin id) r) (hr : CaD X.K g r) (hg : Gl X x) (hm : X.mg x = none) (hv : bootBuiltins x = some (.builtin id)) (ha : DA X (e :: es) f) (hn : x ≠ "__name__" := by decide) (hdb : (x == ("__debug__" : Str)) = false := by decide)
 (he:starEach (e::es) X.env=(false,eval e X.env)::starEach es X.env:=by rfl) (hpl:(backTo pos (starEach es X.env)).any (·.1)=false:=by rfl):DE X (.Call (.Name x p) (e::es) [] pos) (eCall g f):=zek (zko hc hg hm hv ha hn hdb he hpl) (zxq hr)
theorem zsi (hc : CallR X (.type T) r) (hr : CaD X.K g r) (hg : Gl X x) (hm : X.mg x = none) (hv : bootBuiltins x = some (.type T)) (ha : DA X (e :: es) f) (hn : x ≠ "__name__" := by decide) (hdb : (x == ("__debug__" : Str)) = false := by decide)
 (he:starEach (e::es) X.env=(false,eval e X.env)::starEach es X.env:=by rfl) (hpl:(backTo pos (starEach es X.env)).any (·.1)=false:=by rfl):DE X (.Call (.Name x p) (e::es) [] pos) (eCall g f):=zek (zdj hc hg hm hv ha hn hdb he hpl) (zxq hr)
end
theorem AtAll.one {K:Fg} {ρ:Loc} {H:Hp} {d:D} {us:List V} (h:AtAll K ρ H [d] us):∃u,us=[u]/\At K ρ H d u:=by
 cases h with
 | cons a b=>cases b;exact ⟨_,rfl,a⟩
theorem AtAll.two {K:Fg} {ρ:Loc} {H:Hp} {d e:D} {us:List V} (h:AtAll K ρ H [d,e] us):∃u v,us=[u,v]/\At K ρ H d u/\At K ρ H e v:=by
 cases h with
 | cons a b =>
  obtain ⟨v,rfl,c⟩:=b.one;exact ⟨_,_,rfl,a,c⟩
def bLen:List D->Store->Res D:=fun xs st=>match xs with
 | [x]=>match seqOf st x with
  | some ys=>.ok (.int ys.length) st
  | none=>.stuck
 | _=>.stuck
theorem zov {K:Fg}:CaD K bLen (fun xs H Q=>∃p ys,xs=[.ref p]/\(SqL K H p ys\/SqT K H p ys)/\Q (.int ys.length) H):=fun ρ H st xs us z st' Q rp aa e q=>by
 unfold bLen at e;split at e
 ·split at e
  ·rename_i h;cases e;obtain ⟨u,rfl,a⟩:=aa.one;obtain ⟨p,vs,rfl,h1,h2⟩:=zdq rp a h;refine ⟨p,vs,rfl,h1,?_⟩;rw[h2.length];exact q _ _ _ (.refl _ _) rp (.int _)
  ·cases e
 ·cases e
def bAbs:List D->Store->Res D:=fun xs st=>match xs with
 | [.int i]=>.ok (.int (if i < 0 then -i else i)) st
 | _=>.stuck
theorem zbck {K:Fg}:CaD K bAbs (fun xs H Q=>∃i,xs=[.int i]/\Q (.int (if i < 0 then -i else i)) H):=fun ρ H st xs us z st' Q rp aa e q=>by
 unfold bAbs at e;split at e
 ·cases e;obtain ⟨u,rfl,a⟩:=aa.one;cases a;exact ⟨_,rfl,q _ _ _ (.refl _ _) rp (.int _)⟩
 ·cases e
def b2I (g:Int->Int->Int):List D->Store->Res D:=fun xs st=>match xs with
 | [.int i,.int j]=>.ok (.int (g i j)) st
 | _=>.stuck
theorem zbcl {K:Fg} {g:Int->Int->Int}:CaD K (b2I g) (fun xs H Q=>∃i j,xs=[.int i,.int j]/\Q (.int (g i j)) H):=fun ρ H st xs us z st' Q rp aa e q=>by
 unfold b2I at e;split at e
 ·cases e;obtain ⟨u,v,rfl,a,b⟩:=aa.two;cases a;cases b;exact ⟨_,_,rfl,q _ _ _ (.refl _ _) rp (.int _)⟩
 ·cases e
abbrev bMin2:=b2I fun i j=>if j < i then j else i
abbrev bMax2:=b2I fun i j=>if j > i then j else i
def bSum:List D->Store->Res D:=fun xs st=>match xs with
 | [x]=>match (seqOf st x).bind asInts with
  | some ns=>.ok (.int ns.sum) st
  | none=>.stuck
 | _=>.stuck
theorem zjx {K:Fg}:CaD K bSum (rSum K):=fun ρ H st xs us z st' Q rp aa e q=>by
 unfold bSum at e;split at e
 ·split at e
  ·rename_i ns h;cases e;obtain ⟨ys,h0,h⟩:=xed.mp h;obtain ⟨u,rfl,a⟩:=aa.one;obtain ⟨p,vs,rfl,h1,h2⟩:=zdq rp a h0;have e:=zbg h2 h;subst e;exact ⟨p,ns,rfl,h1,q _ _ _ (.refl _ _) rp (.int _)⟩
  ·cases e
 ·cases e
def asBools:List D->Option (List Bool)
 | []=>some []
 | .bl i::r=>(asBools r).map (i::·)
 | _::_=>none
def bAny (al:Bool):List D->Store->Res D:=fun xs st=>match xs with
 | [x]=>match (asL st x).bind asBools with
  | some bs=>.ok (.bl (if al then bs.all id else bs.any id)) st
  | none=>.stuck
 | _=>.stuck
def tyName (st:Store):D->Option String
 | .non => some "NoneType"
 | .bl _ => some "bool"
 | .int _ => some "int"
 | .str _ => some "str"
 | .tup _ => some "tuple"
 | .lst _ => some "list"
 | .ref n=>match st[n]? with
  | some (.lst _) => some "list"
  | some (.dT _) => some "dict"
  | _=>none
 | _=>none
def isTy (t T : String) : Bool := t == T || (t == "bool" && T == "int")
def bIsinst:List D->Store->Res D:=fun xs st=>match xs with
 | [x,.ty T]=>match tyName st x with
  | some t => if ["int", "bool", "str", "tuple", "list", "dict"].contains T = true then .ok (.bl (isTy t T)) st else .stuck
  | none=>.stuck
 | _=>.stuck
theorem zmv {K : Fg} {ρ : Loc} {st : Store} {H : Hp} (rp : Rep K ρ st H) {d : D} {u : V} {t : String} (a : At K ρ H d u) (e : tyName st d = some t) : TyOf K H u (.type t) /\ t ∈ ["NoneType", "bool", "int", "str", "tuple", "list", "dict"] := by
 cases d<;>try (cases e;done)
 ·cases e;cases a;exact ⟨.non,by simp⟩
 ·cases e;cases a;exact ⟨.bl _,by simp⟩
 ·cases e;cases a;exact ⟨.int _,by simp⟩
 ·cases e;cases a;exact ⟨.str _,by simp⟩
 ·unfold tyName at e;dsimp only at e;split at e
  ·rename_i h;cases e;obtain ⟨p,rfl,hp,vs,q1,q2⟩:=zel rp a h (by intro z;cases z);exact ⟨.lst q1,by simp⟩
  ·rename_i h;cases e;obtain ⟨p,rfl,hp,vs,q1,q2⟩:=zel rp a h (by intro z;cases z);exact ⟨.dT q1,by simp⟩
  ·cases e
 ·cases e;cases a with
  | tup h1 h2 h3=>exact ⟨.tup h1,by simp⟩
 ·cases e;cases a with
  | lst h1 h2 h3=>exact ⟨.lst h1,by simp⟩
theorem zbaf {K : Fg} {t T : String} (ht : t ∈ ["NoneType", "bool", "int", "str", "tuple", "list", "dict"]) (hT : T ∈ ["int", "bool", "str", "tuple", "list", "dict"]) : PySem.W.kitOne K (.type t) (.type T) = some (isTy t T) := by
 simp only[xbo,List.not_mem_nil,or_false] at ht hT;rcases ht with rfl | rfl | rfl | rfl | rfl | rfl | rfl<;>rcases hT with rfl | rfl | rfl | rfl | rfl | rfl<;>rfl
theorem zjc {K:Fg}:CaD K bIsinst (fun xs H Q=>∃x T t b,xs=[x,.ty T]/\TyOf K H x t/\PySem.W.kitOne K t (.type T)=some b/\Q (.bl b) H):=fun ρ H st xs us z st' Q rp aa e q=>by
 unfold bIsinst at e;split at e
 ·split at e
  ·rename_i h;split at e
   ·rename_i hT;cases e;obtain ⟨u,v,rfl,a,b⟩:=aa.two;cases b;obtain ⟨h1,h2⟩:=zmv rp a h;exact ⟨_,_,_,_,rfl,h1,zbaf h2 (by simpa using hT),q _ _ _ (.refl _ _) rp (.bl _)⟩
   ·cases e
  ·cases e
 ·cases e
def bTuple:List D->Store->Res D:=fun xs st=>match xs with
 | [.tup ys]=>.ok (.tup ys) st
 | [x]=>match asL st x with
  | some ys=>.ok (.tup ys) st
  | none=>.stuck
 | _=>.stuck
theorem zfv {K:Fg}:CaD K bTuple (fun xs H Q=>∃p ys,xs=[.ref p]/\((SqL K H p ys/\∀l,H l=none->Q (.ref l) (upd H l (.tup ys)))\/(SqT K H p ys/\Q (.ref p) H))):=fun ρ H st xs us z st' Q rp aa e q=>by
 unfold bTuple at e;split at e
 ·cases e;obtain ⟨u,rfl,a⟩:=aa.one;cases a with
  | tup h1 h2 h3=>exact ⟨_,_,rfl,.inr ⟨SqT.of h1,q _ _ _ (.refl _ _) rp (.tup h1 h2 h3)⟩⟩
 ·split at e
  ·rename_i h;cases e;obtain ⟨u,rfl,a⟩:=aa.one;obtain ⟨p,vs,rfl,h1,h2⟩:=zen rp a h;exact ⟨_,_,rfl,.inl ⟨SqL.of h1,fun l hl=>q _ _ _ (Ext.new hl _) (rp.new hl _) (.newT rp hl h2)⟩⟩
  ·cases e
 ·cases e
def bList:List D->Store->Res D:=fun xs st=>match xs with
 | [x]=>match seqOf st x with
  | some ys=>.ok (.lst ys) st
  | none=>.stuck
 | _=>.stuck
abbrev rowD (ns:List Int):D:=.tup (ns.map .int)
abbrev rowsD (l:List (List Int)):List D:=l.map rowD
def insR (a:List Int):List (List Int)->List (List Int)
 | []=>[a]
 | b::r=>if HT.lexLt b a=true then b::insR a r else a::b::r
def sortR:List (List Int)->List (List Int)
 | []=>[]
 | a::r=>insR a (sortR r)
abbrev UpR (l:List (List Int)):Prop:=l.Pairwise fun a b=>HT.lexLt b a=false
theorem zfp (a:List Int):∀l,(insR a l).Perm (a::l)
 | []=>.refl _
 | b::r=>by
  unfold insR;split
  ·exact (List.Perm.cons b (zfp a r)).trans (.swap a b r)
  ·exact .refl _
theorem zbq:∀l,(sortR l).Perm l
 | []=>.refl _
 | a::r=>(zfp a _).trans (.cons a (zbq r))
theorem zhm {a b c:List Int} (h1:HT.lexLt b a=false) (h2:HT.lexLt c b=false):HT.lexLt c a=false:=by
 cases h:HT.lexLt c a with
 | false=>rfl
 | true =>
  rcases Srt.zgk a b with z | z | z
  ·have:=Srt.zdk h z;rw[h2] at this;cases this
  ·subst z;rw[h2] at h;cases h
  ·rw[h1] at z;cases z
theorem zpl (a:List Int):∀l,UpR l->UpR (insR a l)
 | [],_=>xig _ _
 | b::r,h=>by
  obtain ⟨h1,h2⟩:=xfh.mp h;unfold insR;split
  ·rename_i c;refine xfh.mpr ⟨fun x hx=>?_,zpl a r h2⟩;rcases xbo.mp ((zfp a r).mem_iff.mp hx) with rfl | hx
   ·exact Srt.zno c
   ·exact h1 x hx
  ·rename_i c;have c':HT.lexLt b a=false:=by simpa using c
   refine xfh.mpr ⟨fun x hx=>?_,h⟩;rcases xbo.mp hx with rfl | hx
   ·exact c'
   ·exact zhm c' (h1 x hx)
theorem zfg:∀l,UpR (sortR l)
 | []=>.nil
 | a::r=>zpl a _ (zfg r)
theorem zia:∀{l m:List (List Int)},l.Perm m->UpR l->UpR m->l=m
 | [],m,p,_,_=>by rw[List.nil_perm.mp p]
 | a::l,[],p,_,_=>by cases List.perm_nil.mp p
 | a::l,b::m,p,h1,h2=>by
  obtain ⟨p1,p2⟩:=xfh.mp h1;obtain ⟨q1,q2⟩:=xfh.mp h2;have e:a=b:=by
   rcases xbo.mp (p.mem_iff.mp xbz) with z | z
   ·exact z
   ·rcases xbo.mp (p.mem_iff.mpr (xbz (a:=b) (l:=m))) with y | y
    ·exact y.symm
    ·have e1:=q1 a z;have e2:=p1 b y;rcases Srt.zgk a b with w | w | w
     ·rw[e1] at w;cases w
     ·exact w
     ·rw[e2] at w;cases w
  subst e;rw[zia (List.Perm.cons_inv p) p2 q2]
theorem zhd {l m:List (List Int)} (p:m.Perm l) (h:UpR m):m=sortR l:=zia (p.trans (zbq l).symm) h (zfg l)
theorem zhe (l:List (List Int)):(sortR l).length=l.length:=(zbq l).length_eq
def asRows:List D->Option (List (List Int))
 | []=>some []
 | .tup ds::r=>(asInts ds).bind fun ns=>(asRows r).map (ns::·)
 | _::_=>none
theorem zjd {K:Fg} {ρ:Loc} {H:Hp}:∀{ds:List D} {vs:List V} {l:List (List Int)},AtAll K ρ H ds vs->asRows ds=some l ->
  ∃ps:List (Addr × List Int),vs=ps.map (fun p=>V.ref p.1)/\ps.map (·.2)=l/\∀p∈ps,H p.1=some (.tup (p.2.map V.int))/\Out ρ p.1
 | _,_,_,.nil,e=>by cases e;exact ⟨[],rfl,rfl,fun _ h=>nomatch h⟩
 | _,_,_,.cons (d:=d) a b,e=>by
  cases d<;>try (cases e;done)
  rw[asRows] at e;obtain ⟨ns,e1,e⟩:=xed.mp e;obtain ⟨l,e2,rfl⟩:=xdg.mp e;obtain ⟨ps,h1,h2,h3⟩:=zjd b e2;cases a with
  | tup g1 g2 g3 =>
   rename_i ad ws;have ew:=zbg g3 e1;subst ew;refine ⟨(ad,ns)::ps,by rw[h1];rfl,by rw[← h2];rfl,fun p hp=>?_⟩;rcases xbo.mp hp with rfl | hp
   ·exact ⟨g1,g2⟩
   ·exact h3 p hp
theorem zda {K:Fg} {ρ:Loc} {H:Hp}:∀ns:List Int,AtAll K ρ H (ns.map .int) (ns.map V.int)
 | []=>.nil
 | n::ns=>.cons (.int n) (zda ns)
theorem zhg {K:Fg} {ρ:Loc} {H:Hp}:∀ps:List (Addr × List Int),(∀p∈ps,H p.1=some (.tup (p.2.map V.int))/\Out ρ p.1)->AtAll K ρ H (rowsD (ps.map (·.2))) (ps.map fun p=>V.ref p.1)
 | [],_=>.nil
 | p::ps,h=>.cons (.tup (h p xbz).1 (h p xbz).2 (zda _)) (zhg ps fun q hq=>h q (xbu _ hq))
theorem zih {K:Fg} {ρ:Loc} {st:Store} {H:Hp} (r:Rep K ρ st H) {p:Addr} {vs:List V} (hp:H p=some (.tup vs)):Out ρ p:=by
 refine ⟨fun z=>?_,fun z=>?_⟩
 ·obtain ⟨i,hi,e⟩:=xfs z;obtain ⟨x,_,q⟩:=r.has (n:=i) (a:=p) (by rw[xbg hi,e]);cases x with
  | lst xs=>obtain ⟨_,e,_⟩:=q;rw[hp] at e;cases e
  | dT kvs=>obtain ⟨_,e,_⟩:=q;rw[hp] at e;cases e
  | fT kvs=>obtain ⟨_,_,e,_⟩:=q;rw[hp] at e;cases e
  | dead=>exact q
  | tab=>obtain ⟨_,_,e,_⟩:=q;rw[hp] at e;cases e
 ·obtain ⟨⟨u,hu⟩,_⟩:=r.gh p z;rw[hp] at hu;cases hu
def valD (kvs:List (List Int × D)) (k:List Int):Option D:=(kvs.find? fun kv=>decide (kv.1=k)).map (·.2)
def putD (kvs:List (List Int × D)) (k:List Int) (v:D):List (List Int × D) :=
 if (kvs.any fun kv=>decide (kv.1=k))=true then kvs.map (fun kv=>if kv.1=k then (kv.1,v) else kv) else kvs++[(k,v)]
def dropD (kvs:List (List Int × D)) (k:List Int):List (List Int × D):=kvs.filter fun kv=>decide (kv.1≠k)
theorem zll {a b:List Int}:a.map (Sum.inl:Int->Key)=b.map Sum.inl↔a=b:=by
 constructor
 ·intro h;exact (List.map_inj_right (f:=(Sum.inl:Int->Key)) fun x y e=>Sum.inl.inj e).mp h
 ·rintro rfl;rfl
section
variable {K:Fg} {ρ:Loc} {H:Hp} {kvs:List (List Int × D)} {vs:List (List Key × V)}
theorem KvAt.val (h:KvAt K ρ H kvs vs) (k:List Int):match valD kvs k with
  | some d=>∃v,valV vs (k.map Sum.inl)=some v/\At K ρ H d v
  | none=>valV vs (k.map Sum.inl)=none:=by
 induction h with
 | nil=>rfl
 | @cons p q ps qs h t ih =>
  obtain ⟨h1,h2⟩:=h;by_cases e:p.1=k
  ·have e1:valD (p::ps) k=some p.2:=by simp[valD,xex,e]
   rw[e1];exact ⟨q.2,zfd (by rw[h1,e]),h2⟩
  ·have e1:valD (p::ps) k=valD ps k:=by simp[valD,xex,e]
   have e2:valV (q::qs) (k.map Sum.inl)=valV qs (k.map Sum.inl):=zfe (by rw[h1,zll];exact e);rw[e1,e2];exact ih
theorem KvAt.keys (h:KvAt K ρ H kvs vs):vs.map (·.1)=(kvs.map (·.1)).map fun ns=>ns.map Sum.inl:=by
 induction h with
 | nil=>rfl
 | @cons p q ps qs h t ih=>rw[xbw,xbw,xbw,ih,h.1]
theorem KvAt.put (h:KvAt K ρ H kvs vs) (k:List Int) {d:D} {v:V} (a:At K ρ H d v):KvAt K ρ H (putD kvs k d) (putK vs (k.map Sum.inl) v):=by
 have any:∀{kvs:List (List Int × D)} {vs:List (List Key × V)},KvAt K ρ H kvs vs->(kvs.any fun kv=>decide (kv.1=k))=(vs.any fun kv=>decide (kv.1=k.map Sum.inl)):=fun h=>by
  induction h with
  | nil=>rfl
  | @cons p q ps qs h t ih =>
   rw[xis,xis,ih,h.1]
   congr 1
   simp only[zll]
 unfold putD putK;rw[any h];split
 ·rename_i hh;clear hh any
  induction h with
  | nil=>exact .nil
  | @cons p q ps qs h t ih =>
   refine .cons ?_ ih;obtain ⟨h1,h2⟩:=h;dsimp only;by_cases e:p.1=k
   ·rw[if_pos e,if_pos (by rw[h1,e])];exact ⟨h1,a⟩
   ·rw[if_neg e,if_neg (by rw[h1,zll];exact e)];exact ⟨h1,h2⟩
 ·have app:∀{kvs:List (List Int × D)} {vs:List (List Key × V)},KvAt K ρ H kvs vs->KvAt K ρ H (kvs++[(k,d)]) (vs++[(k.map Sum.inl,v)]):=fun h=>by
   induction h with
   | nil=>exact .cons ⟨rfl,a⟩ .nil
   | cons h t ih=>exact .cons h ih
  exact app h
theorem KvAt.length (h:KvAt K ρ H kvs vs):kvs.length=vs.length:=xir h
end
def pairsOf (st:Store):D->Option (List (List Int × D))
 | .ref n=>match st[n]? with
  | some (.dT kvs)=>some kvs
  | some (.fT kvs)=>some kvs
  | _=>none
 | _=>none
theorem zhi {K:Fg} {ρ:Loc} {st:Store} {H:Hp} (rp:Rep K ρ st H) {d:D} {u:V} {kvs:List (List Int × D)} (a:At K ρ H d u) (e:pairsOf st d=some kvs):∃p vs,u=.ref p/\Rd H p (.dT vs)/\KvAt K ρ H kvs vs:=by
 unfold pairsOf at e;split at e
 ·split at e
  ·rename_i h;cases e;obtain ⟨p,rfl,hp,vs,q1,q2⟩:=zel rp a h (by intro z;cases z);exact ⟨p,vs,rfl,.inl q1,q2⟩
  ·rename_i h;cases e;obtain ⟨p,rfl,hp,vs,ob,q1,q2⟩:=zel rp a h (by intro z;cases z);exact ⟨p,vs,rfl,.inr ⟨ob,q1⟩,q2⟩
  ·cases e
 ·cases e
def keyOf:D->Option (List Int)
 | .tup ds=>asInts ds
 | _=>none
theorem zvs {K:Fg} {ρ:Loc} {H:Hp} {d:D} {u:V} {k:List Int} (a:At K ρ H d u) (e:keyOf d=some k):∃p,u=.ref p/\H p=some (.tup ((k.map (Sum.inl:Int->Key)).map kV)):=by
 unfold keyOf at e;split at e
 ·cases a with
  | tup h1 h2 h3 =>
   have:=zbg h3 e;subst this;exact ⟨_,rfl,by rw[zpj];exact h1⟩
 ·cases e
theorem zpv {K:Fg} {ρ:Loc} {st:Store} {H:Hp} (rp:Rep K ρ st H) {d y:D} {u w:V} {kvs:List (List Int × D)} {k:List Int} (a:At K ρ H d u) (b:At K ρ H y w) (e:pairsOf st d=some kvs) (e2:keyOf y=some k) :
  ∃p o,u=.ref p/\DGet H p w o/\match valD kvs k with
   | some z=>∃v,o=some v/\At K ρ H z v
   | none=>o=none:=by
 obtain ⟨p,vs,rfl,h1,h2⟩:=zhi rp a e;obtain ⟨q,rfl,h3⟩:=zvs b e2;refine ⟨p,valV vs (k.map Sum.inl),rfl,.inr ⟨vs,_,q,h1,rfl,h3,rfl⟩,?_⟩;have:=h2.val k;cases hv:valD kvs k with
 | none=>rw[hv] at this;exact this
 | some z=>rw[hv] at this;exact this
def oDGet (x y:D) (st:Store):Res D:=match pairsOf st x,keyOf y with
 | some kvs,some k=>match valD kvs k with
  | some v=>.ok v st
  | none=>.stuck
 | _,_=>.stuck
def eDGet2 (f g h:SE):SE:=fun σ st=>(f σ st).bind fun x st1=>match pairsOf st1 x with
 | some _=>(g σ st1).bind fun y st2=>(h σ st2).bind fun z st3=>match pairsOf st3 x,keyOf y with
  | some kvs,some k=>.ok ((valD kvs k).getD z) st3
  | _,_=>.stuck
 | none=>.stuck
def eDPop (f g:SE):SE:=fun σ st=>(f σ st).bind fun x st1=>match pairsOf st1 x with
 | some _=>(g σ st1).bind fun y st2=>match x,keyOf y with
  | .ref n,some k=>match st2[n]? with
   | some (.dT kvs)=>match valD kvs k with
    | some v=>.ok v (st2.set n (.dT (dropD kvs k)))
    | none=>.stuck
   | _=>.stuck
  | _,_=>.stuck
 | none=>.stuck
def sDPut (f g h:SE):SS:=fun σ st=>(h σ st).bind fun v st1=>(f σ st1).bind fun x st2=>(g σ st2).bind fun y st3=>match x,keyOf y with
 | .ref n,some k=>match st3[n]? with
  | some (.dT kvs)=>if kvs.length < sizeLine then .ok (.nx σ) (st3.set n (.dT (putD kvs k v))) else .stuck
  | _=>.stuck
 | _,_=>.stuck
def eDNew:SE:=fun _ st=>.ok (.ref st.length) (st++[.dT []])
section
variable {X:Cx} {a b c o i e value f':Expr} {f g h:SE} {pos pos' apos cpos:Pos}
theorem zbao {K:Fg} {ρ:Loc} {st:Store} {H:Hp} (rp:Rep K ρ st H) {d:D} {u:V} {kvs:List (List Int × D)} (a:At K ρ H d u) (e:pairsOf st d=some kvs):∃p,u=.ref p/\IsD H p:=by
 obtain ⟨p,vs,rfl,h1,_⟩:=zhi rp a e;exact ⟨p,rfl,.inr ⟨vs,h1⟩⟩
theorem zbbt:DE X (.Dict [] [] pos) eDNew:=zek zqu fun τ H Q hq0 p hp=>by
 obtain ⟨ρ,σ,st,v,st',a,rp,e,q⟩:=hq0;cases e;obtain ⟨E,R⟩:=rp.alloc hp (x:=.dT []) (o:=.dT []) fun E=>⟨[],zo,.nil⟩
 exact q _ _ _ E R (.last rp.len.symm)
theorem zbbu (hu:X.A.units+1 < cLine) (ho:DE X o f) (hi:DE X i g) (hs:NoSl i):DE X (.Subscript o i pos) (eOp oDGet f g):=zek (zur hu ho hi hs) fun τ H Q hq0=>by
 obtain ⟨ρ,σ,st,v,st',a,rp,e,q⟩:=hq0;obtain ⟨x,st1,e1,e⟩:=zb e;obtain ⟨y,st2,e2,e⟩:=zb e;refine ⟨ρ,σ,st,x,st1,a,rp,e1,fun ρ1 H1 u x1 rp1 a1=>?_⟩;refine ⟨ρ1,σ,st1,y,st2,a.ext x1,rp1,e2,fun ρ2 H2 w x2 rp2 a2=>?_⟩;unfold oDGet at e;split at e
 ·rename_i h1 h2;split at e
  ·rename_i z hv;cases e;obtain ⟨p,oo,rfl,g1,g2⟩:=zpv rp2 (a1.ext x2) a2 h1 h2;rw[hv] at g2;obtain ⟨vv,rfl,g3⟩:=g2;exact ⟨p,vv,rfl,g1,q _ _ _ (x1.trans x2) rp2 g3⟩
  ·cases e
 ·cases e
theorem zxd (hu : X.A.units + 1 < cLine) (ho : DE X o f) (he : DE X e g) (hf : DE X f' h) (m : M2 X o "get" apos e f' cpos) : DE X (.Call (.Attribute o "get" apos) [e, f'] [] cpos) (eDGet2 f g h) := zek (zqv hu ho he hf m) fun τ H Q hq0 => by
 obtain ⟨ρ,σ,st,v,st',a,rp,e,q⟩:=hq0;obtain ⟨x,st1,e1,e⟩:=zb e;refine ⟨ρ,σ,st,x,st1,a,rp,e1,fun ρ1 H1 u x1 rp1 a1=>?_⟩;split at e
 ·rename_i h0;obtain ⟨p,rfl,hd⟩:=zbao rp1 a1 h0;obtain ⟨y,st2,e2,e⟩:=zb e;obtain ⟨z,st3,e3,e⟩:=zb e;refine ⟨p,rfl,hd,?_⟩;refine ⟨ρ1,σ,st1,y,st2,a.ext x1,rp1,e2,fun ρ2 H2 w x2 rp2 a2=>?_⟩;refine ⟨ρ2,σ,st2,z,st3,a.ext (x1.trans x2),rp2,e3,fun ρ3 H3 t x3 rp3 a3=>?_⟩;split at e
  ·rename_i h1 h2;cases e;obtain ⟨p',oo,ep,g1,g2⟩:=zpv rp3 (a1.ext (x2.trans x3)) (a2.ext x3) h1 h2;cases ep;refine ⟨oo,g1,q _ _ _ (x1.trans (x2.trans x3)) rp3 ?_⟩;revert g2;split
   ·rename_i hv;rintro ⟨vv,rfl,g3⟩;rw[hv];exact g3
   ·rename_i hv;rintro rfl;rw[hv];exact a3
  ·cases e
 ·cases e
theorem zwm (hu:X.A.units+1 < cLine) (ho:DE X o f) (hi:DE X i g) (hv:DE X value h) (hs:swapsWith value (some (.Subscript o i pos')) pos.line X.env=pure false) :
  DSt X (.Assign [.Subscript o i pos'] value pos) (sDPut f g h):=zkm (zuh hu ho hi hv hs) fun E τ H hq0=>by
 obtain ⟨ρ,σ,st,fl,st',a,rp,e,q⟩:=hq0;obtain ⟨v,st1,e1,e⟩:=zb e;obtain ⟨x,st2,e2,e⟩:=zb e;obtain ⟨y,st3,e3,e⟩:=zb e;refine ⟨ρ,σ,st,v,st1,a,rp,e1,fun ρ1 H1 u x1 rp1 a1=>?_⟩;refine ⟨ρ1,σ,st1,x,st2,a.ext x1,rp1,e2,fun ρ2 H2 w x2 rp2 a2=>?_⟩;refine ⟨ρ2,σ,st2,y,st3,a.ext (x1.trans x2),rp2,e3,fun ρ3 H3 t x3 rp3 a3=>?_⟩;split at e
 ·rename_i n k hk _;split at e
  ·rename_i kvs hn;split at e
   ·rename_i hl;cases e;obtain ⟨p,rfl,hp,vs,g1,g2⟩:=zel rp3 (a2.ext x3) hn (by intro z;cases z);obtain ⟨b,rfl,g3⟩:=zvs a3 hk;have E:Ext ρ3 H3 ρ3 (upd H3 p (.dT (putK vs (k.map Sum.inl) u))):=Ext.wr hp (zii g1) _;refine ⟨p,_,rfl,DPut.t g1 g3 (by rw[← g2.length];exact hl),?_⟩;exact q _ _ _ ((x1.trans (x2.trans x3)).trans E) (rp3.wr hp (zii g1) ⟨_,zo,(g2.put k (a1.ext (x2.trans x3))).ext E⟩) (a.ext ((x1.trans (x2.trans x3)).trans E))
   ·cases e
  ·cases e
 ·cases e
end
def bSorted:List D->Store->Res D:=fun xs st=>match xs with
 | [x]=>match (asL st x).bind asRows with
  | some l=>if l.length<=1000000 then .ok (.lst (rowsD (sortR l))) st else .stuck
  | none=>match pairsOf st x with
   | some kvs=>if kvs.length<=1000000 then .ok (.lst (rowsD (sortR (kvs.map (·.1))))) st else .stuck
   | none=>.stuck
 | _=>.stuck
theorem zou {K:Fg}:CaD K bSorted (fun xs H Q=>rSortedAL K xs H Q\/rSortedDAL xs H Q):=fun ρ H st xs us z st' Q rp aa e q=>by
 unfold bSorted at e;split at e
 ·obtain ⟨u,rfl,a⟩:=aa.one;split at e
  ·rename_i l hl;obtain ⟨ys,h0,hl⟩:=xed.mp hl;split at e
   ·rename_i few;cases e;obtain ⟨p,vs,rfl,h1,h2⟩:=zen rp a h0;obtain ⟨ps,rfl,rfl,h3⟩:=zjd h2 hl;rw[xbd] at few;refine .inl ⟨p,ps,rfl,SqL.of h1,few,fun x hx=>SqT.of (h3 x hx).1,fun t qs ht hp hs=>?_⟩;have e2:qs.map (·.2)=sortR (ps.map (·.2)):=zhd (hp.map _) hs;refine q _ _ _ (Ext.new ht _) (rp.new ht _) (.newL rp ht ?_);rw[← e2];exact zhg qs fun x hx=>h3 x (hp.mem_iff.mp hx)
   ·cases e
  ·split at e
   ·rename_i kvs hk;split at e
    ·rename_i few;cases e;obtain ⟨p,vs,rfl,h1,h2⟩:=zhi rp a hk;refine .inr ⟨p,vs,kvs.map (·.1),rfl,h1,h2.keys,by rw[xbd];exact few,fun t qs ht hp hs hq=>?_⟩;have e2:qs.map (·.2)=sortR (kvs.map (·.1)):=zhd hp hs;refine q _ _ _ (Ext.new ht _) (rp.new ht _) (.newL rp ht ?_);rw[← e2];exact zhg qs fun x hx=>⟨hq x hx,zih rp (hq x hx)⟩
    ·cases e
   ·cases e
 ·cases e
theorem zhs {X : Cx} (hc : X.calm = true) (hu : X.A.units + 64 < cLine) : CallR X (.builtin "sorted") (fun xs H Q => rSortedAL X.K xs H Q \/ rSortedDAL xs H Q) := (zgw hu).or (zfu hc hu)
def eAppend (f:SE) (g:SA):SE:=fun σ st=>(f σ st).bind fun x st1=>match x,asL st1 x with
 | .ref n,some _=>(g σ st1).bind fun ys st2=>match ys,st2[n]? with
  | [y],some (.lst xs)=>if xs.length < sizeLine then .ok .non (st2.set n (.lst (xs++[y]))) else .stuck
  | _,_=>.stuck
 | _,_=>.stuck
def eExtend (f:SE) (g:SA):SE:=fun σ st=>(f σ st).bind fun x st1=>match x,asL st1 x with
 | .ref n,some _=>(g σ st1).bind fun ys st2=>match ys,st2[n]? with
  | [y],some (.lst xs)=>match asL st2 y with
   | some zs=>if xs.length+zs.length<=sizeLine then .ok .non (st2.set n (.lst (xs++zs))) else .stuck
   | none=>.stuck
  | _,_=>.stuck
 | _,_=>.stuck
section
variable {X:Cx} {o e i value:Expr} {es:List Expr} {f g h:SE} {ga:SA} {pos apos cpos:Pos}
theorem zsj (ho : DE X o f) (ha : DA X (e :: es) ga) (hbase : attributeBase o "append" X.env (eval o X.env) = eval o X.env := by rfl)
  (hfew:((backTo cpos (starEach (e::es) X.env)).all (fun x=>!x.1) && (backToKw cpos (keywordEach [] X.env)).all (fun x=>x.1.isSome)
   && decide ((e::es).length+([]:List Keyword).length+(if ([]:List Keyword).isEmpty then 0 else 1) < 30))=true:=by rfl)
  (hline:(apos.endLine == cpos.line)=true:=by rfl) (hs:starEach (e::es) X.env=(false,eval e X.env)::starEach es X.env:=by rfl) (hplain:(backTo cpos (starEach es X.env)).any (·.1)=false:=by rfl) :
  DE X (.Call (.Attribute o "append" apos) (e :: es) [] cpos) (eAppend f ga) := zek (zbdt PySem.F.plainAttrs_list PySem.F.slot_list_append PySem.F.type_list_append zfn ho ha hbase hfew hline hs hplain) fun τ H Q hq0 => by
 obtain ⟨ρ,σ,st,v,st',a,rp,e,q⟩:=hq0;obtain ⟨x,st1,e1,e⟩:=zb e;refine ⟨ρ,σ,st,x,st1,a,rp,e1,fun ρ1 H1 u x1 rp1 a1=>?_⟩;split at e
 ·rename_i n _ hL;obtain ⟨ys,st2,e2,e⟩:=zb e;obtain ⟨p,vs,rfl,g1,g2⟩:=zen rp1 a1 hL;refine ⟨.inl ⟨rfl,_,SqL.of g1⟩,ρ1,σ,st1,ys,st2,a.ext x1,rp1,e2,fun ρ2 H2 ws x2 rp2 a2=>?_⟩;split at e
  ·rename_i y xs hn;split at e
   ·rename_i hl;cases e;obtain ⟨w,rfl,a3⟩:=a2.one;obtain ⟨p',ep,hp,vs2,k1,k2⟩:=zel rp2 (a1.ext x2) hn (by intro z;cases z);cases ep;have E:Ext ρ2 H2 ρ2 (upd H2 p (.lst (vs2++[w]))):=Ext.wr hp (zcz k1) _;exact ⟨p,vs2,w,rfl,rfl,k1,by rw[k2.length];exact hl,q _ _ _ ((x1.trans x2).trans E) (rp2.wr hp (zcz k1) ⟨_,zo,(k2.append (.cons a3 .nil)).ext E⟩) .non⟩
   ·cases e
  ·cases e
 ·cases e
def eFz (f:SE):SE:=fun σ st=>(f σ st).bind fun x st1=>match x with
 | .ref n=>match st1[n]? with
  | some (.lst xs)=>.ok (.lst xs) (st1.set n .dead)
  | _=>.stuck
 | _=>.stuck
end
def sNx:SS:=fun σ st=>.ok (.nx σ) st
def sBrk:SS:=fun σ st=>.ok (.brk σ) st
def sCt:SS:=fun σ st=>.ok (.ct σ) st
def sRet (f:SE):SS:=fun σ st=>(f σ st).bind fun v st1=>.ok (.ret v) st1
def sRetN:SS:=fun _ st=>.ok (.ret .non) st
def sDrop (f:SE):SS:=fun σ st=>(f σ st).bind fun _ st1=>.ok (.nx σ) st1
def sSet (i:Nat) (f:SE):SS:=fun σ st=>(f σ st).bind fun v st1=>.ok (.nx (σ.set i (some v))) st1
def sSeq (s t:SS):SS:=fun σ st=>match s σ st with
 | .ok (.nx σ1) st1=>t σ1 st1
 | r=>r
def sIf (c:ST) (s t:SS):SS:=fun σ st=>(c σ st).bind fun b st1=>if b=true then s σ st1 else t σ st1
def sAug (i:Nat) (g:D->D->Store->Res D) (f:SE):SS:=fun σ st=>match σ[i]? with
 | some (some x)=>(f σ st).bind fun y st1=>(g x y st1).bind fun z st2=>.ok (.nx (σ.set i (some z))) st2
 | _=>.stuck
def sSetIx (f g h:SE):SS:=fun σ st=>(h σ st).bind fun v st1=>(f σ st1).bind fun x st2=>(g σ st2).bind fun y st3=>match x,y with
 | .ref n,.int k=>match st3[n]? with
  | some (.lst xs)=>match ixN xs.length k with
   | some j=>.ok (.nx σ) (st3.set n (.lst (xs.set j v)))
   | none=>.stuck
  | _=>.stuck
 | _,_=>.stuck
section
variable {X:Cx} {e c o i value:Expr} {sm:Stmt} {rest:List Stmt} {f g h:SE} {s t:SS} {b:ST} {pos pos':Pos}
theorem zbbl:DSs X [] sNx:=zud zuf fun E τ H hq0=>by
 obtain ⟨ρ,σ,st,fl,st',a,rp,e,q⟩:=hq0;cases e;exact q _ _ _ (.refl _ _) rp a
theorem zbbj (he:DE X e f):DSt X (.Return (some e) pos) (sRet f):=zkm (zzh he) fun E τ H hq0=>by
 obtain ⟨ρ,σ,st,fl,st',a,rp,e,q⟩:=hq0;obtain ⟨x,st1,e1,e⟩:=zb e;cases e;exact ⟨ρ,σ,st,x,_,a,rp,e1,fun ρ1 H1 u x1 rp1 a1=>q _ _ _ x1 rp1 a1⟩
theorem zwl (he:DE X e f) (hs:swapsWith e none pos.line X.env=pure false:=by rfl):DSt X (.Expr e pos) (sDrop f):=zkm (zug he hs) fun E τ H hq0=>by
 obtain ⟨ρ,σ,st,fl,st',a,rp,e,q⟩:=hq0;obtain ⟨x,st1,e1,e⟩:=zb e;cases e;exact ⟨ρ,σ,st,x,_,a,rp,e1,fun ρ1 H1 u x1 rp1 a1=>q _ _ _ x1 rp1 (a.ext x1)⟩
theorem zbdi {K:Fg} {i:Nat} {f:SE}:∀E τ H,tDS K (sSet i f) E τ H->tAsg (tD K f) (gName i) E τ H:=fun E τ H hq0=>by
 obtain ⟨ρ,σ,st,fl,st',a,rp,e,q⟩:=hq0;obtain ⟨x,st1,e1,e⟩:=zb e;cases e;exact ⟨ρ,σ,st,x,_,a,rp,e1,fun ρ1 H1 u x1 rp1 a1=>q _ _ _ x1 rp1 ((a.ext x1).set a1 i)⟩
theorem zbbi {i:Nat} {x:Str} (hN:X.N.Nodup) (hi:X.N[i]?=some x) (hx:L2.Loc X.env.scope x) (he:DE X e f) (hs:swapsWith e (some (.Name x pos')) pos.line X.env=pure false:=by rfl) (hf:X.fn x=true\/X.env.scope.names.lookup x=some .local:=by first | exact .inl rfl | exact .inr rfl | assumption) :
 DSt X (.Assign [.Name x pos'] e pos) (sSet i f):=zkm (zzg hN hi hx he hs hf) zbdi
theorem zbbk (h1:DSt X sm s):DSs X [sm] s:=zue h1
theorem zwn (h1:DSt X sm s) (h2:DSs X rest t):DSs X (sm::rest) (sSeq s t):=zud (zqo h1 h2) fun E τ H hq0=>by
 obtain ⟨ρ,σ,st,fl,st',a,rp,e,q⟩:=hq0;unfold sSeq at e;split at e
 ·rename_i σ1 st1 e1;exact ⟨ρ,σ,st,_,st1,a,rp,e1,fun ρ1 H1 τ1 x1 rp1 a1=>⟨ρ1,σ1,st1,fl,st',a1,rp1,e,q.ext x1⟩⟩
 ·rename_i hne;refine ⟨ρ,σ,st,fl,st',a,rp,e,?_⟩;cases fl with
  | nx σ'=>exact absurd e (hne σ' st')
  | brk σ'=>exact q
  | ct σ'=>exact q
  | ret v=>exact q
theorem zbem {a' b':List Stmt} (hc:DT X c b) (ha:DSs X a' s) (hb:DSs X b' t):DSt X (.If c a' b' pos) (sIf b s t):=zkm (zbdn hc ha hb) fun E τ H hq0=>by
 obtain ⟨ρ,σ,st,fl,st',a,rp,e,q⟩:=hq0;obtain ⟨x,st1,e1,e⟩:=zb e;refine ⟨ρ,σ,st,x,st1,a,rp,e1,fun ρ1 H1 x1 rp1=>?_⟩;cases x with
 | true=>exact iteT ⟨ρ1,σ,st1,fl,st',a.ext x1,rp1,e,q.ext x1⟩
 | false=>exact iteF ⟨ρ1,σ,st1,fl,st',a.ext x1,rp1,e,q.ext x1⟩
theorem zry (he:DE X value h) (ho:DE X o f) (hi:DE X i g) (ha:∀v,assign (.Subscript o i pos') X.env v=(do
   let ov ← holding [v] (eval o X.env)
   let iv ← holding [v,ov] (eval i X.env)
   standAt pos'
   holding [v,ov,iv] (setItem ov iv v)
   release [v,ov,iv] []):=by intro _;rfl)
  (hs:swapsWithSole [.Subscript o i pos'] value pos.line X.env=pure false:=by rfl) (hw:swappedStores [.Subscript o i pos'] value X.env=pure none:=by rfl)
  (h1:(assignEach [.Subscript o i pos'] X.env).map (·.2)=[assign (.Subscript o i pos') X.env]:=by rfl):DSt X (.Assign [.Subscript o i pos'] value pos) (sSetIx f g h) :=
 zkm (zzj he (zzm ho hi zqi ha) hs hw h1) fun E τ H hq0=>by
 obtain ⟨ρ,σ,st,fl,st',a,rp,e,q⟩:=hq0;obtain ⟨v,st1,e1,e⟩:=zb e;obtain ⟨x,st2,e2,e⟩:=zb e;obtain ⟨y,st3,e3,e⟩:=zb e;refine ⟨ρ,σ,st,v,st1,a,rp,e1,fun ρ1 H1 u x1 rp1 a1=>?_⟩;refine ⟨ρ1,σ,st1,x,st2,a.ext x1,rp1,e2,fun ρ2 H2 w x2 rp2 a2=>?_⟩;refine ⟨ρ2,σ,st2,y,st3,a.ext (x1.trans x2),rp2,e3,fun ρ3 H3 t x3 rp3 a3=>?_⟩;split at e
 ·rename_i n k _;split at e
  ·rename_i xs hn;split at e
   ·rename_i j hj;cases e;cases a3;obtain ⟨p,rfl,hp,vs,g1,g2⟩:=zel rp3 (a2.ext x3) hn (by intro z;cases z);have E:Ext ρ3 H3 ρ3 (upd H3 p (.lst (vs.set j u))):=Ext.wr hp (zcz g1) _;refine ⟨p,vs,k,j,rfl,rfl,g1,by rw[g2.length];exact hj,?_⟩;exact q _ _ _ ((x1.trans (x2.trans x3)).trans E) (rp3.wr hp (zcz g1) ⟨_,zo,(g2.set (a1.ext (x2.trans x3)) j).ext E⟩) (a.ext ((x1.trans (x2.trans x3)).trans E))
   ·cases e
  ·cases e
 ·cases e
end
abbrev SG:=D->DS->Option DS
def gN (i:Nat):SG:=fun d σ=>some (σ.set i (some d))
def gD (K:Fg) (b:SG):TG:=fun v τ H Q=>∃ρ σ d σ',AtS K ρ H σ τ/\At K ρ H d v/\b d σ=some σ'/\∀τ',AtS K ρ H σ' τ'->Q τ' H
abbrev DG (X:Cx) (tg:Expr) (b:SG):Prop:=PG X tg (gD X.K b)
section
variable {X:Cx} {pos:Pos} {e:Expr} {es:List Expr} {t:SG} {u:List D->DS->Option DS}
theorem zbdp {g g':TG} (h:PG X e g) (k:∀v τ H Q,g' v τ H Q->g v τ H Q):PG X e g':=fun pins s σ H v u Q I r q=>h pins s σ H v u Q I r (k _ _ _ _ q)
theorem zwu {i:Nat} {x:Str} (hN:X.N.Nodup) (hi:X.N[i]?=some x) (hx:L2.Loc X.env.scope x) (hf:X.fn x=true\/X.env.scope.names.lookup x=some .local:=by first | exact .inl rfl | exact .inr rfl | assumption):DG X (.Name x pos) (gN i) :=
 zbdp (zuo hN hi hx hf) fun v τ H Q hq0=>by
 obtain ⟨ρ,σ,d,σ',a,b,e,q⟩:=hq0;cases e;exact q _ (a.set b i)
end
structure ExtG (ρ:Loc) (H:Hp) (ρ':Loc) (H':Hp):Prop where
 len:ρ.m.length<=ρ'.m.length
 old:∀(n:Nat) (a:Addr),n < ρ.m.length->ρ'.m[n]?=some (some a)->ρ.m[n]?=some (some a)
 keep:∀a o,H a=some o->some a∉ρ.m->H' a=some o/\some a∉ρ'.m
 gho:∀a∈ρ'.g,a∈ρ.g\/H a=none
 frz:∀a ob u,H a=some (.frz ob u)->H' a=some (.frz ob u)
theorem Ext.toG {ρ ρ':Loc} {H H':Hp} (x:Ext ρ H ρ' H'):ExtG ρ H ρ' H':=⟨x.len,x.old,x.keep,fun a h=>.inl (by rw[← x.gho];exact h),x.frz⟩
theorem ExtG.then {ρ ρ1 ρ2:Loc} {H H1 H2:Hp} (a:ExtG ρ H ρ1 H1) (b:Ext ρ1 H1 ρ2 H2):ExtG ρ H ρ2 H2 :=
 ⟨xbb a.len b.len,fun n c h e=>a.old n c h (b.old n c (xbf h a.len) e),fun c o e n=>by
  obtain ⟨e1,n1⟩:=a.keep c o e n
  exact b.keep c o e1 n1,fun c h=>a.gho c (by rw[← b.gho];exact h),fun c ob u e=>b.frz c ob u (a.frz c ob u e)⟩
theorem ExtG.out {ρ ρ':Loc} {H H':Hp} (x:ExtG ρ H ρ' H') {a:Addr} {o:HO} (h:H a=some o) (n:Out ρ a):H' a=some o/\Out ρ' a :=
 ⟨(x.keep a o h n.1).1,(x.keep a o h n.1).2,fun z=>by
  rcases x.gho a z with q | q
  ·exact n.2 q
  ·rw[h] at q;cases q⟩
theorem ExtG.mv {ρ ρ':Loc} {H H':Hp} (x:ExtG ρ H ρ' H'):Mv ρ H ρ' H':=⟨fun h n=>x.out h n,x.len,x.old⟩
theorem At.extG {K:Fg} {ρ ρ':Loc} {H H':Hp} (x:ExtG ρ H ρ' H') {d:D} {v:V} (h:At K ρ H d v):At K ρ' H' d v:=h.mv x.mv
theorem Ls.extG {K:Fg} {ρ ρ':Loc} {H H':Hp} {a:Addr} {vs:List V} (x:ExtG ρ H ρ' H') (h:Ls K ρ H a vs):Ls K ρ' H' a vs:=h.mv x.mv
structure ItOk (K:Fg) (ρ:Loc) (H:Hp) (J:It) (xs:List D):Prop where
 item:∀ρ2 H2,ExtG ρ H ρ2 H2->∀(i:Nat) (x:D),xs[i]?=some x->J.go i H2/\∀y H3,J.yld i H2 y H3->Ext ρ2 H2 ρ2 H3/\∀st,Rep K ρ2 st H2->Rep K ρ2 st H3/\At K ρ2 H3 x y
 done:∀ρ2 H2,ExtG ρ H ρ2 H2->∀i:Nat,xs.length<=i->J.stop i H2
def iD (K:Fg) (f:SA):TI:=fun τ H R=>∃ρ σ st xs st',AtS K ρ H σ τ/\Rep K ρ st H/\f σ st=.ok xs st'/\∀ρ' H' J,Ext ρ H ρ' H'->Rep K ρ' st' H'->ItOk K ρ' H' J xs->R J H'
abbrev DI (X:Cx) (tg iter:Expr) (f:SA):Prop:=PI X tg iter (iD X.K f)
def seqV:D->Option (List D)
 | .tup xs=>some xs
 | .lst xs=>some xs
 | .scr xs=>some xs
 | _=>none
def iSeq (f:SE):SA:=fun σ st=>(f σ st).bind fun x st1=>match seqV x with
 | some xs=>.ok xs st1
 | none=>.stuck
def rng (lo:Int) (n:Nat):List D:=(List.range n).map fun (i:Nat)=>D.int (lo+i)
def iR1 (g:SA):SA:=fun σ st=>(g σ st).bind fun xs st1=>match xs with
 | [.int j]=>if -(2 ^ 62)<=j/\j < 2 ^ 62 then .ok (rng 0 j.toNat) st1 else .stuck
 | _=>.stuck
def iR2 (g:SA):SA:=fun σ st=>(g σ st).bind fun xs st1=>match xs with
 | [.int i,.int j]=>if -(2 ^ 62)<=i/\i < 2 ^ 62/\-(2 ^ 62)<=j/\j < 2 ^ 62 then .ok (rng i (j - i).toNat) st1 else .stuck
 | _=>.stuck
theorem zge {lo:Int} {n i:Nat} {x:D} (h:(rng lo n)[i]?=some x):i < n/\x=.int (lo+i):=by
 unfold rng at h;rw[xcl] at h;rcases xfk i n with z | z
 ·rw[List.getElem?_range z] at h;exact ⟨z,(xck h).symm⟩
 ·rw[xgb (by rw[xfo];exact z)] at h;cases h
theorem zban {K:Fg} {ρ:Loc} {H:Hp} {lo:Int} {n:Nat}:ItOk K ρ H (Itr lo n) (rng lo n) where
 item:=fun ρ2 H2 x i d e=>by
  obtain ⟨h1,rfl⟩:=zge e;refine ⟨h1,fun y H3 hy=>?_⟩;obtain ⟨rfl,rfl⟩:=hy;exact ⟨.refl _ _,fun _ r=>⟨r,.int _⟩⟩
 done:=fun ρ2 H2 x i h=>by
  unfold rng at h;rw[xbd,xfo] at h;exact h
section
variable {X:Cx} {tg l a b:Expr} {f:SE} {g:SA} {p pos:Pos}
theorem zzl {t t':TI} (h:PI X tg l t) (k:∀τ H R,t' τ H R->t τ H R):PI X tg l t':=fun pins s σ H R I q=>h pins s σ H R I (k _ _ _ q)
theorem zbdo {t t':TI} (h:PI X tg l t) (h':PI X tg l t'):PI X tg l (fun τ H R=>t τ H R\/t' τ H R):=fun pins s σ H R I q=>by
 rcases q with q | q
 ·exact h pins s σ H R I q
 ·exact h' pins s σ H R I q
theorem zqd {K:Fg} {ρ:Loc} {H:Hp} {p:Addr} {xs:List D} {vs:List V} (hs:∀ρ2 H2,ExtG ρ H ρ2 H2->SqL K H2 p vs) (al:AtAll K ρ H xs vs):ItOk K ρ H (Itl K p) xs where
 item:=fun ρ2 H2 x i d e=>by
  obtain ⟨v,hv,a⟩:=al.get e;refine ⟨⟨vs,v,hs _ _ x,hv⟩,fun y H3 hy=>?_⟩;obtain ⟨rfl,h2⟩:=hy;have:=h2 vs (hs _ _ x);rw[hv] at this;cases this;exact ⟨.refl _ _,fun _ r=>⟨r,a.extG x⟩⟩
 done:=fun ρ2 H2 x i h=>⟨vs,hs _ _ x,by rw[al.length];exact h⟩
theorem zbco {K:Fg} {ρ:Loc} {H:Hp} {p:Addr} {xs:List D} {vs:List V} (hs:∀ρ2 H2,ExtG ρ H ρ2 H2->SqT K H2 p vs) (al:AtAll K ρ H xs vs):ItOk K ρ H (Itt K p) xs where
 item:=fun ρ2 H2 x i d e=>by
  obtain ⟨v,hv,a⟩:=al.get e;refine ⟨⟨vs,v,hs _ _ x,hv⟩,fun y H3 hy=>?_⟩;obtain ⟨rfl,h2⟩:=hy;have:=h2 vs (hs _ _ x);rw[hv] at this;cases this;exact ⟨.refl _ _,fun _ r=>⟨r,a.extG x⟩⟩
 done:=fun ρ2 H2 x i h=>⟨vs,hs _ _ x,by rw[al.length];exact h⟩
theorem zbbo (hl:DE X l f):DI X tg l (iSeq f):=zzl (zbdo (zum hl) (zzk hl)) fun τ H R hq0=>by
 obtain ⟨ρ,σ,st,xs,st',a,rp,e,q⟩:=hq0;obtain ⟨x,st1,e1,e⟩:=zb e;cases x with
 | tup ys =>
  cases e;refine .inr ⟨ρ,σ,st,_,_,a,rp,e1,fun ρ1 H1 u x1 rp1 a1=>?_⟩;cases a1 with
  | tup h1 h2 h3=>exact ⟨_,rfl,⟨_,SqT.of h1⟩,q _ _ _ x1 rp1 (zbco (fun ρ2 H2 x2=>SqT.of (x2.out h1 h2).1) h3)⟩
 | lst ys =>
  cases e;refine .inl ⟨ρ,σ,st,_,_,a,rp,e1,fun ρ1 H1 u x1 rp1 a1=>?_⟩;cases a1 with
  | lst h1 h2 h3=>exact ⟨_,rfl,⟨_,SqL.of h1⟩,q _ _ _ x1 rp1 (zqd (fun ρ2 H2 x2=>SqL.of (x2.out h1 h2).1) h3)⟩
 | scr ys =>
  cases e;refine .inl ⟨ρ,σ,st,_,_,a,rp,e1,fun ρ1 H1 u x1 rp1 a1=>?_⟩;cases a1 with
  | scr h1 h3=>exact ⟨_,rfl,⟨_,h1.sq⟩,q _ _ _ x1 rp1 (zqd (fun ρ2 H2 x2=>(h1.extG x2).sq) h3)⟩
 | _=>cases e
theorem zog (hg : Gl X "range") (hm : X.mg "range" = none) (ha : DA X [a] g) (hs : starEach [a] X.env = [(false, eval a X.env)] := by rfl) : DI X tg (.Call (.Name "range" p) [a] [] pos) (iR1 g) :=
 zzl (znf hg hm ha hs) fun τ H R hq0=>by
 obtain ⟨ρ,σ,st,xs,st',a,rp,e,q⟩:=hq0;obtain ⟨x,st1,e1,e⟩:=zb e;split at e
 ·split at e
  ·rename_i hj;cases e;refine ⟨ρ,σ,st,_,_,a,rp,e1,fun ρ1 H1 u x1 rp1 a1=>?_⟩;obtain ⟨w,rfl,a2⟩:=a1.one;cases a2;exact ⟨_,rfl,hj.1,hj.2,q _ _ _ x1 rp1 zban⟩
  ·cases e
 ·cases e
end
def iDict (f:SE):SA:=fun σ st=>(f σ st).bind fun x st1=>match x with
 | .ref n=>match st1[n]? with
  | some (.dT kvs)=>.ok (rowsD (kvs.map (·.1))) (st1.set n (.fT kvs))
  | _=>.stuck
 | _=>.stuck
section
variable {X:Cx} {tg l:Expr} {f:SE}
theorem zwt (hl:DE X l f):DI X tg l (iDict f):=zzl (zun hl) fun τ H R hq0=>by
 obtain ⟨ρ,σ,st,xs,st',a,rp,e,q⟩:=hq0;obtain ⟨x,st1,e1,e⟩:=zb e;refine ⟨ρ,σ,st,x,st1,a,rp,e1,fun ρ1 H1 u x1 rp1 a1=>?_⟩;split at e
 ·rename_i n;split at e
  ·rename_i kvs hn;cases e;obtain ⟨p,rfl,hp,vs,g1,g2⟩:=zel rp1 a1 hn (by intro z;cases z);refine ⟨p,vs,kvs.map (·.1),rfl,g1,g2.keys,fun ob ps h1 h2=>?_⟩;have E:Ext ρ1 H1 ρ1 (upd H1 p (.frz ob (.dT vs))):=Ext.wr hp (zii g1) _;have R:Rep X.K ρ1 (st1.set n (.fT kvs)) (upd H1 p (.frz ob (.dT vs))):=rp1.wr hp (zii g1) ⟨vs,ob,zo,g2.ext E⟩;refine q _ _ _ (x1.trans E) R ⟨fun ρ2 H2 x2 i d e=>?_,fun ρ2 H2 x2 i h=>?_⟩
   ·have e2:(ps.map (·.2))[i]?=(kvs.map (·.1))[i]?:=by rw[h1]
    unfold rowsD at e;rw[xcl,← e2,xcl] at e;cases hi:ps[i]? with
    | none=>rw[hi] at e;cases e
    | some x =>
     rw[hi] at e;cases e;refine ⟨⟨(xbn.mp hi).1,x2.frz _ _ _ zo⟩,fun y H3 hy=>?_⟩;obtain ⟨rfl,x',hx',rfl⟩:=hy;rw[hi] at hx';cases hx';have ht:=h2 x (xcz hi);have a3:At X.K ρ1 H1 (rowD x.2) (.ref x.1):=.tup ht (zih rp1 ht) (zda _);exact ⟨.refl _ _,fun _ r=>⟨r,(a3.ext E).extG x2⟩⟩
   ·have e2:=congrArg List.length h1;rw[xbd] at e2;unfold rowsD at h;rw[xbd,← e2] at h;exact ⟨h,x2.frz _ _ _ zo⟩
  ·cases e
 ·cases e
end
def forF (bd:SG) (body:SS):List D->SS
 | [],σ,st=>.ok (.nx σ) st
 | x::xs,σ,st=>match bd x σ with
  | none=>.stuck
  | some σ1=>match body σ1 st with
   | .ok (.nx σ2) st2=>forF bd body xs σ2 st2
   | .ok (.ct σ2) st2=>forF bd body xs σ2 st2
   | .ok (.brk σ2) st2=>.ok (.nx σ2) st2
   | r=>r
def sFor (it:SA) (bd:SG) (body:SS):SS:=fun σ st=>(it σ st).bind fun xs st1=>forF bd body xs σ st1
def whileF (c:ST) (body:SS):Nat->SS
 | 0,_,_=>.stuck
 | n+1,σ,st=>(c σ st).bind fun b st1=>if b=true then (match body σ st1 with
  | .ok (.nx σ2) st2=>whileF c body n σ2 st2
  | .ok (.ct σ2) st2=>whileF c body n σ2 st2
  | .ok (.brk σ2) st2=>.ok (.nx σ2) st2
  | r=>r) else .ok (.nx σ) st1
def wCap:Nat:=1000000
def sWhile (c:ST) (body:SS):SS:=whileF c body wCap
theorem zpu {α:Type} {xs:List α} {i:Nat} (h:i < xs.length):∃x,xs[i]?=some x/\xs.drop i=x::xs.drop (i+1):=⟨xs[i],xbg h,xfi h⟩
section
variable {X:Cx} {tg iter c:Expr} {body:List Stmt} {it:SA} {bd:SG} {b:SS} {t:ST} {pos:Pos}
theorem zbbm (hp:PassesOwn (model X.prog X.w) X.A X.env X.xe) (hc:X.calm=true) (hi:DI X tg iter it) (hg:DG X tg bd) (hb:DSs X body b) (hs:∀x,foldedSetIterable iter X.env x=pure x:=by intro _;rfl) :
  DSt X (.For tg iter body [] pos) (sFor it bd b):=zkm (zzi hp hc hi hg hb hs) fun E τ H hq0=>by
 obtain ⟨ρ,σ,st,fl,st',a,rp,e,q⟩:=hq0;obtain ⟨xs,st1,e1,e⟩:=zb e;refine ⟨ρ,σ,st,xs,st1,a,rp,e1,fun ρ1 H1 J x1 rp1 ok=>?_⟩;have q1:=q.ext x1;refine ⟨fun i m τ' H'=>i+m=xs.length/\∃ρ2 σ2 st2,Ext ρ1 H1 ρ2 H'/\AtS X.K ρ2 H' σ2 τ'/\Rep X.K ρ2 st2 H'/\forF bd b (xs.drop i) σ2 st2=.ok fl st',⟨xs.length,by lia,ρ1,σ,st1,.refl _ _,a.ext x1,rp1,e⟩,?_⟩;rintro i m τ' H' ⟨him,ρ2,σ2,st2,x2,a2,rp2,e2⟩;rcases xfk i xs.length with hlt | hge
 ·obtain ⟨x,hx,hd⟩:=zpu hlt;rw[hd] at e2;obtain ⟨go,yl⟩:=ok.item ρ2 H' x2.toG i x hx;refine .inr ⟨go,fun τ3 H3=>∃ρ3 σ3 st3,Ext ρ1 H1 ρ3 H3/\AtS X.K ρ3 H3 σ3 τ3/\Rep X.K ρ3 st3 H3/\forF bd b (xs.drop (i+1)) σ3 st3=.ok fl st',fun τ3 H3 ⟨ρ3,σ3,st3,n1,n2,n3,n4⟩=>⟨m - 1,by lia,by lia,ρ3,σ3,st3,n1,n2,n3,n4⟩,fun y H3 hy=>?_⟩;obtain ⟨y1,y4⟩:=yl y H3 hy;obtain ⟨y2,y3⟩:=y4 _ rp2;unfold forF at e2;cases hbd:bd x σ2 with
  | none=>rw[hbd] at e2;cases e2
  | some σ1 =>
   rw[hbd] at e2;dsimp only at e2;have X3:=x2.trans y1;refine ⟨ρ2,σ2,x,σ1,a2.ext y1,y3,hbd,fun τ4 a4=>?_⟩;cases hr:b σ1 st2 with
   | stuck=>rw[hr] at e2;cases e2
   | exc z w=>rw[hr] at e2;cases e2
   | ok fb st3 =>
    rw[hr] at e2;refine ⟨ρ2,σ1,st2,fb,st3,a4,y2,hr,?_⟩;cases fb with
    | nx σ3=>exact fun ρ' H'' τ5 x5 rp5 a5=>⟨ρ',σ3,st3,X3.trans x5,a5,rp5,e2⟩
    | ct σ3=>exact fun ρ' H'' τ5 x5 rp5 a5=>⟨ρ',σ3,st3,X3.trans x5,a5,rp5,e2⟩
    | brk σ3 =>
     dsimp only at e2;cases e2;exact fun ρ' H'' τ5 x5 rp5 a5=>q1 _ _ _ (X3.trans x5) rp5 a5
    | ret v =>
     dsimp only at e2;cases e2;exact fun ρ' H'' u x5 rp5 a5=>q1 _ _ _ (X3.trans x5) rp5 a5
 ·rw[xhe hge] at e2;unfold forF at e2;cases e2;exact .inl ⟨ok.done ρ2 H' x2.toG i hge,q1 _ _ _ x2 rp2 a2⟩
theorem zrx (hp:PassesOwn (model X.prog X.w) X.A X.env X.xe) (hc:DT X c t) (hb:DSs X body b):DSt X (.While c body [] pos) (sWhile t b):=zkm (zqp hp hc hb) fun E τ H hq0=>by
 obtain ⟨ρ,σ,st,fl,st',a,rp,e,q⟩:=hq0;unfold sWhile at e;generalize wCap=n at e;refine ⟨fun m τ' H'=>∃ρ2 σ2 st2,Ext ρ H ρ2 H'/\AtS X.K ρ2 H' σ2 τ'/\Rep X.K ρ2 st2 H'/\whileF t b m σ2 st2=.ok fl st',⟨n,ρ,σ,st,.refl _ _,a,rp,e⟩,?_⟩;rintro m τ' H' ⟨ρ2,σ2,st2,x2,a2,rp2,e2⟩;cases m with
 | zero=>unfold whileF at e2;cases e2
 | succ m =>
  unfold whileF at e2;obtain ⟨x,st3,e3,e4⟩:=zb e2;refine ⟨ρ2,σ2,st2,x,st3,a2,rp2,e3,fun ρ3 H3 x3 rp3=>?_⟩;have X3:=x2.trans x3;cases x with
  | false =>
   rw[if_neg (by decide)] at e4;cases e4;exact iteF (q _ _ _ X3 rp3 (a2.ext x3))
  | true =>
   rw[if_pos rfl] at e4;refine iteT ⟨fun τ4 H4=>∃ρ4 σ4 st4,Ext ρ H ρ4 H4/\AtS X.K ρ4 H4 σ4 τ4/\Rep X.K ρ4 st4 H4/\whileF t b m σ4 st4=.ok fl st',fun τ4 H4 hh=>⟨m,xhp m,hh⟩,?_⟩;cases hr:b σ2 st3 with
   | stuck=>rw[hr] at e4;cases e4
   | exc z w=>rw[hr] at e4;cases e4
   | ok fb st5 =>
    rw[hr] at e4;refine ⟨ρ3,σ2,st3,fb,st5,a2.ext x3,rp3,hr,?_⟩;cases fb with
    | nx σ3=>exact fun ρ' H'' τ5 x5 rp5 a5=>⟨ρ',σ3,st5,X3.trans x5,a5,rp5,e4⟩
    | ct σ3=>exact fun ρ' H'' τ5 x5 rp5 a5=>⟨ρ',σ3,st5,X3.trans x5,a5,rp5,e4⟩
    | brk σ3 =>
     dsimp only at e4;cases e4;exact fun ρ' H'' τ5 x5 rp5 a5=>q _ _ _ (X3.trans x5) rp5 a5
    | ret v =>
     dsimp only at e4;cases e4;exact fun ρ' H'' u x5 rp5 a5=>q _ _ _ (X3.trans x5) rp5 a5
end
def compF (bd:SG) (c:ST) (f:SE):List D->DS->Store->Res (List D)
 | [],_,st=>.ok [] st
 | x::xs,σ,st=>match bd x σ with
  | none=>.stuck
  | some σ1=>(c σ1 st).bind fun b st1=>if b=true then (f σ1 st1).bind fun y st2=>(compF bd c f xs σ1 st2).bind fun ys st3=>.ok (y::ys) st3 else compF bd c f xs σ1 st1
def startD (k:Nat) (is:List Nat) (σ:DS):DS:=List.replicate k none++is.map fun i=>(σ[i]?).getD none
def eComp (it:SA) (k:Nat) (is:List Nat) (bd:SG) (c:ST) (f:SE):SE:=fun σ st=>(it σ st).bind fun xs st1=>if xs.length<=sizeLine then (compF bd c f xs (startD k is σ) st1).bind fun ys st2=>.ok (.lst ys) st2 else .stuck
def bYes:ST:=fun _ st=>.ok true st
theorem AtS.start {K:Fg} {ρ:Loc} {H:Hp} {σ:DS} {τ:St} (h:AtS K ρ H σ τ) (k:Nat) (is:List Nat):AtS K ρ H (startD k is σ) (startC k is τ):=by
 have app:∀{a c:DS} {b d:St},AtS K ρ H a b->AtS K ρ H c d->AtS K ρ H (a++c) (b++d):=fun h1 h2=>by
  induction h1 with
  | nil=>exact h2
  | cons r t ih=>exact .cons r ih
 refine app ?_ ?_
 ·induction k with
  | zero=>exact .nil
  | succ k ih=>exact .cons (fun d e=>nomatch e) ih
 ·induction is with
  | nil=>exact .nil
  | cons i is ih =>
   refine .cons (fun d e=>?_) ih;have e:(σ[i]?).getD none=some d:=e;have e':σ[i]?=some (some d):=by
    cases q:σ[i]? with
    | none=>rw[q] at e;cases e
    | some o=>rw[q] at e;exact congrArg some e
   obtain ⟨u,hu,a⟩:=h.get e';exact ⟨u,by show (τ[i]?).getD none=some u;rw[hu];rfl,a⟩
def Loc.with (ρ:Loc) (p:Addr):Loc:=⟨ρ.m,p::ρ.g⟩
theorem zti {ρ:Loc} {H:Hp} {p:Addr} {o:HO} (hp:H p=none):Mv ρ H (ρ.with p) (upd H p o):=⟨fun e n=>⟨by rw[zp (zh e hp)];exact e,n.1,fun z=>by
 rcases xbo.mp z with z | z
 ·exact zh e hp z
 ·exact n.2 z⟩,xbe _,fun _ _ _ e=>e⟩
theorem At.with {K:Fg} {ρ:Loc} {H:Hp} {p:Addr} {o:HO} (hp:H p=none) {d:D} {v:V} (h:At K ρ H d v):At K (ρ.with p) (upd H p o) d v:=h.mv (zti hp)
theorem zpn {ρ ρ':Loc} {H:Hp} {p:Addr} {o:HO} (hm:ρ'.m=ρ.m) (hg:p∈ρ.g) (hs:∀a,a∈ρ'.g->a∈ρ.g):Mv ρ H ρ' (upd H p o):=⟨fun e n=>⟨by rw[zp (by rintro rfl;exact n.2 hg)];exact e,by rw[hm];exact n.1,fun z=>n.2 (hs _ z)⟩,by rw[hm];exact xbe _,fun _ _ _ e=>by rw[hm] at e;exact e⟩
theorem At.grow {K:Fg} {ρ ρ':Loc} {H:Hp} {p:Addr} {o:HO} (hm:ρ'.m=ρ.m) (hg:p∈ρ.g) (hs:∀a,a∈ρ'.g->a∈ρ.g) {d:D} {v:V} (h:At K ρ H d v):At K ρ' (upd H p o) d v:=h.mv (zpn hm hg hs)
theorem AtAll.grow {K:Fg} {ρ ρ':Loc} {H:Hp} {p:Addr} {o:HO} (hm:ρ'.m=ρ.m) (hg:p∈ρ.g) (hs:∀a,a∈ρ'.g->a∈ρ.g) {d:List D} {v:List V} (h:AtAll K ρ H d v):AtAll K ρ' (upd H p o) d v:=h.mv (zpn hm hg hs)
theorem OAt.map {K:Fg} {ρ ρ':Loc} {H H':Hp} {a:Addr} {x:O} (k:∀d v,At K ρ H d v->At K ρ' H' d v) (fz:∀b ob u,H b=some (.frz ob u)->H' b=some (.frz ob u)) (same:H' a=H a) (h:OAt K ρ H x a):OAt K ρ' H' x a:=by
 have ka:∀{d:List D} {v:List V},AtAll K ρ H d v->AtAll K ρ' H' d v:=fun {d v} h=>by
  induction d generalizing v with
  | nil=>cases h;exact .nil
  | cons x xs ih=>cases h with | cons a b=>exact .cons (k _ _ a) (ih b)
 cases x with
 | lst xs=>obtain ⟨vs,q,r⟩:=h;exact ⟨vs,by rw[same];exact q,ka r⟩
 | dT kvs=>obtain ⟨vs,q,r⟩:=h;exact ⟨vs,by rw[same];exact q,Paired.mapP r fun p q z=>⟨z.1,k _ _ z.2⟩⟩
 | fT kvs=>obtain ⟨vs,ob,q,r⟩:=h;exact ⟨vs,ob,by rw[same];exact q,Paired.mapP r fun p q z=>⟨z.1,k _ _ z.2⟩⟩
 | dead=>exact h.elim
 | tab=>obtain ⟨c,ps,q,r⟩:=h;exact ⟨c,ps,by rw[same];exact q,r.map fz⟩
theorem Rep.with {K:Fg} {ρ:Loc} {st:Store} {H:Hp} {p:Addr} (r:Rep K ρ st H) (hp:H p=none) (vs:List V):Rep K (ρ.with p) st (upd H p (.lst vs)) :=
 ⟨r.len,r.inj,fun m b y e1 e2=>by
  have q:=r.obj m b y e1 e2;obtain ⟨u,hu⟩:=q.has;exact q.map (fun d v h=>h.with hp) (fun b ob u e=>by rw[zp (zh e hp)];exact e) (zp (zh hu hp)),fun a ha=>by
  rcases xbo.mp ha with rfl | ha
  ·exact ⟨⟨vs,zo⟩,(zfl r hp).1⟩
  ·obtain ⟨⟨ws,h1⟩,h2⟩:=r.gh a ha
   exact ⟨⟨ws,by rw[zp (zh h1 hp)];exact h1⟩,h2⟩,r.live⟩
theorem Rep.grow {K:Fg} {ρ ρ':Loc} {st:Store} {H:Hp} {p:Addr} (r:Rep K ρ st H) (hm:ρ'.m=ρ.m) (hg:p∈ρ.g) (hs:∀a,a∈ρ'.g->a∈ρ.g) (vs:List V):Rep K ρ' st (upd H p (.lst vs)) :=
 ⟨by rw[hm];exact r.len,by rw[hm];exact r.inj,fun m b y e1 e2=>by
  rw[hm] at e1;refine (r.obj m b y e1 e2).map (fun d v h=>h.grow hm hg hs) (fun b ob u e=>by rw[zp (by rintro rfl;obtain ⟨⟨_,z⟩,_⟩:=r.gh _ hg;rw[e] at z;cases z)];exact e) (zp ?_);rintro rfl;exact (r.gh b hg).2 (xcz e1),fun a ha=>by
  obtain ⟨⟨ws,h1⟩,h2⟩:=r.gh a (hs a ha);refine ⟨?_,by rw[hm];exact h2⟩;by_cases e:a=p
  ·subst e;exact ⟨vs,zo⟩
  ·exact ⟨ws,by rw[zp e];exact h1⟩,by rw[hm];exact r.live⟩
theorem AtS.map {K:Fg} {ρ ρ':Loc} {H H':Hp} {σ:DS} {τ:St} (k:∀d v,At K ρ H d v->At K ρ' H' d v) (h:AtS K ρ H σ τ):AtS K ρ' H' σ τ:=Paired.mapP h fun o v z d e=>by
 obtain ⟨u,e1,a⟩:=z d e;exact ⟨u,e1,k _ _ a⟩
section
variable {X:Cx} {tg iter elt:Expr} {ifs:List Expr} {it:SA} {bd:SG} {c:ST} {f:SE} {N:List Str} {k:Nat} {is:List Nat} {scope:Scope} {pos:Pos}
inductive CI (K:Fg) (bd:SG) (c:ST) (f:SE) (xs ys:List D) (st2:Store) (ρ1:Loc) (H1:Hp) (p:Addr) (i:Nat) (τ:St) (H':Hp):Prop where
 | mk {ρ2:Loc} {σ2:DS} {st3:Store} {acc:List D} {accV:List V} {zs:List D} (x2:ExtG ρ1 H1 ρ2 H') (hg:ρ2.g=p::ρ1.g) (hpp:H' p=some (.lst accV)) (hal:AtAll K ρ2 H' acc accV) (hli:acc.length<=i) (a2:AtS K ρ2 H' σ2 τ) (rp2:Rep K ρ2 st3 H') (e3:compF bd c f (xs.drop i) σ2 st3=.ok zs st2) (hac:acc++zs=ys):CI K bd c f xs ys st2 ρ1 H1 p i τ H'
theorem zxk {K:Fg} {τ:St} {H:Hp} {Q:V->Hp->Prop} {ρ:Loc} {σ:DS} {st st1 st2:Store} {xs ys:List D} (a:AtS K ρ H σ τ) (rp:Rep K ρ st H) (e1:it σ st=.ok xs st1) (hlen:xs.length<=sizeLine) (e2:compF bd c f xs (startD k is σ) st1=.ok ys st2)
 (fin:∀ρ1 H1 p ρ2 H' accV,Ext ρ H ρ1 H1->Rep K ρ1 st1 H1->H1 p=none->ExtG ρ1 H1 ρ2 H'->ρ2.g=p::ρ1.g->H' p=some (.lst accV)->AtAll K ρ2 H' ys accV->Rep K ρ2 st2 H'->Q (.ref p) H'):tComp (iD K it) k is (gD K bd) (tDT K c) (tD K f) τ H Q:=by
 refine ⟨ρ,σ,st,xs,st1,a,rp,e1,fun ρ1 H1 J x1 rp1 ok p hp=>?_⟩
 refine ⟨fun i m τ' H'=>i+m=xs.length/\CI K bd c f xs ys st2 ρ1 H1 p i τ' H',
  ⟨xs.length,by lia,.mk ?_ rfl zo .nil (xec _) (((a.ext x1).start k is).map fun d v h=>h.with hp) (rp1.with hp []) e2 rfl⟩,?_⟩
 ·have E:Ext ρ1 H1 ρ1 (upd H1 p (.lst [])):=Ext.new hp _
  exact ⟨E.len,E.old,E.keep,fun a h=>by
   rcases xbo.mp h with rfl | h
   ·exact .inr hp
   ·exact .inl h,E.frz⟩
 rintro i m τ' H' ⟨him,@⟨ρ2,σ2,st3,acc,accV,zs,x2,hg,hpp,hal,hli,a2,rp2,e3,hac⟩⟩;have hpg:p∈ρ2.g:=by rw[hg];exact xbz
 rcases xfk i xs.length with hlt | hge
 ·obtain ⟨x,hx,hd⟩:=zpu hlt;rw[hd] at e3;obtain ⟨go,yl⟩:=ok.item ρ2 H' x2 i x hx
  refine .inr ⟨go,CI K bd c f xs ys st2 ρ1 H1 p (i+1),
   fun τ4 H4 hh=>⟨m - 1,by lia,by lia,hh⟩,fun y H3 hy=>?_⟩
  obtain ⟨y1,y4⟩:=yl y H3 hy;obtain ⟨y2,y3⟩:=y4 _ rp2;unfold compF at e3;cases hbd:bd x σ2 with
  | none=>rw[hbd] at e3;cases e3
  | some σ1 =>
   rw[hbd] at e3;dsimp only at e3;obtain ⟨bb,st4,e4,e5⟩:=zb e3;refine ⟨ρ2,σ2,x,σ1,a2.ext y1,y3,hbd,fun τ4 a4=>?_⟩;have hpm:some p∉ρ2.m:=(rp2.gh p hpg).2;have hpp3:=(y1.keep p _ hpp hpm).1;refine ⟨ρ2,σ1,st3,bb,st4,a4,y2,e4,fun ρ5 H5 x5 rp5=>?_⟩;have hpp5:=(x5.keep p _ hpp3 hpm).1;have hal5:=(hal.ext y1).ext x5;have g5:ρ5.g=p::ρ1.g:=x5.gho.trans hg;cases bb with
   | false =>
    rw[if_neg (by decide)] at e5;exact iteF (.mk ((x2.then y1).then x5) g5 hpp5 hal5 (xfn hli) (a4.ext x5) rp5 e5 hac)
   | true =>
    rw[if_pos rfl] at e5;obtain ⟨w,st6,e6,e7⟩:=zb e5;obtain ⟨zs',st7,e8,e9⟩:=zb e7;cases e9;refine iteT ⟨ρ5,σ1,st4,w,st6,a4.ext x5,rp5,e6,fun ρ6 H6 u x6 rp6 a6=>?_⟩;have hpm5:some p∉ρ5.m:=(x5.keep p _ hpp3 hpm).2;have hpp6:=(x6.keep p _ hpp5 hpm5).1;have g6:ρ6.g=p::ρ1.g:=x6.gho.trans g5;have hp6:p∈ρ6.g:=by rw[g6];exact xbz
    have hl6:accV.length<=i:=by rw[hal.length];exact hli
    refine ⟨accV,hpp6,xcr hl6 (xbf hlt hlen),.mk (acc:=acc++[w]) (accV:=accV++[u]) ?_ g6 zo ?_ (by rw[xcd];exact xem hli) ?_ (rp6.grow rfl hp6 (fun _ h=>h) _) e8 (by rw[← hac,xcm];rfl)⟩
    ·have G:=((x2.then y1).then x5).then x6;refine ⟨G.len,G.old,fun b o e n=>?_,G.gho,fun b ob uu e=>?_⟩
     ·rw[zp (zh e hp)];exact G.keep b o e n
     ·rw[zp (zh e hp)];exact G.frz b ob uu e
    ·exact ((hal5.ext x6).append (.cons a6 .nil)).grow rfl hp6 (fun _ h=>h)
    ·exact (a4.ext (x5.trans x6)).map fun d v h=>h.grow rfl hp6 (fun _ h=>h)
 ·rw[xhe hge] at e3;unfold compF at e3;cases e3;rw[xej] at hac;subst hac;exact .inl ⟨ok.done _ _ x2 i hge,fin _ _ _ _ _ _ x1 rp1 hp x2 hg hpp hal rp2⟩
theorem zso {K:Fg}:∀τ H Q,tD K (eComp it k is bd c f) τ H Q->tComp (iD K it) k is (gD K bd) (tDT K c) (tD K f) τ H Q:=fun τ H Q hq0=>by
 obtain ⟨ρ,σ,st,v,st',a,rp,e,q⟩:=hq0;obtain ⟨xs,st1,e1,e⟩:=zb e;split at e
 ·rename_i hlen;obtain ⟨ys,st2,e2,e⟩:=zb e;cases e;refine zxk a rp e1 hlen e2 fun ρ1 H1 p ρ2 H' accV x1 rp1 hp x2 hg hpp hal rp2=>?_
  have hpg:p∈ρ2.g:=by rw[hg];exact xbz
  have hpm:some p∉ρ2.m:=(rp2.gh p hpg).2;have self:upd H' p (.lst accV)=H':=zqf hpp;have sub:∀a,a∈(⟨ρ2.m,ρ1.g⟩:Loc).g->a∈ρ2.g:=fun b hb=>by rw[hg];exact xbu _ hb
  have E:Ext ρ1 H1 ⟨ρ2.m,ρ1.g⟩ H':=⟨x2.len,x2.old,x2.keep,rfl,x2.frz⟩
  have R:=rp2.grow (ρ':=⟨ρ2.m,ρ1.g⟩) rfl hpg sub accV;have L:=AtAll.grow (ρ:=ρ2) (ρ':=⟨ρ2.m,ρ1.g⟩) (o:=.lst accV) rfl hpg sub hal;rw[self] at R L;refine q _ _ _ (x1.trans E) R (.lst hpp ⟨hpm,fun z=>?_⟩ L);obtain ⟨⟨ws,h1⟩,_⟩:=rp1.gh p z;rw[hp] at h1;cases h1
 ·cases e
theorem zbbw (hcalm:X.calm=true) (hi:DI X tg iter it) (hg:∀cl C fp s H,DG (cxC X N scope cl C fp s H) tg bd) (hc:∀cl C fp s H,PIf (cxC X N scope cl C fp s H) ifs (tDT X.K c)) (he:∀cl C fp s H,DE (cxC X N scope cl C fp s H) elt f)
 (S:CompScope X N k is scope) (hs:∀x,foldedSetIterable iter X.env x=pure x:=by intro _;rfl):DE X (.ListComp elt [⟨tg,iter,ifs,0⟩] scope pos) (eComp it k is bd c f):=zek (zus hcalm hi hg hc he S hs) zso
theorem zwk {i:Nat} {x:Str} {pos' spos:Pos} (hcalm:X.calm=true) (hN:X.N.Nodup) (hxi:X.N[i]?=some x) (hx:L2.Loc X.env.scope x) (hi:DI X tg iter it) (hg:∀cl C fp s H,DG (cxC X N scope cl C fp s H) tg bd)
  (hc:∀cl C fp s H,PIf (cxC X N scope cl C fp s H) ifs (tDT X.K c)) (he:∀cl C fp s H,DE (cxC X N scope cl C fp s H) elt f) (S:CompScope X N k is scope)
  (hsw:swapsWith (.ListComp elt [⟨tg,iter,ifs,0⟩] scope pos) (some (.Name x pos')) spos.line X.env=pure true:=by rfl)
  (hf:X.fn x=true\/X.env.scope.names.lookup x=some .local:=by first | exact .inl rfl | exact .inr rfl | assumption)
  (hs:∀x,foldedSetIterable iter X.env x=pure x:=by intro _;rfl):DSt X (.Assign [.Name x pos'] (.ListComp elt [⟨tg,iter,ifs,0⟩] scope pos) spos) (sSet i (eComp it k is bd c f)) :=
 zkm (zpa hcalm hN hxi hx hi hg hc he S hsw hf hs) fun E τ H h=>by
  obtain ⟨ρ,σ,st,fl,st',a,rp,e,q⟩:=h;obtain ⟨v,st1,e1,e⟩:=zb e;cases e;exact zso τ H _ ⟨ρ,σ,st,v,_,a,rp,e1,fun ρ' H' u x r t=>q _ _ _ x r ((a.ext x).set t i)⟩
theorem zws {X:Cx}:PIf X [] (tDT X.K bYes):=fun pins s σ H Q I hq0=>by
 obtain ⟨ρ,σ',st,v,st',a,rp,e,q⟩:=hq0;cases e;exact zul pins s σ H Q I (q _ _ (.refl _ _) rp)
theorem zwr {X:Cx} {c:Expr} {t:ST} (h:DT X c t):PIf X [c] (tDT X.K t):=zuk h
end
end Dd
namespace Dd
open PySem L2 PyProof.Rows
def spD (K:Fg) (np:Nat) (F:DFn):Sp:=fun vs H Q _=>∃ρ ds st v st',AtAll K ρ H ds vs/\Rep K ρ st H/\F ds st=.ok v st'/\vs.length=np/\∀ρ' H' u,Ext ρ H ρ' H'->Rep K ρ' st' H'->At K ρ' H' v u->Q u H'
def CalD (P:Program) (w:World) (K:Fg) (mg:Str->Option Value) (base:Heap) (x:Str) (k:Nat) (ps:List Str) (F:DFn):Prop:=Callee P w K mg base x k ps (spD K ps.length F)
def fnD (n np:Nat) (body:SS):DFn:=fun ds st=>if ds.length=np then (match body (ds.map some++List.replicate (n - np) none) st with
 | .ok (.ret v) st'=>.ok v st'
 | .ok (.nx _) st'=>.ok .non st'
 | .exc x st'=>.exc x st'
 | _=>.stuck) else .stuck
section
variable {X:Cx} {x:Str} {k:Nat} {ps:List Str} {F:DFn} {p pos:Pos} {e:Expr} {es:List Expr} {g:SA}
theorem zbbz {K:Fg} {np:Nat} {f:SA} (hn:∀ds st v st',F ds st=.ok v st'->ds.length=np):∀τ H Q,tD K (eCall F f) τ H Q->tCall (spD K np F) [] E0 (tDA K f) τ H Q:=fun τ H Q hq0=>by
 obtain ⟨ρ,σ,st,v,st',a,rp,e,q⟩:=hq0;obtain ⟨x,st1,e1,e⟩:=zb e;refine ⟨ρ,σ,st,x,st1,a,rp,e1,fun ρ1 H1 u x1 rp1 a1=>?_⟩;show spD K np F (u++[]) H1 Q E0;rw[xej];exact ⟨ρ1,x,st1,v,st',a1,rp1,e,by rw[a1.length];exact hn _ _ _ _ e,fun ρ' H' w x2=>q ρ' H' w (x1.trans x2)⟩
theorem zbbx (c : CalD X.prog X.w X.K X.mg X.base x k ps F) (hn : ∀ ds st v st', F ds st = .ok v st' -> ds.length = ps.length) (hr : Room k X.A) (hg : Gl X x) (ha : DA X (e :: es) g) (hdb : (x == ("__debug__" : Str)) = false := by decide)
 (he:starEach (e::es) X.env=(false,eval e X.env)::starEach es X.env:=by rfl) (hpl:(backTo pos (starEach es X.env)).any (·.1)=false:=by rfl) :
 DE X (.Call (.Name x p) (e::es) [] pos) (eCall F g):=zek (zqw c hr hg ha hdb he hpl) (zbbz hn)
theorem zbl {n np:Nat} {b:SS} {ds:List D} {st st':Store} {v:D} (h:fnD n np b ds st=.ok v st'):ds.length=np:=by
 unfold fnD at h;split at h
 ·assumption
 ·cases h
end
theorem AtAll.some {K:Fg} {ρ:Loc} {H:Hp}:∀{ds:List D} {vs:List V},AtAll K ρ H ds vs->AtS K ρ H (ds.map Option.some) (vs.map Option.some)
 | _,_,.nil=>.nil
 | _,_,.cons a b=>.cons (fun d e=>by cases e;exact ⟨_,rfl,a⟩) (AtAll.some b)
theorem AtS.append {K:Fg} {ρ:Loc} {H:Hp}:∀{a c:DS} {b d:L2.St},AtS K ρ H a b->AtS K ρ H c d->AtS K ρ H (a++c) (b++d)
 | _,_,_,_,.nil,h=>h
 | _,_,_,_,.cons r t,h=>.cons r (AtS.append t h)
theorem AtS.nones {K:Fg} {ρ:Loc} {H:Hp}:∀n,AtS K ρ H (List.replicate n none) (List.replicate n none)
 | 0=>.nil
 | n+1=>.cons (fun d e=>nomatch e) (AtS.nones n)
theorem zxu {K:Fg} {N:List Str} {np:Nat} {b:SS} {vs:List V} {H:Hp} {Q:VK} {E:XK} (h:spD K np (fnD N.length np b) vs H Q E):tDS K b {nx:=fun _ H'=>Q .non H',rt:=Q} (L2.start N vs) H:=by
 obtain ⟨ρ,ds,st,v,st',a,rp,e,hl,q⟩:=h;have hd:ds.length=np:=by rw[← a.length];exact hl
 unfold fnD at e;rw[if_pos hd] at e;have as:AtS K ρ H (ds.map Option.some++List.replicate (N.length - np) none) (L2.start N vs):=by
  unfold L2.start;rw[hl];exact a.some.append (.nones _)
 refine ⟨ρ,ds.map Option.some++List.replicate (N.length - np) none,st,?_⟩;cases hr:b (ds.map Option.some++List.replicate (N.length - np) none) st with
 | stuck=>rw[hr] at e;cases e
 | exc z w=>rw[hr] at e;cases e
 | ok fl st1 =>
  rw[hr] at e;cases fl with
  | ret w =>
   dsimp only at e;cases e;exact ⟨.ret v,st',as,rp,rfl,fun ρ' H' u x r t=>q ρ' H' u x r t⟩
  | nx σ =>
   dsimp only at e;cases e;exact ⟨.nx σ,st',as,rp,rfl,fun ρ' H' τ x r t=>q ρ' H' .non x r .non⟩
  | brk σ=>cases e
  | ct σ=>cases e
theorem zxp {P:Program} {w:World} {K:Fg} {mg:Str->Option Value} {base h:Heap} {x:Str} {st:Stmt} {N ps:List Str} {k:Nat} {b:SS} (T:TopF K x st) (X:K.In h) (G:h.Ns mainGlobals mg) (S:FnScope N ps (defScope st))
  (bd:∀(kV doc pm:Value) (an:Option Addr) (cdv ct:Value) (us:List Value),us.length=ps.length->bindArgs (PySem.W.fnOf x x (defArgs st) (defBody st) (defScope st) .none kV doc pm an cdv ct) ⟨us,[]⟩=pure (ps.zip us))
  (hbody:∀(f:Addr) (cdv:Value) (A:Around) (outer:List Env) (s:Shared) (H:Hp) (E:XK),Room k (A.deeper (envOfC x (defScope st) s.heap.objs.size f cdv)) ->
   DSs (cxOf CX0 P w K mg base N x (defScope st) f cdv A outer s H E).nox (defBody st) b):CalD P w K mg base x (k+1) ps (fnD N.length ps.length b) :=
 zom T X G S bd (fun vs H Q E hh=>by obtain ⟨ρ,ds,st,v,st',a,rp,e,hl,q⟩:=hh;exact hl) fun f cdv A outer s H vs Q E hr hh=>⟨_,hbody f cdv A outer s H E hr,zxu hh⟩
def spLaw (K:Fg):Sp:=fun vs H Q _=>∃(a:Addr) (ns:List Int),vs=[.ref a]/\SqL K H a (ns.map V.int)/\ns.length<=63/\∀H',Q (.bl true) H'
theorem zbae {P : Program} {w : World} {K : Fg} {mg : Str -> Option Value} {base : Heap} {st : Stmt} {N ps : List Str} {k : Nat} {b : SS} {f : Addr} {fd : FuncData} (F : Fun K "law" "law" st f fd) (S : FnScope N ps (defScope st)) (hp : ps.length = 1)
  (hbody : ∀ (cdv : Value) (A : Around) (outer : List Env) (s : Shared) (H : Hp) (E : XK), Room k (A.deeper (envOfC "law" (defScope st) s.heap.objs.size f cdv)) ->
   DSs (cxOf CX0 P w K mg base N "law" (defScope st) f cdv A outer s H E).nox (defBody st) b)
  (holds:∀ns:List Int,ns.length<=63->∃st',fnD N.length 1 b [.scr (ns.map .int)] []=.ok (.bl true) st'):FnOk P w K mg base CX0 (k+1) f fd ps (spLaw K):=by
 refine F.ok S (fun vs H Q E hh=>?_) (fun cdv A outer s H vs Q E hr hh=>⟨_,hbody cdv A outer s H E hr,?_⟩)
 ·obtain ⟨a,ns,rfl,_⟩:=hh;exact hp.symm
 ·obtain ⟨a,ns,rfl,hS,hl,q⟩:=hh;obtain ⟨st',e⟩:=holds ns hl;refine zxu (np:=1) (E:=E) ⟨⟨[],[]⟩,[.scr (ns.map .int)],[],_,st',.cons (.scr ?_ (zda ns)) .nil,⟨rfl,fun n m a e _=>by simp at e,fun n a o e _=>by simp at e,fun a h=>(by cases h),fun n o e _=>by simp at e⟩,e,rfl,fun ρ' H' u x r t=>?_⟩
  ·rcases hS with h | h
   ·exact .inl ⟨h,by simp[Out]⟩
   ·exact .inr fun H'=>.inr h
  ·cases t;exact q H'
end Dd
namespace Dd
open PySem L2
def oNeg:D->Store->Res D:=fun x st=>match x with
 | .int i=>.ok (.int (-i)) st
 | _=>.stuck
def tru (st:Store):D->Option Bool
 | .non=>some false
 | .bl b=>some b
 | .int i=>some (i != 0)
 | .tup xs=>some !xs.isEmpty
 | d=>(asL st d).map fun xs=>!xs.isEmpty
def eTru (f:SE):ST:=fun σ st=>(f σ st).bind fun v st1=>match tru st1 v with
 | some b=>.ok b st1
 | none=>.stuck
theorem zgm {K:Fg} {ρ:Loc} {H:Hp} {ds:List D} {vs:List V} (h:AtAll K ρ H ds vs):ds.isEmpty=vs.isEmpty:=by
 cases h<;>rfl
theorem zyp {K:Fg} {ρ:Loc} {st:Store} {H:Hp} (rp:Rep K ρ st H) {d:D} {u:V} {b:Bool} (a:At K ρ H d u) (e:tru st d=some b):TruV K u H b:=by
 unfold tru at e;split at e
 ·cases a;cases e;exact rfl
 ·cases a;cases e;exact rfl
 ·cases a;cases e;exact rfl
 ·cases e;cases a with
  | tup h1 h2 h3=>exact .inr (.inl ⟨_,SqT.of h1,by rw[zgm h3]⟩)
 ·obtain ⟨xs,h0,rfl⟩:=xdg.mp e;obtain ⟨p,vs,rfl,h1,h2⟩:=zen rp a h0;exact .inl ⟨_,SqL.of h1,by rw[zgm h2]⟩
section
variable {X:Cx} {a b c e:Expr} {f f' f'':SE} {pos:Pos} {sm:Stmt}
theorem zbes (h:DE X a f):DE X (.UnaryOp .USub a pos) (eUn oNeg f):=zek (zbdq zyn h) fun τ H Q hq0=>by
 obtain ⟨ρ,σ,st,v,st',at',rp,e,q⟩:=hq0;obtain ⟨x,st1,e1,e⟩:=zb e;refine ⟨ρ,σ,st,x,st1,at',rp,e1,fun ρ1 H1 u x1 rp1 a1=>?_⟩;cases x<;>try (cases e;done)
 cases e;cases a1;exact ⟨_,rfl,q _ _ _ x1 rp1 (.int _)⟩
theorem zbbf (h:DE X a f) (he:∀whole,isTrue a X.env whole=(do let v ← whole;standAt a.pos;holding [v] (truthy v)):=by intro _;rfl):DT X a (eTru f):=zze (zqn h he) fun τ H Q hq0=>by
 obtain ⟨ρ,σ,st,v,st',at',rp,e,q⟩:=hq0;obtain ⟨x,st1,e1,e⟩:=zb e;refine ⟨ρ,σ,st,x,st1,at',rp,e1,fun ρ1 H1 u x1 rp1 a1=>?_⟩;split at e
 ·rename_i bb hb;cases e;exact ⟨_,zyp rp1 a1 hb,q _ _ x1 rp1⟩
 ·cases e
end
end Dd
namespace Dd
open PySem PySem.Spec PyProof.Rows L2
section
variable {X:Cx} {l:Expr} {f:SE} {elts:List Expr} {k j:Nat} {tpos p pos kpos cpos:Pos}
end
end Dd
namespace Dd
open PySem L2
def bInt:List D->Store->Res D:=fun xs st=>match xs with
 | [.int i]=>.ok (.int i) st
 | [.bl k]=>.ok (.int (if k then 1 else 0)) st
 | _=>.stuck
theorem zxy {K:Fg}:CaD K bInt (fun xs H Q=>(∃i,xs=[.int i]/\Q (.int i) H)\/∃k,xs=[.bl k]/\Q (.int (if k then 1 else 0)) H):=fun ρ H st xs us z st' Q rp aa e q=>by
 unfold bInt at e;split at e
 ·cases e;obtain ⟨u,rfl,a⟩:=aa.one;cases a;exact .inl ⟨_,rfl,q _ _ _ (.refl _ _) rp (.int _)⟩
 ·cases e;obtain ⟨u,rfl,a⟩:=aa.one;cases a;exact .inr ⟨_,rfl,q _ _ _ (.refl _ _) rp (.int _)⟩
 ·cases e
theorem zow {ρ:Loc} {g':List Addr} {p a:Addr} (hg:p∈ρ.g) (hs:∀a,a∈g'->a∈ρ.g) (n:Out ρ a):Out ⟨ρ.m++[some p],g'⟩ a :=
 ⟨fun z=>by
  rcases xca.mp z with z | z
  ·exact n.1 z
  ·simp at z;subst z
   exact n.2 hg,fun z=>n.2 (hs _ z)⟩
theorem zmh {ρ:Loc} {g':List Addr} {H:Hp} {p:Addr} (hg:p∈ρ.g) (hs:∀a,a∈g'->a∈ρ.g):Mv ρ H ⟨ρ.m++[some p],g'⟩ H:=⟨fun e n=>⟨e,zow hg hs n⟩,by
 show ρ.m.length<=(ρ.m++[some p]).length;rw[xcd];exact xbr _ _,fun n a h q=>by
 have q':(ρ.m++[some p])[n]?=some (some a):=q;rw[xbx h] at q'
 exact q'⟩
theorem At.adopt {K:Fg} {ρ:Loc} {g':List Addr} {H:Hp} {p:Addr} (hg:p∈ρ.g) (hs:∀a,a∈g'->a∈ρ.g) {d:D} {v:V} (h:At K ρ H d v):At K ⟨ρ.m++[some p],g'⟩ H d v:=h.mv (zmh hg hs)
theorem AtAll.adopt {K:Fg} {ρ:Loc} {g':List Addr} {H:Hp} {p:Addr} (hg:p∈ρ.g) (hs:∀a,a∈g'->a∈ρ.g) {d:List D} {v:List V} (h:AtAll K ρ H d v):AtAll K ⟨ρ.m++[Option.some p],g'⟩ H d v:=h.mv (zmh hg hs)
theorem Rep.adopt {K:Fg} {ρ:Loc} {g':List Addr} {st:Store} {H:Hp} {p:Addr} {xs:List D} {vs:List V} (r:Rep K ρ st H) (hg:p∈ρ.g) (hs:∀a,a∈g'->a∈ρ.g) (hn:p∉g') (hp:H p=some (.lst vs)) (al:AtAll K ρ H xs vs) :
  Rep K ⟨ρ.m++[some p],g'⟩ (st++[.lst xs]) H:=by
 have hpm:some p∉ρ.m:=(r.gh p hg).2;have nl:∀(m:Nat),ρ.m[m]?≠some (some p):=fun m e=>hpm (xcz e)
 have cs:∀(m:Nat) (b:Addr),(ρ.m++[some p])[m]?=some (some b)->(m < ρ.m.length/\ρ.m[m]?=some (some b))\/(m=ρ.m.length/\b=p):=fun m b e=>by
  rcases xfk m ρ.m.length with z | z
  ·rw[xbx z] at e;exact .inl ⟨z,e⟩
  ·rw[xch z] at e;have z2:m - ρ.m.length=0:=by
    have:=(xbn.mp e).1;simp at this;lia
   rw[z2] at e;simp at e;exact .inr ⟨by lia,e.symm⟩
 refine ⟨by simp[r.len],fun m k b e1 e2=>?_,fun m b y e1 e2=>?_,fun b hb=>?_,fun m y e ne=>?_⟩
 ·rcases cs m b e1 with ⟨h1,q1⟩ | ⟨h1,rfl⟩
  ·rcases cs k b e2 with ⟨h2,q2⟩ | ⟨h2,rfl⟩
   ·exact r.inj m k b q1 q2
   ·exact absurd q1 (nl m)
  ·rcases cs k b e2 with ⟨h2,q2⟩ | ⟨h2,_⟩
   ·exact absurd q2 (nl k)
   ·lia
 ·rcases cs m b e1 with ⟨h1,q1⟩ | ⟨h1,rfl⟩
  ·rw[xbx (by rw[← r.len];exact h1)] at e2;exact (r.obj m b y q1 e2).map (fun d v h=>h.adopt hg hs) (fun _ _ _ e=>e) rfl
  ·rw[h1,r.len,xch (xbe _)] at e2;simp at e2;subst e2;exact ⟨vs,hp,al.adopt hg hs⟩
 ·obtain ⟨h1,h2⟩:=r.gh b (hs b hb);refine ⟨h1,fun z=>?_⟩;rcases xca.mp z with z | z
  ·exact h2 z
  ·simp at z;subst z;exact hn hb
 ·rcases xfk m st.length with z | z
  ·rw[xbx z] at e;obtain ⟨b,hb⟩:=r.live m y e ne;exact ⟨b,by show (ρ.m++[some p])[m]?=_;rw[xbx (by rw[r.len];exact z)];exact hb⟩
  ·have z2:=(xbn.mp e).1;simp at z2;have z3:m=ρ.m.length:=by rw[r.len];lia
   exact ⟨p,by show (ρ.m++[some p])[m]?=_;rw[z3,xch (xbe _)];simp⟩
def eCompM (it:SA) (k:Nat) (is:List Nat) (bd:SG) (c:ST) (f:SE):SE:=fun σ st=>(it σ st).bind fun xs st1=>if xs.length<=sizeLine then (compF bd c f xs (startD k is σ) st1).bind fun ys st2=>.ok (.ref st2.length) (st2++[.lst ys]) else .stuck
section
variable {X:Cx} {tg iter elt:Expr} {ifs:List Expr} {it:SA} {bd:SG} {c:ST} {f:SE} {N:List Str} {k:Nat} {is:List Nat} {scope:Scope} {pos:Pos}
theorem zxi {K:Fg}:∀τ H Q,tD K (eCompM it k is bd c f) τ H Q->tComp (iD K it) k is (gD K bd) (tDT K c) (tD K f) τ H Q:=fun τ H Q hq0=>by
 obtain ⟨ρ,σ,st,v,st',a,rp,e,q⟩:=hq0;obtain ⟨xs,st1,e1,e⟩:=zb e;split at e
 ·rename_i hlen;obtain ⟨ys,st2,e2,e⟩:=zb e;cases e;refine zxk a rp e1 hlen e2 fun ρ1 H1 p ρ2 H' accV x1 rp1 hp x2 hg hpp hal rp2=>?_
  have hpg:p∈ρ2.g:=by rw[hg];exact xbz
  have hpm:some p∉ρ2.m:=(rp2.gh p hpg).2;have sub:∀a,a∈ρ1.g->a∈ρ2.g:=fun b hb=>by rw[hg];exact xbu _ hb
  have hn1:p∉ρ1.g:=fun z=>by
   obtain ⟨⟨ws,h1⟩,_⟩:=rp1.gh p z;rw[hp] at h1;cases h1
  have R:=rp2.adopt hpg sub hn1 hpp hal
  have E:Ext ρ1 H1 ⟨ρ2.m++[some p],ρ1.g⟩ H':=⟨by
    show ρ1.m.length<=(ρ2.m++[some p]).length;rw[xcd];exact xbb x2.len (xbr _ _),fun n b h e=>by
    have e':(ρ2.m++[some p])[n]?=some (some b):=e;rw[xbx (xbf h x2.len)] at e'
    exact x2.old n b h e',fun b o e m=>⟨(x2.keep b o e m).1,fun z=>by
    rcases xca.mp z with z | z
    ·exact (x2.keep b o e m).2 z
    ·simp at z;subst z
     rw[hp] at e;cases e⟩,rfl,x2.frz⟩
  exact q _ _ _ (x1.trans E) R (.last (ρ:=⟨ρ2.m,ρ1.g⟩) rp2.len.symm)
 ·cases e
theorem zrz {i:Nat} {x:Str} {pos' spos:Pos} (hcalm:X.calm=true) (hN:X.N.Nodup) (hxi:X.N[i]?=some x) (hx:L2.Loc X.env.scope x) (hi:DI X tg iter it) (hg:∀cl C fp s H,DG (cxC X N scope cl C fp s H) tg bd)
  (hc:∀cl C fp s H,PIf (cxC X N scope cl C fp s H) ifs (tDT X.K c)) (he:∀cl C fp s H,DE (cxC X N scope cl C fp s H) elt f) (S:CompScope X N k is scope)
  (hsw:swapsWith (.ListComp elt [⟨tg,iter,ifs,0⟩] scope pos) (some (.Name x pos')) spos.line X.env=pure true:=by rfl)
  (hf:X.fn x=true\/X.env.scope.names.lookup x=some .local:=by first | exact .inl rfl | exact .inr rfl | assumption)
  (hs:∀x,foldedSetIterable iter X.env x=pure x:=by intro _;rfl):DSt X (.Assign [.Name x pos'] (.ListComp elt [⟨tg,iter,ifs,0⟩] scope pos) spos) (sSet i (eCompM it k is bd c f)) :=
 zkm (zpa hcalm hN hxi hx hi hg hc he S hsw hf hs) fun E τ H h=>by
  obtain ⟨ρ,σ,st,fl,st',a,rp,e,q⟩:=h;obtain ⟨v,st1,e1,e⟩:=zb e;cases e;exact zxi τ H _ ⟨ρ,σ,st,v,_,a,rp,e1,fun ρ' H' u x r t=>q _ _ _ x r ((a.ext x).set t i)⟩
end
def plainE:Expr->Bool
 | .Starred _ _=>false
 | _=>true
theorem zdp {e:Expr} {es:List Expr} {env:Env} (h:plainE e=true):starEach (e::es) env=(false,eval e env)::starEach es env:=by
 cases e<;>first | rfl | cases h
theorem zse {X:Cx} {e:Expr} {es:List Expr} {f:SE} {g:SA} (ha:DE X e f) (hr:DA X es g) (hp:plainE e=true:=by rfl):DA X (e::es) (aCons f g):=zwx ha hr (zdp hp)
def bBest (gt:Bool):List D->Store->Res D:=fun xs st=>match xs with
 | [x]=>match (seqOf st x).bind asInts with
  | some (n::ns)=>.ok (.int (bestI gt n ns)) st
  | _=>.stuck
 | _=>.stuck
theorem zxz {K:Fg} {gt:Bool}:CaD K (bBest gt) (rBest K gt):=fun ρ H st xs us z st' Q rp aa e q=>by
 unfold bBest at e;split at e
 ·split at e
  ·rename_i n ns h;cases e;obtain ⟨ys,h0,h⟩:=xed.mp h;obtain ⟨u,rfl,a⟩:=aa.one;obtain ⟨p,vs,rfl,h1,h2⟩:=zdq rp a h0;have e:=zbg h2 h;subst e;exact ⟨p,n,ns,rfl,h1,q _ _ _ (.refl _ _) rp (.int _)⟩
  ·cases e
 ·cases e
def pairsF:List D->List D->List D
 | x::xs,y::ys=>.tup [x,y]::pairsF xs ys
 | _,_=>[]
def iZipT (g:SA):SA:=fun σ st=>(g σ st).bind fun xs st1=>match xs with
 | [.tup a,.tup b]=>.ok (pairsF a b) st1
 | _=>.stuck
section
variable {X:Cx} {a b:Expr} {g:SA} {elts:List Expr} {k:Nat} {tpos p pos:Pos}
end
def sSetG (bd:SG) (f:SE):SS:=fun σ st=>(f σ st).bind fun v st1=>match bd v σ with
 | some σ1=>.ok (.nx σ1) st1
 | none=>.stuck
end Dd
namespace Dd
open PySem L2 PyProof.Rows
structure JE (X:Cx) (e:Expr) (f:SE):Prop where out:DE X e f
structure JT (X:Cx) (e:Expr) (f:ST):Prop where out:DT X e f
structure JW (X:Cx) (e:Expr) (f:ST):Prop where out:DW X e f
structure JA (X:Cx) (e:List Expr) (f:SA):Prop where out:DA X e f
structure JS (X:Cx) (s:Stmt) (f:SS):Prop where out:DSt X s f
structure JB (X:Cx) (s:List Stmt) (f:SS):Prop where out:DSs X s f
structure JO (X:Cx) (e:Option Expr) (f:DS->Store->Res (Option Int)):Prop where out:DO X e f
structure JG (X:Cx) (e:Expr) (b:SG):Prop where out:DG X e b
structure JI (X:Cx) (tg iter:Expr) (f:SA):Prop where out:DI X tg iter f
structure JIf (X:Cx) (ifs:List Expr) (c:ST):Prop where out:PIf X ifs (tDT X.K c)
theorem JW.pt {X:Cx} {e:Expr} {t:ST} (h:JW X e t):JT X e t:=⟨PW.pt h.out⟩
section
variable {X:Cx}
theorem zc {e:Expr} {i:Nat} (h:PE X e (tVar i)):JE X e (eVar i):=⟨zbeo h⟩
theorem zxe {e:Expr} {v:V} {d:D} (h:PE X e (tC v)) (k:∀ρ H,At X.K ρ H d v):JE X e (eC d):=⟨zbbv h k⟩
theorem zi {i j pos}:JE X (.Constant (.int i) j pos) (eC (.int i)):=⟨zbeu⟩
theorem zbby {b j pos}:JE X (.Constant (.bool b) j pos) (eC (.bl b)):=⟨d_bl⟩
end
section
variable {X:Cx} {a b c:Expr} {f f' f'':SE} {pos:Pos}
theorem zbz {op:Operator} {r:R2} {g:D->D->Store->Res D} (ho:OpR X (binaryOp op) r) (hr:OpD X.K g r) (ha:JE X a f) (hb:JE X b f'):JE X (.BinOp a op b pos) (eOp g f f'):=⟨d_op ho hr ha.out hb.out⟩
theorem zxf {op:CmpOp} {r:R2} {g:D->D->Store->Res D} (ho:OpR X (compareOp op) r) (hr:OpD X.K g r) (ha:JE X a f) (hb:JE X b f') (hm:behindInMarks op b=false):JE X (.Compare a [op] [b] pos) (eOp g f f'):=⟨zbev ho hr ha.out hb.out hm⟩
theorem zbm {op:CmpOp} {r:R2} {g:D->D->Store->Res D} (ho:OpR X (compareOp op) r) (hr:OpD X.K g r) (ha:JE X a f) (hb:JE X b f') (hm:behindInMarks op b=false):JT X (.Compare a [op] [b] pos) (eB (eOp g f f')):=⟨zbbh ho hr ha.out hb.out hm⟩
end
section
variable {X:Cx} {a b:Expr} {rest:List Expr} {f f':SE} {t t':ST} {pos:Pos}
theorem zlp {op} (h:JT X a t) (hop:op=.And\/op=.Or):JW X (.BoolOp op [a] pos) t:=⟨zbbc h.out hop⟩
theorem zwg (ha:JT X a t) (hb:JW X (.BoolOp .And (b::rest) pos) t'):JW X (.BoolOp .And (a::b::rest) pos) (bAnd t t'):=⟨zbbd ha.out hb.out⟩
theorem zwf (ha:JT X a t) (hb:JW X (.BoolOp .Or (b::rest) pos) t'):JW X (.BoolOp .Or (a::b::rest) pos) (bOr t t'):=⟨zbek ha.out hb.out⟩
theorem zpt (ha:JT X a t):JT X (.UnaryOp .Not a pos) (bNot t):=⟨zbbg ha.out⟩
end
section
variable {X:Cx} {e:Expr} {es:List Expr} {f:SE} {g:SA} {pos:Pos}
theorem zd :JA X [] aNil:=⟨zbbp⟩
theorem zbbq {x1} (h:JA X es g):JE X (.Tuple es x1 pos) (eTup g):=⟨zbep h.out⟩
theorem zsf (h:JA X es g):JE X (.List es pos) (eLst g):=⟨zbet h.out⟩
theorem zxa (h:JA X es g):JE X (.List es pos) (eLstM g):=⟨zbbr h.out⟩
end
section
variable {X:Cx} {a b e:Expr} {f f':SE} {pos:Pos} {lo hi:Option Expr} {l h:DS->Store->Res (Option Int)}
theorem zsc :JO X none pNone:=⟨zwp⟩
theorem zsb (he:JE X e f):JO X (some e) (pSome f):=⟨zwo he.out⟩
theorem zml (ha:JE X a f) (hb:JE X b f') (hs:PlainIx b):JE X (.Subscript a b pos) (eOp oIx f f'):=⟨d_ix ha.out hb.out hs⟩
theorem zber {p2:Pos} (he:JE X e f) (hl:JO X lo l) (hu:JO X hi h):JE X (.Subscript e (.Slice lo hi none p2) pos) (eSl f l h):=⟨d_sl he.out hl.out hu.out⟩
end
section
variable {X:Cx} {x:Str} {p pos:Pos} {e:Expr} {es:List Expr} {f:SA} {id T:String} {r:List V->Hp->VK->Prop} {g:List D->Store->Res D}
theorem zq (hc : CallR X (.builtin id) r) (hr : CaD X.K g r) (hg : Gl X x) (hm : X.mg x = none) (hv : bootBuiltins x = some (.builtin id)) (ha : JA X (e :: es) f) (hn : x ≠ "__name__" := by decide) (hdb : (x == ("__debug__" : Str)) = false := by decide) (he : starEach (e :: es) X.env = (false, eval e X.env) :: starEach es X.env := by rfl) (hpl : (backTo pos (starEach es X.env)).any (·.1) = false := by rfl) : JE X (.Call (.Name x p) (e :: es) [] pos) (eCall g f) := ⟨zxg hc hr hg hm hv ha.out hn hdb he hpl⟩
theorem zcj (hc : CallR X (.type T) r) (hr : CaD X.K g r) (hg : Gl X x) (hm : X.mg x = none) (hv : bootBuiltins x = some (.type T)) (ha : JA X (e :: es) f) (hn : x ≠ "__name__" := by decide) (hdb : (x == ("__debug__" : Str)) = false := by decide) (he : starEach (e :: es) X.env = (false, eval e X.env) :: starEach es X.env := by rfl) (hpl : (backTo pos (starEach es X.env)).any (·.1) = false := by rfl) : JE X (.Call (.Name x p) (e :: es) [] pos) (eCall g f) := ⟨zsi hc hr hg hm hv ha.out hn hdb he hpl⟩
end
section
variable {X:Cx} {a b c o i e value f':Expr} {f g h:SE} {pos pos' apos cpos:Pos}
theorem zxb :JE X (.Dict [] [] pos) eDNew:=⟨zbbt⟩
theorem zxc (hu:X.A.units+1 < cLine) (ho:JE X o f) (hi:JE X i g) (hs:NoSl i):JE X (.Subscript o i pos) (eOp oDGet f g):=⟨zbbu hu ho.out hi.out hs⟩
theorem zsh (hu : X.A.units + 1 < cLine) (ho : JE X o f) (he : JE X e g) (hf : JE X f' h) (m : M2 X o "get" apos e f' cpos) : JE X (.Call (.Attribute o "get" apos) [e, f'] [] cpos) (eDGet2 f g h) := ⟨zxd hu ho.out he.out hf.out m⟩
theorem zsa (hu:X.A.units+1 < cLine) (ho:JE X o f) (hi:JE X i g) (hv:JE X value h) (hs:swapsWith value (some (.Subscript o i pos')) pos.line X.env=pure false):JS X (.Assign [.Subscript o i pos'] value pos) (sDPut f g h):=⟨zwm hu ho.out hi.out hv.out hs⟩
end
section
variable {X:Cx} {o e i value:Expr} {es:List Expr} {f g h:SE} {ga:SA} {pos apos cpos:Pos}
theorem zok (ho : JE X o f) (ha : JA X (e :: es) ga) (hbase : attributeBase o "append" X.env (eval o X.env) = eval o X.env := by rfl) (hfew : ((backTo cpos (starEach (e :: es) X.env)).all (fun x => !x.1) && (backToKw cpos (keywordEach [] X.env)).all (fun x => x.1.isSome)
 && decide ((e :: es).length + ([] : List Keyword).length + (if ([] : List Keyword).isEmpty then 0 else 1) < 30)) = true := by rfl) (hline : (apos.endLine == cpos.line) = true := by rfl) (hs : starEach (e :: es) X.env = (false, eval e X.env) :: starEach es X.env := by rfl) (hplain : (backTo cpos (starEach es X.env)).any (·.1) = false := by rfl) : JE X (.Call (.Attribute o "append" apos) (e :: es) [] cpos) (eAppend f ga) := ⟨zsj ho.out ha.out hbase hfew hline hs hplain⟩
end
section
variable {X:Cx} {e c o i value:Expr} {sm:Stmt} {rest:List Stmt} {f g h:SE} {s t:SS} {b:ST} {pos pos':Pos}
theorem zea :JB X [] sNx:=⟨zbbl⟩
theorem zcf (he:JE X e f):JS X (.Return (some e) pos) (sRet f):=⟨zbbj he.out⟩
theorem zlr (he:JE X e f) (hs:swapsWith e none pos.line X.env=pure false:=by rfl):JS X (.Expr e pos) (sDrop f):=⟨zwl he.out hs⟩
theorem zr {i:Nat} {x:Str} (hN:X.N.Nodup) (hi:X.N[i]?=some x) (hx:L2.Loc X.env.scope x) (he:JE X e f) (hs:swapsWith e (some (.Name x pos')) pos.line X.env=pure false:=by rfl) (hf:X.fn x=true\/X.env.scope.names.lookup x=some .local:=by first | exact .inl rfl | exact .inr rfl | assumption):JS X (.Assign [.Name x pos'] e pos) (sSet i f):=⟨zbbi hN hi hx he.out hs hf⟩
theorem zv (h1:JS X sm s):JB X [sm] s:=⟨zbbk h1.out⟩
theorem ze (h1:JS X sm s) (h2:JB X rest t):JB X (sm::rest) (sSeq s t):=⟨zwn h1.out h2.out⟩
theorem zho {a' b':List Stmt} (hc:JT X c b) (ha:JB X a' s) (hb:JB X b' t):JS X (.If c a' b' pos) (sIf b s t):=⟨zbem hc.out ha.out hb.out⟩
theorem zdm (he:JE X value h) (ho:JE X o f) (hi:JE X i g) (ha:∀v,assign (.Subscript o i pos') X.env v=(do
 let ov ← holding [v] (eval o X.env)
 let iv ← holding [v,ov] (eval i X.env)
 standAt pos'
 holding [v,ov,iv] (setItem ov iv v)
 release [v,ov,iv] []):=by intro _;rfl) (hs:swapsWithSole [.Subscript o i pos'] value pos.line X.env=pure false:=by rfl) (hw:swappedStores [.Subscript o i pos'] value X.env=pure none:=by rfl) (h1:(assignEach [.Subscript o i pos'] X.env).map (·.2)=[assign (.Subscript o i pos') X.env]:=by rfl):JS X (.Assign [.Subscript o i pos'] value pos) (sSetIx f g h):=⟨zry he.out ho.out hi.out ha hs hw h1⟩
end
section
variable {X:Cx} {pos:Pos} {e:Expr} {es:List Expr} {t:SG} {u:List D->DS->Option DS}
theorem zw {i:Nat} {x:Str} (hN:X.N.Nodup) (hi:X.N[i]?=some x) (hx:L2.Loc X.env.scope x) (hf:X.fn x=true\/X.env.scope.names.lookup x=some .local:=by first | exact .inl rfl | exact .inr rfl | assumption):JG X (.Name x pos) (gN i):=⟨zwu hN hi hx hf⟩
end
section
variable {X:Cx} {tg l a b:Expr} {f:SE} {g:SA} {p pos:Pos}
theorem zde (hl:JE X l f):JI X tg l (iSeq f):=⟨zbbo hl.out⟩
theorem zbj (hg : Gl X "range") (hm : X.mg "range" = none) (ha : JA X [a] g) (hs : starEach [a] X.env = [(false, eval a X.env)] := by rfl) : JI X tg (.Call (.Name "range" p) [a] [] pos) (iR1 g) := ⟨zog hg hm ha.out hs⟩
end
section
variable {X:Cx} {tg l:Expr} {f:SE}
theorem zsd (hl:JE X l f):JI X tg l (iDict f):=⟨zwt hl.out⟩
end
section
variable {X:Cx} {tg iter c:Expr} {body:List Stmt} {it:SA} {bd:SG} {b:SS} {t:ST} {pos:Pos}
theorem zey (hp:PassesOwn (model X.prog X.w) X.A X.env X.xe) (hc:X.calm=true) (hi:JI X tg iter it) (hg:JG X tg bd) (hb:JB X body b) (hs:∀x,foldedSetIterable iter X.env x=pure x:=by intro _;rfl):JS X (.For tg iter body [] pos) (sFor it bd b):=⟨zbbm hp hc hi.out hg.out hb.out hs⟩
theorem zod (hp:PassesOwn (model X.prog X.w) X.A X.env X.xe) (hc:JT X c t) (hb:JB X body b):JS X (.While c body [] pos) (sWhile t b):=⟨zrx hp hc.out hb.out⟩
end
section
variable {X:Cx} {tg iter elt:Expr} {ifs:List Expr} {it:SA} {bd:SG} {c:ST} {f:SE} {N:List Str} {k:Nat} {is:List Nat} {scope:Scope} {pos:Pos}
theorem zez (hcalm:X.calm=true) (hi:JI X tg iter it) (hg:∀cl C fp s H,JG (cxC X N scope cl C fp s H) tg bd) (hc:∀cl C fp s H,JIf (cxC X N scope cl C fp s H) ifs c) (he:∀cl C fp s H,JE (cxC X N scope cl C fp s H) elt f) (S:CompScope X N k is scope) (hs:∀x,foldedSetIterable iter X.env x=pure x:=by intro _;rfl):JE X (.ListComp elt [⟨tg,iter,ifs,0⟩] scope pos) (eComp it k is bd c f):=⟨zbbw hcalm hi.out (fun cl C fp s H=>(hg cl C fp s H).out) (fun cl C fp s H=>(hc cl C fp s H).out) (fun cl C fp s H=>(he cl C fp s H).out) S hs⟩
theorem zlq {i:Nat} {x:Str} {pos' spos:Pos} (hcalm:X.calm=true) (hN:X.N.Nodup) (hxi:X.N[i]?=some x) (hx:L2.Loc X.env.scope x) (hi:JI X tg iter it) (hg:∀cl C fp s H,JG (cxC X N scope cl C fp s H) tg bd) (hc:∀cl C fp s H,JIf (cxC X N scope cl C fp s H) ifs c) (he:∀cl C fp s H,JE (cxC X N scope cl C fp s H) elt f) (S:CompScope X N k is scope) (hsw:swapsWith (.ListComp elt [⟨tg,iter,ifs,0⟩] scope pos) (some (.Name x pos')) spos.line X.env=pure true:=by rfl) (hf:X.fn x=true\/X.env.scope.names.lookup x=some .local:=by first | exact .inl rfl | exact .inr rfl | assumption) (hs:∀x,foldedSetIterable iter X.env x=pure x:=by intro _;rfl):JS X (.Assign [.Name x pos'] (.ListComp elt [⟨tg,iter,ifs,0⟩] scope pos) spos) (sSet i (eComp it k is bd c f)):=⟨zwk hcalm hN hxi hx hi.out (fun cl C fp s H=>(hg cl C fp s H).out) (fun cl C fp s H=>(hc cl C fp s H).out) (fun cl C fp s H=>(he cl C fp s H).out) S hsw hf hs⟩
theorem zee {X:Cx}:JIf X [] bYes:=⟨zws⟩
theorem zed {X:Cx} {c:Expr} {t:ST} (h:JT X c t):JIf X [c] t:=⟨zwr h.out⟩
end
section
variable {X:Cx} {x:Str} {k:Nat} {ps:List Str} {F:DFn} {p pos:Pos} {e:Expr} {es:List Expr} {g:SA}
theorem zbn (c : CalD X.prog X.w X.K X.mg X.base x k ps F) (hn : ∀ ds st v st', F ds st = .ok v st' -> ds.length = ps.length) (hr : Room k X.A) (hg : Gl X x) (ha : JA X (e :: es) g) (hdb : (x == ("__debug__" : Str)) = false := by decide) (he : starEach (e :: es) X.env = (false, eval e X.env) :: starEach es X.env := by rfl) (hpl : (backTo pos (starEach es X.env)).any (·.1) = false := by rfl) : JE X (.Call (.Name x p) (e :: es) [] pos) (eCall F g) := ⟨zbbx c hn hr hg ha.out hdb he hpl⟩
end
section
theorem zcq {P:Program} {w:World} {K:Fg} {mg:Str->Option Value} {base h:Heap} {x:Str} {st:Stmt} {N ps:List Str} {k:Nat} {b:SS} (T:TopF K x st) (X:K.In h) (G:h.Ns mainGlobals mg) (S:FnScope N ps (defScope st)) (bd:∀(kV doc pm:Value) (an:Option Addr) (cdv ct:Value) (us:List Value),us.length=ps.length->bindArgs (PySem.W.fnOf x x (defArgs st) (defBody st) (defScope st) .none kV doc pm an cdv ct) ⟨us,[]⟩=pure (ps.zip us)) (hbody:∀(f:Addr) (cdv:Value) (A:Around) (outer:List Env) (s:Shared) (H:Hp) (E:XK),Room k (A.deeper (envOfC x (defScope st) s.heap.objs.size f cdv)) ->
 JB (cxOf CX0 P w K mg base N x (defScope st) f cdv A outer s H E).nox (defBody st) b):CalD P w K mg base x (k+1) ps (fnD N.length ps.length b):=zxp T X G S bd (fun f cdv A outer s H E rr=>(hbody f cdv A outer s H E rr).out)
end
section
theorem zvr {P : Program} {w : World} {K : Fg} {mg : Str -> Option Value} {base : Heap} {st : Stmt} {N ps : List Str} {k : Nat} {b : SS} {f : Addr} {fd : FuncData} (F : Fun K "law" "law" st f fd) (S : FnScope N ps (defScope st)) (hp : ps.length = 1) (hbody : ∀ (cdv : Value) (A : Around) (outer : List Env) (s : Shared) (H : Hp) (E : XK), Room k (A.deeper (envOfC "law" (defScope st) s.heap.objs.size f cdv)) ->
 JB (cxOf CX0 P w K mg base N "law" (defScope st) f cdv A outer s H E).nox (defBody st) b) (holds : ∀ ns : List Int, ns.length <= 63 -> ∃ st', fnD N.length 1 b [.scr (ns.map .int)] [] = .ok (.bl true) st') : FnOk P w K mg base CX0 (k + 1) f fd ps (spLaw K) := zbae F S hp (fun cdv A outer s H E rr => (hbody cdv A outer s H E rr).out) holds
end
section
variable {X:Cx} {a b c e:Expr} {f f' f'':SE} {pos:Pos} {sm:Stmt}
theorem zwy (h:JE X a f):JE X (.UnaryOp .USub a pos) (eUn oNeg f):=⟨zbes h.out⟩
theorem zps (h:JE X a f) (he:∀whole,isTrue a X.env whole=(do let v ← whole;standAt a.pos;holding [v] (truthy v)):=by intro _;rfl):JT X a (eTru f):=⟨zbbf h.out he⟩
end
section
variable {X:Cx} {l:Expr} {f:SE} {elts:List Expr} {k j:Nat} {tpos p pos kpos cpos:Pos}
end
section
variable {X:Cx} {tg iter elt:Expr} {ifs:List Expr} {it:SA} {bd:SG} {c:ST} {f:SE} {N:List Str} {k:Nat} {is:List Nat} {scope:Scope} {pos:Pos}
theorem zoe {i:Nat} {x:Str} {pos' spos:Pos} (hcalm:X.calm=true) (hN:X.N.Nodup) (hxi:X.N[i]?=some x) (hx:L2.Loc X.env.scope x) (hi:JI X tg iter it) (hg:∀cl C fp s H,JG (cxC X N scope cl C fp s H) tg bd) (hc:∀cl C fp s H,JIf (cxC X N scope cl C fp s H) ifs c) (he:∀cl C fp s H,JE (cxC X N scope cl C fp s H) elt f) (S:CompScope X N k is scope) (hsw:swapsWith (.ListComp elt [⟨tg,iter,ifs,0⟩] scope pos) (some (.Name x pos')) spos.line X.env=pure true:=by rfl) (hf:X.fn x=true\/X.env.scope.names.lookup x=some .local:=by first | exact .inl rfl | exact .inr rfl | assumption) (hs:∀x,foldedSetIterable iter X.env x=pure x:=by intro _;rfl):JS X (.Assign [.Name x pos'] (.ListComp elt [⟨tg,iter,ifs,0⟩] scope pos) spos) (sSet i (eCompM it k is bd c f)):=⟨zrz hcalm hN hxi hx hi.out (fun cl C fp s H=>(hg cl C fp s H).out) (fun cl C fp s H=>(hc cl C fp s H).out) (fun cl C fp s H=>(he cl C fp s H).out) S hsw hf hs⟩
end
section
theorem za {X:Cx} {e:Expr} {es:List Expr} {f:SE} {g:SA} (ha:JE X e f) (hr:JA X es g) (hp:plainE e=true:=by rfl):JA X (e::es) (aCons f g):=⟨zse ha.out hr.out hp⟩
end
section
variable {X:Cx} {a b:Expr} {g:SA} {elts:List Expr} {k:Nat} {tpos p pos:Pos}
end
section
end
end Dd
namespace L2
open PySem PySem.Spec PyProof.Rows
section
variable {prog:Program} {w:World} {A:Around} {R:Result->Shared->Prop} {I:Addr} {fp wr:List Addr} {n:Nat} {P:Nat->Value->Prop} {St:Nat->Heap->Prop}
def Kept (P:Nat->Value->Prop) (bt:Nat->Nat->Bool):Nat->Array Value->Prop
 | 0,xs=>xs=#[]
 | j+1,xs=>∃v,xs=#[v,v]/\P (argBest bt j) v
theorem znm (W:Walks prog w A.in1 I fp wr n P St) (bt:Nat->Nat->Bool) (hcmp:CmpOf prog w A.in1 .Gt P bt) (S:Addr) (hSf:S∉fp) (d:Value) :
  ∀(k j:Nat) (s:Shared) (xs:Array Value) (c:Nat),j+k=n->St j s.heap->Kept P bt j xs ->
  s.heap.get? S = some { cls := .type "list", dict := none, data := .seq xs c, slots := #[] } ->
  (∀v h' tk,(n=0/\v=d\/0 < n/\P (argBest bt (n - 1)) v)->(∀b o,b∉wr->b≠S->s.heap.get? b=some o->h'.get? b=some o)->R (.ok (.ret v)) {s with heap:=h',toks:=tk}) ->
  codeAny (model prog w) A (.builtin "max.loop" ⟨[.ref I, .none, .ref S], [(Str.ofString "default", d)]⟩) R s := by
 have nm : (toString "max" ++ toString ".loop" : String) = "max.loop" := by decide
 have out:S∉wr:=fun h=>hSf (W.sub _ h)
 intro k
 induction k with
 | zero =>
  intro j s xs c hj hst hk hS fin;have hj:j=n:=by lia
  subst hj;refine xhb F.entry_max_loop ?_;rw[xgf xgm _];refine xba (wpAny_seqItems hS rfl (xba (wpAny_tryCatch (W.done s _ _ hst fun h' tk keep=>?_))));cases j with
  | zero =>
   subst hk;exact xba (xgg (xbc (fin d _ _ (.inl ⟨rfl,rfl⟩) fun b o h1 _ e=>keep b o h1 e)))
  | succ j =>
   obtain ⟨v,rfl,hv⟩:=hk;refine xba (wpAny_updateSeq (keep S _ out hS) rfl (xba (wpAny_letGo (xbc ?_))));exact fin v _ _ (.inr ⟨Nat.succ_pos _,hv⟩) fun b o h1 h2 e=>(xfv _ _ (xfc h2)).trans (keep b o h1 e)
 | succ k ih =>
  intro j s xs c hj hst hk hS fin;refine xhb F.entry_max_loop ?_;rw[xgf xgm _];refine xba (wpAny_seqItems hS rfl (xba (wpAny_tryCatch (W.item j s _ _ (by lia) hst fun v h' tk hP hst' keep=>?_))));have hS':=keep S _ out hS;have go : ∀ (ys : Array Value) (c' : Nat) (h2 : Heap), Kept P bt (j + 1) ys -> h2.get? S = some { cls := .type "list", dict := none, data := .seq ys c', slots := #[] } -> (∀ b, b ≠ S -> h2.get? b = h'.get? b) ->
    codeAny (model prog w) A (.builtin "max.loop" ⟨[.ref I, .none, .ref S], [(Str.ofString "default", d)]⟩) R { s with heap := h2, toks := tk } := fun ys c' h2 hk2 e2 same =>
   ih (j+1) {s with heap:=h2,toks:=tk} ys c' (by lia) (W.frame _ _ _ hst' fun b hb o e=>(same b fun z=>hSf (by rw[← z];exact hb)).trans e) hk2 e2
    fun v' h3 tk3 q keep3=>fin v' h3 tk3 q fun b o b1 b2 e=>keep3 b o b1 b2 ((same b b2).trans (keep b o b1 e))
  cases j with
  | zero =>
   subst hk;refine xba (xbc (xba (wpAny_updateSeq hS' rfl ?_)));rw[nm];exact xbc ⟨xht xgm _,go #[v,v] _ _ ⟨v,rfl,hP⟩ (xdy _ hS' rfl) fun b hb=>xfv _ _ (xfc hb)⟩
  | succ j =>
   obtain ⟨vb,rfl,hv⟩:=hk;refine xba (xbc (xba (wpAny_tryCatch (xds (xba (hcmp (j+1) (argBest bt j) v vb _ _ _ hP hv (xba (xds (xim (xba (wpAny_letGo (xbc ?_))))))))))));cases hb:bt (j+1) (argBest bt j) with
   | true =>
    rw[if_pos rfl];refine xba (wpAny_updateSeq hS' rfl (xba (wpAny_letGo ?_)));rw[nm];exact xbc ⟨xht xgm _,go #[v,v] _ _ ⟨v,rfl,by rw[argBest,hb,if_pos rfl];exact hP⟩ (xdy _ hS' rfl) fun b hb=>xfv _ _ (xfc hb)⟩
   | false =>
    rw[if_neg (by decide)];refine xba (wpAny_letGo ?_);rw[nm];exact xbc ⟨xht xgm _,go #[vb,vb] _ _ ⟨vb,rfl,by rw[argBest,hb,if_neg (by decide)];exact hv⟩ hS' fun b _=>rfl⟩
end
theorem zsr (a d : Value) : checkBuiltinCall "max" ⟨[a], [(Str.ofString "default", d)]⟩ = pure () := by kernel_rfl
theorem zos (d : Value) : Builtin.Builtins.bindParams "max" ["key", "default"] 0 ⟨[], [(Str.ofString "default", d)]⟩ = pure [none, some d] := rfl
section
variable {prog:Program} {w:World} {A:Around} {E:Value->Shared->Prop} {s:Shared}
theorem znl {x d:Value} {Q:Value->Shared->Prop}
  (h:wpAny (model prog w) A.in1 (pyIter x) (fun it s₂=>∃I fp wr n P St bt,it=.ref I/\Walks prog w A.in1 I fp wr n P St/\St 0 s₂.heap/\(∀b∈fp,b < s₂.heap.objs.size)/\CmpOf prog w A.in1 .Gt P bt /\
   ∀v h' tk,(n=0/\v=d\/0 < n/\P (argBest bt (n - 1)) v)->(∀b o,b∉wr->s₂.heap.get? b=some o->h'.get? b=some o)->Q v {s₂ with heap:=h',toks:=tk}) E s) :
  wpAny (model prog w) A (call (.builtin "max") [x] [(Str.ofString "default", d)]) Q E s := by
 have nm : (toString "max" ++ toString ".loop" : String) = "max.loop" := by decide
 refine wpAny_call (codeAny_call_builtin F.plain_max F.entry_max ?_);rw[zsr];refine xbc ?_;refine xba (wpAny_of_eq (zos d) (xba (xbc (xba (xdq h (fun it s₂ h₂=>?_) fun _ _ e=>e)))));obtain ⟨I,fp,wr,n,P,St,bt,rfl,W,hst,low,hcmp,fin⟩:=h₂;refine xba (xdf ?_);rw[nm];refine xbc ⟨xht xgm _,znm W bt hcmp s₂.heap.objs.size (fun z=>xez _ (low _ z)) d n 0 _ #[] _ (by lia) (W.frame _ _ _ hst fun b _ o e=>xbh _ e) rfl (xbt _ rfl) fun v h' tk q keep=>?_⟩;exact fin v h' tk q fun b o hb e=>keep b o hb (xbv (xbl e)) (xbh _ e)
end
def topI (d:Int):List Int->Int
 | []=>d
 | n::ns=>bestI true n ns
def rMaxD (K:Fg) (d:Int):List V->Hp->VK->Prop:=fun xs H Q=>∃(a:Addr) (ns:List Int),xs=[.ref a]/\(SqL K H a (ns.map V.int)\/SqT K H a (ns.map V.int))/\Q (.int (topI d ns)) H
section
variable {X:Cx} {p pos cpos kpos:Pos} {l:Expr} {t:TA} {d:Int} {j:Nat}
theorem zup (hc : X.calm = true) (hg : Gl X "max") (hm : X.mg "max" = none) (ha : PA X [l] t)
  (he:backTo pos (starEach [l] X.env)=(false,eval l X.env)::backTo pos (starEach [] X.env):=by rfl) (hpl:(backTo pos (starEach [l] X.env)).any (·.1)=false:=by rfl) :
  PE X (.Call (.Name "max" p) [l] [⟨some "default", .Constant (.int d) j cpos, kpos⟩] pos) (tCB (rMaxD X.K d) t) := by
 intro pins s σ H Q I h;refine xia (zlh I hg hm PyProof.Rows.boot_max ?_);refine callWith_kw (thn (ha pos pins s σ H _ I h) fun us s1 hq0=>?_) he hpl;obtain ⟨vs,H1,I1,r1,q1⟩:=hq0;refine kws_cons (wpAny_Constant_int (kws_nil ?_));obtain ⟨a,ns,rfl,hs,q⟩:=q1;obtain ⟨u,rfl,ru⟩:=vals1 r1;cases ru;have I2:=I1.tok (s1.toks+1);refine znl (zhx hc I2 hs fun I' fp wr P St s2 W st low val keep=>?_);refine ⟨I',fp,wr,_,P,St,_,rfl,W,st,low,CmpOf.ints_gt (fun i=>ns.getD i 0) val,fun v h' tk hP hk=>?_⟩;cases ns with
 | nil =>
  rcases hP with ⟨_,rfl⟩ | ⟨z,_⟩
  ·exact ⟨.int d,H1,keep h' tk hk,⟨_,rfl⟩,q⟩
  ·exact absurd z (by simp)
 | cons n ns =>
  rcases hP with ⟨z,_⟩ | ⟨_,hP⟩
  ·exact absurd z (by simp)
  ·obtain ⟨t,rfl⟩:=val _ _ hP;rw[zgx (by simp)];exact ⟨.int (bestI true n ns),H1,keep h' tk hk,⟨_,rfl⟩,q⟩
end
section
open PySem.AutoSeq1
end
end L2
namespace Dd
open PySem L2
def bMaxD (d:Int):List D->Store->Res D:=fun xs st=>match xs with
 | [x]=>match (seqOf st x).bind asInts with
  | some ns=>.ok (.int (topI d ns)) st
  | none=>.stuck
 | _=>.stuck
theorem zxx {K:Fg} {d:Int}:CaD K (bMaxD d) (rMaxD K d):=fun ρ H st xs us z st' Q rp aa e q=>by
 unfold bMaxD at e;split at e
 ·split at e
  ·rename_i ns h;cases e;obtain ⟨ys,h0,h⟩:=xed.mp h;obtain ⟨u,rfl,a⟩:=aa.one;obtain ⟨p,vs,rfl,h1,h2⟩:=zdq rp a h0;have e:=zbg h2 h;subst e;exact ⟨p,ns,rfl,h1,q _ _ _ (.refl _ _) rp (.int _)⟩
  ·cases e
 ·cases e
section
variable {X:Cx} {p pos cpos kpos:Pos} {l:Expr} {f:SA} {d:Int} {j:Nat}
theorem zwz (hc : X.calm = true) (hg : Gl X "max") (hm : X.mg "max" = none) (ha : JA X [l] f)
 (he:backTo pos (starEach [l] X.env)=(false,eval l X.env)::backTo pos (starEach [] X.env):=by rfl) (hpl:(backTo pos (starEach [l] X.env)).any (·.1)=false:=by rfl) :
 JE X (.Call (.Name "max" p) [l] [⟨some "default", .Constant (.int d) j cpos, kpos⟩] pos) (eCall (bMaxD d) f) := ⟨zek (zup hc hg hm ha.out he hpl) (zxq zxx)⟩
end
section
variable {X:Cx} {o e:Expr} {es:List Expr} {f:SE} {ga:SA} {apos cpos:Pos}
end
end Dd
namespace L2
open PySem PySem.Spec PyProof.Rows
section
variable {X:Cx} {p pos cpos kpos upos:Pos} {l:Expr} {t:TA} {d:Int} {j:Nat}
end
end L2
namespace Dd
open PySem L2 PyProof.Rows
section
variable {X:Cx} {p pos cpos kpos upos:Pos} {l:Expr} {f:SA} {d:Int} {j:Nat}
end
end Dd
namespace L2
open PySem PySem.Spec PyProof.Rows
section
variable {X:Cx}
end
section
open PySem.AutoSeq1
variable (l:Addr) (items:Array Value) (n:Nat) (dd:Option Addr) (sl:Array (Option Value)) (x:Int) (u:Tok)
end
end L2
namespace Dd
open PySem L2 PyProof.Rows
end Dd
namespace L2
open PySem PySem.Spec PyProof.Rows PySem.W
theorem zje {ns:List Int} {us:List Value} (r:Vals (ns.map V.int) us) {i:Nat} (hi:i < ns.length):∃t,us.getD i Value.none=Value.int (ns.getD i 0) t:=by
 have e:(ns.map V.int)[i]?=some (V.int ns[i]):=by rw[xcl,xbg hi];rfl
 obtain ⟨u,h1,t,h2⟩:=r.get e;refine ⟨t,?_⟩;rw[xbk,h1,xbk,xbg hi];exact h2
theorem zto {ns:List Int} {us:List Value} (r:Vals (ns.map V.int) us):∀v∈us,∃i t,v=Value.int i t:=fun v hv=>by
 obtain ⟨i,hi,rfl⟩:=xfs hv;have hl:=r.length;rw[xbd] at hl;obtain ⟨t,e⟩:=zje r (i:=i) (by lia);rw[xbk,xbg hi] at e;exact ⟨_,t,e⟩
theorem zic (a b:Int):HT.lexLt [a] [b]=decide (a < b):=by
 by_cases h:a=b
 ·subst h;simp[HT.lexLt]
 ·simp[HT.lexLt,h]
abbrev ones (ns:List Int):List (List Int):=ns.map fun n=>[n]
theorem zcy {ns:List Int} {i:Nat} (hi:i < ns.length):(ones ns).getD i []=[ns.getD i 0]:=by
 rw[xbk,xcl,xbg hi,xbk,xbg hi]
 rfl
section
variable {P:Program} {w:World} {B:Around} {sg:Shared}
theorem zsz {ns:List Int} {us:List Value} (h2:2<=ns.length) (r:Vals (ns.map V.int) us):Srt.Answers P w B (Srt.rank (ones ns)) us sg:=by
 have hl:=r.length;rw[xbd] at hl;refine ⟨oneType',fun R hR=>?_,fun i j C hi hj hC=>?_⟩
 ·exact kas_kind (T := .type "int") (by lia) (fun v hv => by
   obtain ⟨i,t,rfl⟩:=zto r v hv
   exact Looks.now) (by decide) (by decide) hR
 ·obtain ⟨t,e1⟩:=zje r (i:=i) (by lia);obtain ⟨t2,e2⟩:=zje r (i:=j) (by lia);unfold kas_ask;rw[e1,e2];rw[Srt.zgf (by rw[xbd];lia) (by rw[xbd];lia),zcy (by lia),zcy (by lia),zic] at hC;rw[keyLt'_oneType];exact oneLt_int hC
end
theorem zsq {ns:List Int} {us:List Value} (r:Vals (ns.map V.int) us):Srt.Coh (Srt.rank (ones ns)) us:=fun i j hi hj e=>by
 have hl:=r.length;rw[xbd] at hl;obtain ⟨t,e1⟩:=zje r (i:=i) (by lia);obtain ⟨t2,e2⟩:=zje r (i:=j) (by lia);rw[e1,e2] at e;have:ns.getD i 0=ns.getD j 0:=by injection e
 unfold Srt.rank;rw[zcy (by lia),zcy (by lia),this]
theorem zfc {α:Type} {f:α->V} {g:α->Value}:∀{l:List α},(∀a∈l,RelV (f a) (g a))->Vals (l.map f) (l.map g)
 | [],_=>.nil
 | a::l,h=>.cons (h a xbz) (zfc fun b hb=>h b (xbu _ hb))
theorem zrb {ns:List Int} {us:List Value} (r:Vals (ns.map V.int) us) {p:Array Nat} (p1:p.Perm (List.toArray (List.range ns.length))) (p2:Srt.Up (Srt.rank (ones ns)) p ns.length) :
  ∃ms:List Int,ms.Perm ns/\ms.Pairwise (·<=·)/\Vals (ms.map V.int) (Srt.outOf us p).toList:=by
 have hl:=r.length;rw[xbd] at hl;have hps:p.size=ns.length:=by rw[p1.size_eq];simp
 have sm:∀i∈p.toList,i < ns.length:=fun i hi=>by
  have h3:=(p1.mem_iff (a:=i)).mp (by rw[← xjf];exact hi);exact xco.mp (List.mem_toArray.mp h3)
 refine ⟨p.toList.map fun i=>ns.getD i 0,?_,?_,?_⟩
 ·have e1:p.toList.Perm (List.range ns.length):=by
   have:=xeg.mp p1
   simpa using this
  have e2:=e1.map fun i=>ns.getD i 0
  have e3:((List.range ns.length).map fun i=>ns.getD i 0)=ns:=by
   apply xiw
   ·simp
   ·intro i h1 h2;simp[xbk,h2]
  rw[e3] at e2;exact e2
 ·rw[xek];intro i j hi hj hij;rw[xix,xix];rw[xbd] at hi hj;have hi':i < p.size:=by simpa using hi
  have hj':j < p.size:=by simpa using hj
  have hu:=p2 i j (xbp hij) (by lia);have g:∀k,(hk:k < p.toList.length)->p.getD k 0=p.toList[k]:=fun k hk=>by
   have hk':k < p.size:=by simpa using hk
   rw[xcj,xcn hk'];simp
  have si:=sm _ (xdm hi);have sj:=sm _ (xdm hj);have lk:=Srt.zgf (ks:=ones ns) (i:=p.toList[j]) (j:=p.toList[i]) (by rw[xbd];exact sj) (by rw[xbd];exact si);have hno:Srt.lt (Srt.rank (ones ns)) p.toList[j] p.toList[i]=false:=by
   refine xct fun z=>?_
   unfold Srt.At at hu;rw[g i hi,g j hj] at hu;lia
  rw[hno,zcy sj,zcy si,zic] at lk;have:=xka lk.symm;lia
 ·unfold Srt.outOf;rw[xdc];show Vals _ (p.toList.map fun i=>us.getD i Value.none);refine zfc fun i hi=>?_
  obtain ⟨t,e⟩:=zje r (sm i hi);exact ⟨t,e⟩
end L2
namespace Dd
open PySem L2 PyProof.Rows
def sortI (l:List Int):List Int:=l.mergeSort fun a b=>decide (a<=b)
theorem zke (l:List Int):(sortI l).Perm l:=List.mergeSort_perm _ _
theorem zqg (l:List Int):(sortI l).Pairwise (·<=·):=by
 have:=List.pairwise_mergeSort (le:=fun a b:Int=>decide (a<=b)) (fun a b c h1 h2=>by simp at *;lia) (fun a b=>by simp;lia) l;exact this.imp fun h=>by simpa using h
theorem zkf {a b:List Int} (p:a.Perm b) (h:a.Pairwise (·<=·)):a=sortI b :=
 (p.trans (zke b).symm).eq_of_pairwise (fun x y _ _ h1 h2=>by lia) h (zqg b)
end Dd
namespace L2
open PySem PySem.Spec PyProof.Rows
end L2
namespace Dd
open PySem L2 PyProof.Rows
section
variable {X:Cx} {o e:Expr} {es:List Expr} {f:SE} {ga:SA} {apos cpos:Pos}
end
end Dd
namespace Dd
variable {α:Type} {motive:List α->Prop}
@[elab_as_elim] theorem len0 (us:List α) (hl:us.length=0) (h:motive []):motive us:=by rw[List.eq_nil_of_length_eq_zero hl];exact h
@[elab_as_elim] theorem lenS {n:Nat} (us:List α) (hl:us.length=n+1) (h:∀a us,us.length=n->motive (a::us)):motive us:=by
 cases us with
 | nil=>cases hl
 | cons a us=>exact h a us (Nat.succ.inj hl)
@[elab_as_elim] theorem len1 (us:List α) (hl:us.length=1) (h:∀a,motive [a]):motive us:=lenS us hl fun a us hl=>len0 us hl (h a)
@[elab_as_elim] theorem len2 (us:List α) (hl:us.length=2) (h:∀a b,motive [a,b]):motive us:=lenS us hl fun a us hl=>len1 us hl (h a)
@[elab_as_elim] theorem len3 (us:List α) (hl:us.length=3) (h:∀a b c,motive [a,b,c]):motive us:=lenS us hl fun a us hl=>len2 us hl (h a)
end Dd
namespace Dd
open PySem L2
end Dd
namespace L2
open PySem PySem.Spec PyProof.Rows
end L2
namespace Dd
open PySem L2 PyProof.Rows
end Dd
namespace L2
open PySem PySem.Spec PyProof.Rows
section
variable {X:Cx} {tg:Expr}
end
end L2
namespace Dd
open PySem L2
section
variable {X:Cx} {tg a b c:Expr} {g:SA} {p pos:Pos}
end
end Dd
namespace Dd
open PySem L2 PyProof.Rows
section
variable {X:Cx} {o e:Expr} {es:List Expr} {f:SE} {ga:SA} {apos cpos:Pos}
end
end Dd
namespace L2
open PySem PySem.Spec PyProof.Rows
variable {X:Cx} {e es:Expr} {te ts:TE} {pos p2:Pos}
end L2
namespace Dd
open PySem L2
section
variable {X:Cx} {e es:Expr} {f g:SE} {pos p2:Pos}
end
end Dd
namespace L2
open PySem PySem.Spec PyProof.Rows
section
variable {prog:Program} {w:World} {A:Around} {E:Value->Shared->Prop} {s:Shared}
end
variable {X:Cx} {e es:Expr} {te ts:TE} {pos p2:Pos}
end L2
namespace Dd
open PySem L2
section
variable {X:Cx} {e es:Expr} {f g:SE} {pos p2:Pos}
end
end Dd
namespace L2
open PySem PySem.Spec PyProof.Rows
end L2
namespace Dd
open PySem L2
end Dd
namespace L2
open PySem PySem.Spec PyProof.Rows
section
variable {X:Cx} {x:Str} {C:Addr} {bmB bmN:List Value} {newId nid initId inN B Bn:String} {e:Expr} {es:List Expr} {ta:TA} {np cpos pos:Pos}
end
section
variable {M:Model} {A:Around} {E:Value->Shared->Prop} {s:Shared}
end
section
variable {P:Program} {w:World} {K:Fg} {mg:Str->Option Value} {base:Heap} {N:List Str} {qual:Str} {scope:Scope} {f:Addr} {cd:Value} {A:Around} {outer:List Env} {s₀:Shared} {H₀:Hp} {E:XK}
end
section
variable {X:Cx}
end
section
variable {X:Cx} {pins pins':List (Addr × Obj)} {σ:St} {H:Hp} {s:Shared} {E:Value->Shared->Prop} {e:Value}
end
section
variable {X:Cx} {body:List Stmt} {x n:Str} {B:Addr} {i:Nat} {b0:Stmt} {suite:List Stmt} {xp hp pos:Pos} {tb:(St->Value->Option Addr->Hp->Prop)->TS} {ts:TS}
end
section
variable {prog:Program} {w:World} {A:Around} {E:Value->Shared->Prop}
end
section
variable {X:Cx} {pos:Pos}
end
section
variable {P:Program} {w:World} {K:Fg} {mg:Str->Option Value} {base:Heap} {N:List Str} {name qual:Str} {params:Arguments} {body:Expr} {scope:Scope} {f:Addr} {cd pm ct:Value} {cl:List (Str × Addr)} {A:Around} {outer:List Env} {s:Shared} {H:Hp} {E:XK} {τ:St}
end
section
variable {X:Cx} {pins:List (Addr × Obj)} {τ:St} {H:Hp} {s:Shared} {c T:Addr} {ps:Array Value} {params:Arguments} {body:Expr} {scope:Scope} {cl:List (Str × Addr)} {pos:Pos} {Q:Value->Shared->Prop}
end
section
variable {X:Cx}
end
section
variable {X:Cx}
end
end L2
namespace L2
open PySem
namespace St
abbrev lt (a b:Nat):Prop:=a < b
theorem zln (xs:Array Nat) (j:Nat) (mono:∀a b,a<=b->b < xs.size->xs.getD a j<=xs.getD b j):∀(fuel lo hi:Nat),lo<=hi->hi<=xs.size->hi - lo<=fuel->(∀i,i < lo->xs.getD i j < j)->(∀i,hi<=i->i < xs.size->j<=xs.getD i j) ->
  SetTable.below.go xs j fuel lo hi<=xs.size/\(∀i,i < SetTable.below.go xs j fuel lo hi->xs.getD i j < j)/\(∀i,SetTable.below.go xs j fuel lo hi<=i->i < xs.size->j<=xs.getD i j)
 | 0,lo,hi,h1,h2,h3,a,b=>by
  have:lo=hi:=by lia
  subst this;unfold SetTable.below.go;exact ⟨h2,a,b⟩
 | fuel+1,lo,hi,h1,h2,h3,a,b=>by
  unfold SetTable.below.go;by_cases c:lo < hi
  ·rw[if_pos c];dsimp only;by_cases d:xs.getD ((lo+hi) / 2) j < j
   ·rw[if_pos d]
    exact zln xs j mono fuel _ hi (by lia) h2 (by lia) (fun i hi'=>by
     have:=mono i ((lo+hi) / 2) (by lia) (by lia)
     lia) b
   ·rw[if_neg d]
    exact zln xs j mono fuel lo _ (by lia) (by lia) (by lia) a (fun i hi' hs=>by
     have:=mono ((lo+hi) / 2) i hi' hs
     lia)
  ·rw[if_neg c];have:lo=hi:=by lia
   subst this;exact ⟨h2,a,b⟩
def Up (xs:Array Nat):Prop:=xs.toList.Pairwise lt
theorem zci (xs:Array Nat) (i d:Nat):xs.getD i d=xs.toList.getD i d:=by
 rw[xcj,xbk,xbs]
theorem Up.mono {xs:Array Nat} (h:Up xs) (d a b:Nat) (hab:a<=b) (hb:b < xs.size):xs.getD a d<=xs.getD b d:=by
 rcases xfk a b with c | c
 ·have hb':b < xs.toList.length:=by simpa using hb
  have ha':a < xs.toList.length:=by lia
  rw[zci,zci,xbk,xbk,xbg ha',xbg hb'];exact xbp (xek.mp h a b ha' hb' c)
 ·have:a=b:=by lia
  subst this;exact xbe _
theorem zcg {xs:Array Nat} (h:Up xs) (j:Nat):SetTable.below xs j<=xs.size/\(∀i,i < SetTable.below xs j->xs.getD i j < j)/\(∀i,SetTable.below xs j<=i->i < xs.size->j<=xs.getD i j) :=
 zln xs j (h.mono j) xs.size 0 xs.size (by lia) (by lia) (by lia) (fun i hi=>absurd hi (by lia)) (fun i h1 h2=>absurd h2 (by lia))
theorem zgy {xs:Array Nat} (h:Up xs) (j:Nat):∀y∈xs.toList.take (SetTable.below xs j),y < j:=fun y hy=>by
 obtain ⟨h1,h2,h3⟩:=zcg h j;obtain ⟨i,hi,rfl⟩:=List.mem_iff_getElem.mp hy;rw[xee] at hi;have hi':i < xs.toList.length:=by lia
 have:=h2 i (by lia);rw[zci,xbk,xbg hi'] at this;rw[xki];exact this
theorem zej {xs:Array Nat} (h:Up xs) (j:Nat):∀y∈xs.toList.drop (SetTable.below xs j),j<=y:=fun y hy=>by
 obtain ⟨h1,h2,h3⟩:=zcg h j;obtain ⟨i,hi,rfl⟩:=List.mem_iff_getElem.mp hy;rw[xgk] at hi;have hl:xs.toList.length=xs.size:=by simp
 have hi':SetTable.below xs j+i < xs.toList.length:=by lia
 have:=h3 (SetTable.below xs j+i) (by lia) (by lia);rw[zci,xbk,xbg hi'] at this;rw[xkh];exact this
theorem zot {xs:Array Nat} (h:Up xs) {j:Nat} (hj:j∈xs.toList):xs[SetTable.below xs j]?=some j:=by
 have ht:=zgy h j;have hd:=zej h j;rw[← xea (SetTable.below xs j) xs.toList] at hj;rcases xca.mp hj with hj | hj
 ·exact absurd (ht j hj) (xez _)
 ·have hp:(xs.toList.drop (SetTable.below xs j)).Pairwise lt:=xff (xkg _ _) h;have:(xs.toList.drop (SetTable.below xs j))[0]?=some j:=by
   cases e:xs.toList.drop (SetTable.below xs j) with
   | nil=>rw[e] at hj;cases hj
   | cons y l =>
    rw[e] at hj hd hp;rcases xbo.mp hj with rfl | hj
    ·rfl
    ·have h1:=hd y (by simp);have h2:y < j:=(xfh.mp hp).1 j hj;lia
  rw[xen] at this;rw[← xbs]
  simpa using this
theorem zch {α:Type} (xs:Array α) (p:Nat) (x:α):(SetTable.insertAt xs p x).toList=xs.toList.take p++x::xs.toList.drop p:=by
 unfold SetTable.insertAt;rw[xcy,xdx,xji,xji];simp[List.extract];exact xhc (by simp)
theorem Up.insert {xs:Array Nat} (h:Up xs) {j:Nat} (hj:j∉xs.toList):Up (SetTable.insertAt xs (SetTable.below xs j) j):=by
 unfold Up;rw[zch,xes];refine ⟨xff (xkd _ _) h,xfh.mpr ⟨fun y hy=>?_,xff (xkg _ _) h⟩,fun a ha b hb=>?_⟩
 ·have h1:=zej h j y hy;have h2:y≠j:=fun e=>hj (e ▸ xhl hy)
  show j < y;lia
 ·have h1:=zgy h j a ha;rcases xbo.mp hb with rfl | hb
  ·exact h1
  ·have:=zej h j b hb;show a < b;lia
end St
namespace St
structure Tb (t:SetTable):Prop where
 up:Up t.place
 nd:t.dummies=#[]
 inm:∀y∈t.place.toList,y<=t.mask
 pl:t.plain=true
theorem zlm (j:Nat):SetTable.has #[] j=false:=by
 unfold SetTable.has;simp
theorem Tb.slot {t:SetTable} (h:Tb t) (j:Nat):(t.slot j=.empty/\j∉t.place.toList)\/(∃i,t.slot j=.live i)/\j∈t.place.toList:=by
 unfold SetTable.slot;dsimp only;by_cases c:t.place[SetTable.below t.place j]?=some j
 ·right
  rw[if_pos (by rw[c];exact xeo _)];rw[← xbs] at c;exact ⟨⟨_,rfl⟩,xcz c⟩
 ·left
  rw[if_neg (by simpa using c),h.nd,zlm];exact ⟨rfl,fun hj=>c (zot h.up hj)⟩
def iAt (mask:Nat):Nat->Nat->Nat->Nat
 | 0,i,_=>i
 | k+1,i,per=>iAt mask k ((i * 5+1+per / 32) % (mask+1)) (per / 32)
def nextP (mask:Nat) (p:SetTable.Probe):SetTable.Probe:={j:=(p.i * 5+1+p.perturb / 32) % (mask+1),more:=SetTable.runEnd mask ((p.i * 5+1+p.perturb / 32) % (mask+1)) - (p.i * 5+1+p.perturb / 32) % (mask+1),i:=(p.i * 5+1+p.perturb / 32) % (mask+1),perturb:=p.perturb / 32,dummy:=p.dummy}
theorem zta {t:SetTable} {p:SetTable.Probe} {m:Nat} (h:p.more=m+1):t.advance p={p with j:=p.j+1,more:=m}:=by
 unfold SetTable.advance;rw[if_pos (by lia),h]
 rfl
theorem ztb {t:SetTable} {p:SetTable.Probe} (h:p.more=0):t.advance p=nextP t.mask p:=by
 unfold SetTable.advance;rw[if_neg (by lia)]
 rfl
theorem window {t:SetTable} (g:Tb t) (h:Int):∀(m fuel:Nat) (p:SetTable.Probe),p.more=m->p.dummy=none ->
  (∃j,SetTable.probe.go t (fun _=>h+1) h (fuel+m+1) p=some (.empty j none)/\j∉t.place.toList/\j<=p.j+m) \/
  (p.j∈t.place.toList/\∃p',p'.i=p.i/\p'.perturb=p.perturb/\p'.dummy=none/\SetTable.probe.go t (fun _=>h+1) h (fuel+m+1) p=SetTable.probe.go t (fun _=>h+1) h fuel (nextP t.mask p'))
 | 0,fuel,p,hm,hd=>by
  have e:SetTable.probe.go t (fun _=>h+1) h (fuel+0+1) p=match t.slot p.j with
   | .empty=>some (.empty p.j p.dummy)
   | .dummy=>SetTable.probe.go t (fun _=>h+1) h fuel (t.advance {p with dummy:=some p.j})
   | .live i=>if h+1 == h then some (.candidate p.j i (t.advance p)) else SetTable.probe.go t (fun _=>h+1) h fuel (t.advance p):=rfl
  rw[e];rcases g.slot p.j with ⟨s1,s2⟩ | ⟨⟨i,s1⟩,s2⟩
  ·rw[s1,hd];exact .inl ⟨p.j,rfl,s2,by lia⟩
  ·rw[s1];dsimp only;rw[if_neg (by simp;lia)];exact .inr ⟨s2,p,rfl,rfl,hd,by rw[ztb hm]⟩
 | m+1,fuel,p,hm,hd=>by
  have e:SetTable.probe.go t (fun _=>h+1) h (fuel+(m+1)+1) p=match t.slot p.j with
   | .empty=>some (.empty p.j p.dummy)
   | .dummy=>SetTable.probe.go t (fun _=>h+1) h (fuel+(m+1)) (t.advance {p with dummy:=some p.j})
   | .live i=>if h+1 == h then some (.candidate p.j i (t.advance p)) else SetTable.probe.go t (fun _=>h+1) h (fuel+(m+1)) (t.advance p):=rfl
  rw[e];rcases g.slot p.j with ⟨s1,s2⟩ | ⟨⟨i,s1⟩,s2⟩
  ·rw[s1,hd];exact .inl ⟨p.j,rfl,s2,by lia⟩
  ·rw[s1];dsimp only;rw[if_neg (by simp;lia),zta hm,← Nat.add_assoc];rcases window g h m fuel {p with j:=p.j+1,more:=m} rfl hd with ⟨j,a,b,c⟩ | ⟨a,p',b⟩
   ·exact .inl ⟨j,a,b,by dsimp only at c;lia⟩
   ·exact .inr ⟨s2,p',b⟩
theorem zie {mask i:Nat} (h:i<=mask):i<=SetTable.runEnd mask i/\SetTable.runEnd mask i<=mask/\SetTable.runEnd mask i<=i+9:=by
 unfold SetTable.runEnd;split<;>lia
theorem search {t:SetTable} (g:Tb t) (h:Int):∀(L fuel:Nat) (p:SetTable.Probe),10 * L<=fuel->p.j=p.i->p.i<=t.mask->p.more=SetTable.runEnd t.mask p.i - p.i->p.dummy=none->(∃k,k < L/\iAt t.mask k p.i p.perturb∉t.place.toList) ->
  ∃j,SetTable.probe.go t (fun _=>h+1) h fuel p=some (.empty j none)/\j∉t.place.toList/\j<=t.mask
 | 0,_,_,_,_,_,_,_,⟨k,hk,_⟩=>absurd hk (by lia)
 | L+1,fuel,p,hf,hj,hi,hm,hd,⟨k,hk,hk2⟩=>by
  obtain ⟨r1,r2,r3⟩:=zie hi;have ef:fuel=(fuel - p.more - 1)+p.more+1:=by lia
  have w:=window g h p.more (fuel - p.more - 1) p rfl hd;rw[← ef] at w;rcases w with ⟨j,a,b,c⟩ | ⟨a,p',b1,b2,b3,b4⟩
  ·exact ⟨j,a,b,by lia⟩
  ·rw[b4];cases k with
   | zero=>exact absurd a (by rw[hj];exact hk2)
   | succ k =>
    refine search g h L _ (nextP t.mask p') (by lia) rfl (by unfold nextP;exact xcg (xkn _ (by lia))) rfl b3 ⟨k,by lia,?_⟩;unfold nextP;dsimp only;rw[b1,b2];exact hk2
/- the leaps meet all places -/
def accI (mask:Nat):Nat->Nat->Nat->Nat->Nat
 | 0,acc,_,_=>acc
 | L+1,acc,i,per=>accI mask L (acc ||| 2 ^ i) ((i * 5+1+per / 32) % (mask+1)) (per / 32)
theorem zqc (mask j:Nat):∀(L acc i per:Nat),(accI mask L acc i per).testBit j=true->acc.testBit j=true\/∃k,k < L/\iAt mask k i per=j
 | 0,acc,i,per,h=>.inl h
 | L+1,acc,i,per,h=>by
  rcases zqc mask j L _ _ _ h with h | ⟨k,h1,h2⟩
  ·rw[Nat.testBit_or,Nat.testBit_two_pow,Bool.or_eq_true,decide_eq_true_iff] at h;rcases h with h | h
   ·exact .inl h
   ·exact .inr ⟨0,by lia,h⟩
  ·exact .inr ⟨k+1,by lia,h2⟩
def covB (mask h:Nat):Bool:=Nat.beq (accI mask (mask+3) 0 (h % (mask+1)) h) (2 ^ (mask+1) - 1)
theorem cov7:(List.range 64).all (covB 7)=true:=by decide +kernel
theorem cov31:(List.range 64).all (covB 31)=true:=by decide +kernel
theorem cov127:(List.range 64).all (covB 127)=true:=by decide +kernel
def MaskOk (m:Nat):Prop:=m=7\/m=31\/m=127
theorem cov {mask h j:Nat} (hm:MaskOk mask) (hh:h < 64) (hj:j<=mask):∃k,k < mask+3/\iAt mask k (h % (mask+1)) h=j:=by
 have c:covB mask h=true:=by
  rcases hm with rfl | rfl | rfl
  ·exact xef.mp cov7 h (xco.mpr hh)
  ·exact xef.mp cov31 h (xco.mpr hh)
  ·exact xef.mp cov127 h (xco.mpr hh)
 have e:=Nat.eq_of_beq_eq_true c;have t:(accI mask (mask+3) 0 (h % (mask+1)) h).testBit j=true:=by
  rw[e,Nat.testBit_two_pow_sub_one];exact xdb (by lia)
 rcases zqc mask j _ _ _ _ t with z | z
 ·simp at z
 ·exact z
theorem room {t:SetTable} (g:Tb t) (h:t.place.size<=t.mask):∃j,j<=t.mask/\j∉t.place.toList:=by
 by_cases c:∃j,j<=t.mask/\j∉t.place.toList
 ·exact c
 ·exfalso
  have hs:List.range (t.mask+1) ⊆ t.place.toList:=fun j hj=>by
   by_cases z:j∈t.place.toList
   ·exact z
   ·exact absurd ⟨j,by have:=xco.mp hj;lia,z⟩ c
  have:=xgy (xks) hs;simp at this;lia
theorem zoa {t:SetTable} (g:Tb t) (hm:MaskOk t.mask) {h:Nat} (hh:h < 64) (hr:t.place.size<=t.mask):∃j,t.freeSlot (h:Int)=some (j,false)/\j∉t.place.toList/\j<=t.mask:=by
 obtain ⟨j0,a1,a2⟩:=room g hr;obtain ⟨k,k1,k2⟩:=cov hm hh a1;have hb:SetTable.bits (h:Int)=h:=by
  unfold SetTable.bits;lia
 have s:=search g (h:Int) (t.mask+3) (10 * SetTable.turns t.mask) (t.probeStart (h:Int)) (by unfold SetTable.turns;lia) rfl (by unfold SetTable.probeStart;exact xcg (xkn _ (by lia))) rfl rfl ⟨k,k1,by
  show iAt t.mask k (SetTable.bits (h:Int) % (t.mask+1)) (SetTable.bits (h:Int))∉_;rw[hb,k2]
  exact a2⟩
 obtain ⟨j,b1,b2,b3⟩:=s;refine ⟨j,?_,b2,b3⟩;unfold SetTable.freeSlot SetTable.probe;rw[b1]
 rfl
end St
namespace St
theorem zbt {α:Type} (xs:Array α) (p:Nat) (x:α) (h:p<=xs.size):(SetTable.insertAt xs p x).size=xs.size+1:=by
 have:=congrArg List.length (zch xs p x);simp at this;lia
theorem zvq {t:SetTable} {es:Array (Int × Value)} {h:Nat} {x:Value} (g:Tb t) (hm:MaskOk t.mask) (hh:h < 64) (he:t.place.size=es.size) (hr:t.place.size < t.mask) :
  ∃es' t',layNew t es (h:Int) x=(es',t',false,false)/\Tb t'/\t'.mask=t.mask/\t'.led=t.led/\t'.place.size=es'.size/\es'.size=es.size+1/\es'.toList.Perm (((h:Int),x)::es.toList):=by
 obtain ⟨j,f1,f2,f3⟩:=zoa g hm hh (by lia);have hb:=(zcg g.up j).1;refine ⟨SetTable.insertAt es (SetTable.below t.place j) ((h:Int),x),{t with place:=SetTable.insertAt t.place (SetTable.below t.place j) j},?_,?_,rfl,rfl,?_,?_,?_⟩
 ·have e1:t.put j=({t with place:=SetTable.insertAt t.place (SetTable.below t.place j) j},SetTable.below t.place j):=by
   unfold SetTable.put;dsimp only;rw[g.nd,zlm]
   rfl
  have e2:({t with place:=SetTable.insertAt t.place (SetTable.below t.place j) j}:SetTable).fits (SetTable.insertAt es (SetTable.below t.place j) ((h:Int),x)).size=true:=by
   unfold SetTable.fits SetTable.fill;dsimp only;rw[zbt _ _ _ hb,zbt _ _ _ (by lia),g.nd,he];simp;lia
  unfold layNew;rw[f1];dsimp only;rw[e1];dsimp only;unfold SetTable.orStandIn;rw[e2]
  rfl
 ·refine ⟨g.up.insert f2,g.nd,fun y hy=>?_,g.pl⟩;dsimp only at hy ⊢;rw[zch] at hy;rcases xca.mp hy with hy | hy
  ·exact g.inm y (xho hy)
  ·rcases xbo.mp hy with rfl | hy
   ·exact f3
   ·exact g.inm y (xhl hy)
 ·dsimp only;rw[zbt _ _ _ hb,zbt _ _ _ (by lia),he]
 ·rw[zbt _ _ _ (by lia)]
 ·rw[zch];refine (xkr).trans ?_;rw[xea]
/- laid anew -/
def ownL (owner:Array (Option Nat)) (mask:Nat):List Nat:=(List.range (mask+1)).filterMap fun j=>owner.getD j none
structure Ow (mask n:Nat) (owner:Array (Option Nat)):Prop where
 size:owner.size=mask+1
 perm:(ownL owner mask).Perm (List.range n)
theorem zux {mask n:Nat} {owner:Array (Option Nat)} (h:Ow mask n owner) (hn:n<=mask):∃j,j<=mask/\owner.getD j (some 0)=none:=by
 by_cases c:∃j,j<=mask/\owner.getD j (some 0)=none
 ·exact c
 ·exfalso
  have all:∀j∈List.range (mask+1),(owner.getD j none).isSome=true:=fun j hj=>by
   have hj:=xco.mp hj;have hlt:j < owner.size:=by rw[h.size];exact hj
   cases e:owner.getD j none with
   | some x=>rfl
   | none =>
    refine absurd ⟨j,by lia,?_⟩ c;rw[xcj,xcn hlt] at e ⊢;exact e
  have hl:(ownL owner mask).length=mask+1:=by
   unfold ownL;have:∀l:List Nat,(∀j∈l,(owner.getD j none).isSome=true)->(l.filterMap fun j=>owner.getD j none).length=l.length:=fun l=>by
    induction l with
    | nil=>intro _;rfl
    | cons a l ih =>
     intro hl;obtain ⟨x,hx⟩:=Option.isSome_iff_exists.mp (hl a (by simp));rw[xda (f:=fun j=>owner.getD j none) hx,xcb,xcb,ih fun j hj=>hl j (xbu _ hj)]
   rw[this _ all,xfo]
  have:=h.perm.length_eq;rw[hl,xfo] at this;lia
theorem zpo {mask:Nat} {owner:Array (Option Nat)}:∀(fuel i per:Nat),i<=mask->(∃k,k < fuel/\owner.getD (iAt mask k i per) (some 0)=none)->∃j,SetTable.layClean.free mask owner fuel i per=some j/\j<=mask/\owner.getD j (some 0)=none
 | 0,_,_,_,⟨k,hk,_⟩=>absurd hk (by lia)
 | fuel+1,i,per,hi,⟨k,hk,hk2⟩=>by
  obtain ⟨r1,r2,r3⟩:=zie hi;unfold SetTable.layClean.free;cases e:(List.range (SetTable.runEnd mask i+1 - i)).find? fun k=>(owner.getD (i+k) (some 0)).isNone with
  | some z =>
   have h1:=List.find?_some e;have h2:=xco.mp (List.mem_of_find?_eq_some e);exact ⟨i+z,rfl,by lia,by simpa using h1⟩
  | none =>
   dsimp only;have h0:=List.find?_eq_none.mp e 0 (xco.mpr (by lia));cases k with
   | zero =>
    exfalso
    rw[xhx] at h0;have hk2:owner.getD i (some 0)=none:=hk2;rw[hk2] at h0;exact h0 rfl
   | succ k =>
    exact zpo fuel _ _ (xcg (xkn _ (by lia))) ⟨k,by lia,hk2⟩
theorem zfq {α β:Type} {f g:α->Option β}:∀{l:List α},(∀x∈l,f x=g x)->l.filterMap f=l.filterMap g
 | [],_=>rfl
 | a::l,h=>by
  have ih:=zfq (l:=l) fun x hx=>h x (xbu _ hx)
  have h1:=h a (by simp);cases e:g a with
  | none=>rw[xdo (h1.trans e),xdo e,ih]
  | some z=>rw[xda (h1.trans e),xda e,ih]
theorem zdd (owner:Array (Option Nat)) {j n:Nat} (hj:owner.getD j (some 0)=none) (hs:j < owner.size):∀l:List Nat,l.Nodup->j∈l ->
  (l.filterMap fun i=>(owner.setIfInBounds j (some n)).getD i none).Perm (n::l.filterMap fun i=>owner.getD i none)
 | [],_,h=>by cases h
 | a::l,nd,h=>by
  have gd:∀i,i≠j->(owner.setIfInBounds j (some n)).getD i none=owner.getD i none:=fun i hi=>by
   rw[xcj,xcj,xje (xfc hi)]
  have gj:(owner.setIfInBounds j (some n)).getD j none=some n:=by
   rw[xcj,xhr hs]
   rfl
  have g0:owner.getD j none=none:=by
   rw[xcj,xcn hs] at hj ⊢;exact hj
  have nd':=xfj.mp nd;by_cases c:a=j
  ·subst c;rw[xda (f:=fun i=>(owner.setIfInBounds a (some n)).getD i none) gj,xdo (f:=fun i=>owner.getD i none) g0];have:(l.filterMap fun i=>(owner.setIfInBounds a (some n)).getD i none)=l.filterMap fun i=>owner.getD i none:=zfq fun i hi=>gd i fun e=>nd'.1 (e ▸ hi)
   rw[this]
  ·have hl:j∈l:=by
    rcases xbo.mp h with h | h
    ·exact absurd h.symm c
    ·exact h
   have ih:=zdd owner (n:=n) hj hs l nd'.2 hl;cases e:owner.getD a none with
   | none=>rw[xdo (f:=fun i=>(owner.setIfInBounds j (some n)).getD i none) (by rw[gd a c];exact e),xdo (f:=fun i=>owner.getD i none) e];exact ih
   | some z =>
    rw[xda (f:=fun i=>(owner.setIfInBounds j (some n)).getD i none) (by rw[gd a c];exact e),xda (f:=fun i=>owner.getD i none) e];exact (List.Perm.cons z ih).trans (List.Perm.swap n z _)
theorem Ow.step {mask n:Nat} {owner:Array (Option Nat)} (h:Ow mask n owner) (hm:MaskOk mask) {hv:Nat} (hh:hv < 64) (hn:n<=mask) :
  ∃j,SetTable.layClean.free mask owner (SetTable.turns mask) (SetTable.bits (hv:Int) % (mask+1)) (SetTable.bits (hv:Int))=some j/\Ow mask (n+1) (owner.setIfInBounds j (some n)):=by
 have hb:SetTable.bits (hv:Int)=hv:=by
  unfold SetTable.bits;lia
 obtain ⟨j0,a1,a2⟩:=zux h hn;obtain ⟨k,k1,k2⟩:=cov hm hh a1;rw[hb];obtain ⟨j,f1,f2,f3⟩:=zpo (owner:=owner) (mask:=mask) (SetTable.turns mask) (hv % (mask+1)) hv (xcg (xkn _ (by lia))) ⟨k,by unfold SetTable.turns;lia,by rw[k2];exact a2⟩;refine ⟨j,f1,⟨by rw[Array.size_setIfInBounds];exact h.size,?_⟩⟩;have p:=zdd owner (n:=n) f3 (by rw[h.size];lia) (List.range (mask+1)) xks (xco.mpr (by lia));refine p.trans ((List.Perm.cons n h.perm).trans ?_);rw[List.range_succ];exact (List.perm_append_singleton n _).symm
def SmallH (h:Int):Prop:=∃n:Nat,n < 64/\h=n
theorem zli {mask:Nat} (hm:MaskOk mask):∀(l:List Int) (n:Nat) (owner:Array (Option Nat)),Ow mask n owner->(∀h∈l,SmallH h)->n+l.length<=mask ->
  ∃owner',l.foldl (fun acc h=>do
   let (owner,k) ← acc
   let j ← SetTable.layClean.free mask owner (SetTable.turns mask) (SetTable.bits h % (mask+1)) (SetTable.bits h)
   pure (owner.setIfInBounds j (some k),k+1)) (some (owner,n))=some (owner',n+l.length)/\Ow mask (n+l.length) owner'
 | [],n,owner,o,_,_=>⟨owner,rfl,o⟩
 | h::l,n,owner,o,hs,hl=>by
  rw[xcb] at hl ⊢;obtain ⟨hv,h1,rfl⟩:=hs h (by simp);obtain ⟨j,f1,f2⟩:=o.step hm h1 (by lia);obtain ⟨o',g1,g2⟩:=zli hm l (n+1) _ f2 (fun x hx=>hs x (xbu _ hx)) (by lia);refine ⟨o',?_,by rw[show n+(l.length+1)=n+1+l.length by lia];exact g2⟩;rw[xjj]
  have e:(do
   let (owner,k) ← some (owner,n)
   let j ← SetTable.layClean.free mask owner (SetTable.turns mask) (SetTable.bits (hv:Int) % (mask+1)) (SetTable.bits (hv:Int))
   pure (owner.setIfInBounds j (some k),k+1):Option (Array (Option Nat) × Nat))=some (owner.setIfInBounds j (some n),n+1):=by
   show (SetTable.layClean.free mask owner (SetTable.turns mask) (SetTable.bits (hv:Int) % (mask+1)) (SetTable.bits (hv:Int))).bind _=_;rw[f1]
   rfl
  rw[e,g1,show n+(l.length+1)=n+1+l.length by lia]
theorem ow0 (mask:Nat):Ow mask 0 (Array.replicate (mask+1) none):=by
 refine ⟨by simp,?_⟩;unfold ownL;have:(List.range (mask+1)).filterMap (fun j=>(Array.replicate (mask+1) (none:Option Nat)).getD j none)=(List.range (mask+1)).filterMap fun _=>(none:Option Nat):=zfq fun j _=>by
  rw[xcj,Array.getElem?_replicate];split<;>rfl
 rw[this];have:∀l:List Nat,l.filterMap (fun _=>(none:Option Nat))=[]:=fun l=>by induction l<;>simp_all
 rw[this];exact xkx _
theorem znp {mask:Nat} (hm:MaskOk mask) {hs:Array Int} (h:∀x∈hs.toList,SmallH x) (hn:hs.size<=mask):∃owner,SetTable.layClean mask hs=some owner/\Ow mask hs.size owner:=by
 obtain ⟨o,e,w⟩:=zli hm hs.toList 0 _ (ow0 mask) h (by simpa using hn);rw[xdn] at e w;refine ⟨o,?_,by simpa using w⟩;unfold SetTable.layClean;rw[← Array.foldl_toList,e]
 rfl
theorem zlf (owner:Array (Option Nat)):∀l:List Nat,(l.filterMap fun j=>(owner.getD j none).map fun k=>(j,k)).map (·.1)=l.filter fun j=>(owner.getD j none).isSome
 | []=>rfl
 | a::l=>by
  have ih:=zlf owner l;cases e:owner.getD a none with
  | none=>rw[xdo (f:=fun j=>(owner.getD j none).map fun k=>(j,k)) (by rw[e];rfl),List.filter_cons_of_neg (by rw[e];decide),ih]
  | some z=>rw[xda (f:=fun j=>(owner.getD j none).map fun k=>(j,k)) (by rw[e];rfl),List.filter_cons_of_pos (by rw[e];rfl),xbw,ih]
theorem zle (owner:Array (Option Nat)):∀l:List Nat,(l.filterMap fun j=>(owner.getD j none).map fun k=>(j,k)).map (·.2)=l.filterMap fun j=>owner.getD j none
 | []=>rfl
 | a::l=>by
  have ih:=zle owner l;cases e:owner.getD a none with
  | none=>rw[xdo (f:=fun j=>(owner.getD j none).map fun k=>(j,k)) (by rw[e];rfl),xdo (f:=fun j=>owner.getD j none) e,ih]
  | some z=>rw[xda (f:=fun j=>(owner.getD j none).map fun k=>(j,k)) (by rw[e];rfl),xda (f:=fun j=>owner.getD j none) e,xbw,ih]
theorem znc {α:Type} (es:List α):(List.range es.length).filterMap (fun i=>es[i]?)=es:=by
 induction es with
 | nil=>rfl
 | cons a l ih =>
  rw[xcb,List.range_succ_eq_map,xda (f:=fun i=>(a::l)[i]?) rfl,List.filterMap_map]
  congr 1
theorem relay {t:SetTable} {es:Array (Int × Value)} {wanted:Nat} (g:Tb t) (hh:∀e∈es.toList,SmallH e.1) (hm:MaskOk (SetTable.sizeAbove wanted - 1)) (hn:es.size<=SetTable.sizeAbove wanted - 1) :
  ∃es' t',relayAll t es wanted=(es',t',false)/\Tb t'/\t'.mask=SetTable.sizeAbove wanted - 1/\t'.led=t.led/\t'.place.size=es'.size/\es'.size=es.size/\es'.toList.Perm es.toList:=by
 obtain ⟨owner,e1,w⟩:=znp hm (hs:=es.map (·.1)) (fun x hx=>by
  rw[Array.toList_map] at hx;obtain ⟨e,he,rfl⟩:=xcp.mp hx
  exact hh e he) (by simpa using hn)
 rw[Array.size_map] at w;generalize hmk:SetTable.sizeAbove wanted - 1=mask at e1 w hm hn
 let live:=(List.range (mask+1)).filterMap fun j=>(owner.getD j none).map fun k=>(j,k)
 have l1:live.map (·.1)=(List.range (mask+1)).filter fun j=>(owner.getD j none).isSome:=zlf owner _
 have l2:live.map (·.2)=ownL owner mask:=zle owner _;have hp:=w.perm;rw[← l2] at hp;have hperm:((live.map (·.2)).filterMap fun i=>es[i]?).Perm es.toList:=by
  refine (hp.filterMap _).trans ?_;have:=znc es.toList;rw[xbq] at this;rw[show (List.range es.size).filterMap (fun i=>es[i]?)=es.toList from (zfq fun i _=>(xbs (xs:=es)).symm).trans this]
 have hlen:((live.map (·.2)).filterMap fun i=>es[i]?).length=es.size:=by rw[hperm.length_eq,xbq]
 have hll:live.length=es.size:=by
  have:=hp.length_eq;rw[xbd,xfo] at this;exact this
 have er:t.relaid (es.map (·.1)) wanted=some ({mask,place:=(live.map (·.1)).toArray,dummies:=#[],finger:=t.finger,led:=t.led,moves:=t.movedTo mask,plain:=t.plain},(live.map (·.2)).toArray):=by
  unfold SetTable.relaid SetTable.laid;rw[hmk,e1]
  rfl
 refine ⟨((live.map (·.2)).filterMap fun i=>es[i]?).toArray,{mask,place:=(live.map (·.1)).toArray,dummies:=#[],finger:=t.finger,led:=t.led,moves:=t.movedTo mask,plain:=t.plain},?_,⟨?_,rfl,fun y hy=>?_,g.pl⟩,rfl,rfl,?_,?_,?_⟩
 ·unfold relayAll;rw[er];dsimp only;have c1:coversAll (live.map (·.2)).toArray es.size=true:=by
   unfold coversAll;exact List.isPerm_iff.mpr hp
  have c2:(live.map (·.2)).toArray.filterMap (fun x=>es[x]?)=((live.map (·.2)).filterMap fun i=>es[i]?).toArray:=by simp
  rw[c2,c1];have c3:({mask,place:=(live.map (·.1)).toArray,dummies:=#[],finger:=t.finger,led:=t.led,moves:=t.movedTo mask,plain:=t.plain}:SetTable).fits ((live.map (·.2)).filterMap fun i=>es[i]?).toArray.size=true:=by
   unfold SetTable.fits SetTable.fill;dsimp only;rw[xbm,xbm,hlen,xbd,hll];simp;lia
  rw[c3]
  rfl
 ·show (live.map (·.1)).toArray.toList.Pairwise lt;rw[List.toList_toArray,l1];exact xff List.filter_sublist List.pairwise_lt_range
 ·dsimp only at hy ⊢;rw[l1] at hy;have:=xco.mp (xew.mp hy).1;lia
 ·dsimp only;rw[xbm,xbm,hlen,xbd,hll]
 ·rw[xbm,hlen]
 ·rw[List.toList_toArray];exact hperm
end St
namespace St
theorem zra {α:Type} {l:List α} {i:Nat} (h:i < l.length):(l[i]::l.eraseIdx i).Perm l:=by
 rw[List.eraseIdx_eq_take_drop_succ];refine xkr.symm.trans ?_;rw[← xfi h,xea]
theorem zpb {α:Type} (next:Nat->Nat):∀(fuel k:Nat) (left:List α) (out:Array α),left.length<=fuel->(pickOrder.go next fuel k left out).toList.Perm (out.toList++left)
 | 0,k,left,out,h=>by
  have:left=[]:=List.length_eq_zero_iff.mp (by lia);subst this;unfold pickOrder.go;rw[xej]
 | fuel+1,k,left,out,h=>by
  unfold pickOrder.go;cases e:left[next k % left.length]? with
  | none =>
   have:left=[]:=by
    cases left with
    | nil=>rfl
    | cons a l =>
     have:=List.getElem?_eq_none_iff.mp e;have:=xkn (next k) (show (a::l).length > 0 by simp);lia
   subst this;dsimp only;rw[xej]
  | some x =>
   dsimp only;obtain ⟨hi,rfl⟩:=xbn.mp e;have ih:=zpb next fuel (k+1) (left.eraseIdx (next k % left.length)) (out.push left[next k % left.length]) (by rw[List.length_eraseIdx_of_lt hi];lia);refine ih.trans ?_;rw[xdx,xcm];exact xfe _ (zra hi)
theorem zne {α:Type} (next:Nat->Nat) (xs:Array α):(pickOrder next xs).toList.Perm xs.toList:=by
 unfold pickOrder;exact zpb next xs.size 0 xs.toList #[] (by simp)
theorem zmb {xs:Array Nat} (h:Up xs) {i:Nat} (hi:i < xs.size):SetTable.below xs (xs.getD i 0+1)=i+1:=by
 obtain ⟨h1,h2,h3⟩:=zcg h (xs.getD i 0+1);have up:∀a b,a < b->b < xs.size->xs.getD a 0 < xs.getD b 0:=fun a b hab hb=>by
  have hb':b < xs.toList.length:=by simpa using hb
  have ha':a < xs.toList.length:=by lia
  rw[zci,zci,xbk,xbk,xbg ha',xbg hb'];exact xek.mp h a b ha' hb' hab
 have dflt:∀a d,a < xs.size->xs.getD a d=xs.getD a 0:=fun a d ha=>by
  rw[xcj,xcj,xcn ha]
  rfl
 generalize SetTable.below xs (xs.getD i 0+1)=b at h1 h2 h3;rcases Nat.lt_trichotomy b (i+1) with c | c | c
 ·have:=h3 i (by lia) hi;have e:=dflt i (xs.getD i 0+1) hi;lia
 ·exact c
 ·have:=h2 (i+1) c;have hlt:i+1 < xs.size:=by lia
  have e:=dflt (i+1) (xs.getD i 0+1) hlt;have:=up i (i+1) (by lia) hlt;lia
theorem zma {xs:Array Nat} (h:Up xs):SetTable.below xs 0=0:=by
 obtain ⟨h1,h2,h3⟩:=zcg h 0;rcases xhy (SetTable.below xs 0) with c | c
 ·exact c
 ·exact absurd (h2 0 c) (by lia)
end St
end L2
namespace L2
open PySem PySem.W PyProof.Rows PySem.Spec
namespace St
structure Es (l:List (Int × Value)) (ks:List Nat):Prop where
 all:∀e∈l,∃(n:Nat) (t:Tok),n < 64/\e=((n:Int),Value.int (n:Int) t)
 perm:(l.map (·.1)).Perm (ks.map fun (n:Nat)=>(n:Int))
 nd:ks.Nodup
theorem Es.small {l:List (Int × Value)} {ks:List Nat} (h:Es l ks):∀k∈ks,k < 64:=fun k hk=>by
 have h1:(k:Int)∈l.map (·.1):=h.perm.mem_iff.mpr (xcp.mpr ⟨k,hk,rfl⟩);obtain ⟨e,he,e1⟩:=xcp.mp h1;obtain ⟨n,t,hn,rfl⟩:=h.all e he;dsimp only at e1;lia
theorem Es.len {l:List (Int × Value)} {ks:List Nat} (h:Es l ks):l.length=ks.length:=by
 have:=h.perm.length_eq
 simpa using this
theorem Es.few {l:List (Int × Value)} {ks:List Nat} (h:Es l ks):l.length<=64:=by
 rw[h.len];have:=xgy h.nd (l₂:=List.range 64) fun k hk=>xco.mpr (h.small k hk)
 simpa using this
theorem Es.of_perm {l l':List (Int × Value)} {ks:List Nat} (h:Es l ks) (p:l'.Perm l):Es l' ks :=
 ⟨fun e he=>h.all e (p.mem_iff.mp he),(p.map _).trans h.perm,h.nd⟩
theorem Es.add {l:List (Int × Value)} {ks:List Nat} (h:Es l ks) {n:Nat} {t:Tok} (hn:n < 64) (no:n∉ks):Es (((n:Int),Value.int (n:Int) t)::l) (n::ks) :=
 ⟨fun e he=>by
  rcases xbo.mp he with rfl | he
  ·exact ⟨n,t,hn,rfl⟩
  ·exact h.all e he,h.perm.cons _,xfj.mpr ⟨no,h.nd⟩⟩
theorem zgo {n:Nat} (h:n < 64):hashInt (n:Int)=n:=by
 have e:rawHash (n:Int)=n:=by
  unfold rawHash;have h1:(((n:Int).natAbs:Int) % ((2 ^ 61 - 1:Nat):Int))=n:=by
   rw[Int.natAbs_natCast];exact Int.emod_eq_of_lt (by lia) (by lia)
  rw[h1];dsimp only;have h2:¬ ((n:Int) < 0):=by lia
  rw[if_neg h2];have h3:((n:Int) == -1)=false:=by
   rw[xei];lia
  rw[h3]
  rfl
 unfold hashInt;rw[e];have h3:((n:Int) == -1)=false:=by
  rw[xei];lia
 rw[h3]
 rfl
structure Tt (w:World) (es:Array (Int × Value)) (t:SetTable) (ks:List Nat):Prop where
 tb:Tb t
 mo:MaskOk t.mask
 ld : t.led = !w.params.followText "set-order"
 sz:t.place.size=es.size
 room:t.place.size * 5 < t.mask * 3
 el:Es es.toList ks
theorem Tt.fits {w:World} {es:Array (Int × Value)} {t:SetTable} {ks:List Nat} (h:Tt w es t ks):t.fits es.size=true:=by
 have:=h.room;have hz:=h.sz;unfold SetTable.fits SetTable.fill;rw[h.tb.nd];simp;lia
theorem Tt.few {w:World} {es:Array (Int × Value)} {t:SetTable} {ks:List Nat} (h:Tt w es t ks):es.size<=64:=by
 have:=h.el.few
 simpa using this
theorem Tt.elems {P:Program} {w:World} {es:Array (Int × Value)} {t:SetTable} {ks:List Nat} (h:Tt w es t ks):ElemsOf (intKind P w) es.toList:=fun e he=>by
 obtain ⟨m,t,hm,rfl⟩:=h.el.all e he;exact ⟨⟨(m:Int),intKind_is _ _ _ _,(zgo hm).symm⟩,rfl⟩
def Sn (w:World) (h:Heap) (a:Addr) (ks:List Nat):Prop:=∃ob es ep t,h.get? a=some ob/\ob.ExactSet/\ob.data=.set es ep t/\Tt w es t ks
theorem Sn.kept {w:World} {h h':Heap} {a:Addr} {ks:List Nat} (x:Sn w h a ks) (k:∀o,h.get? a=some o->h'.get? a=some o):Sn w h' a ks :=
 let ⟨ob,es,ep,t,e,r⟩:=x;⟨ob,es,ep,t,k _ e,r⟩
theorem zvz {t:SetTable} {m:Nat} (nd:t.dummies=#[]) (mk:MaskOk t.mask) (hm:t.place.size=m+1) (room:m * 5 < t.mask * 3) (few:m+1<=64) :
  (t.tooFull=false/\(m+1) * 5 < t.mask * 3)\/(t.tooFull=true/\MaskOk (SetTable.sizeAbove (SetTable.grown (m+1)) - 1)/\m+1<=SetTable.sizeAbove (SetTable.grown (m+1)) - 1/\(m+1) * 5 < (SetTable.sizeAbove (SetTable.grown (m+1)) - 1) * 3):=by
 have hf:t.fill=m+1:=by
  unfold SetTable.fill;rw[nd,hm]
  rfl
 rcases mk with e | e | e
 ·by_cases c:m=4
  ·subst c
   right
   refine ⟨by unfold SetTable.tooFull;rw[hf,e];decide,?_,by decide,by decide⟩;exact .inr (.inl (by decide))
  ·left
   refine ⟨?_,by lia⟩;unfold SetTable.tooFull;rw[hf,e];simp;lia
 ·by_cases c:m=18
  ·subst c
   right
   refine ⟨by unfold SetTable.tooFull;rw[hf,e];decide,?_,by decide,by decide⟩;exact .inr (.inr (by decide))
  ·left
   refine ⟨?_,by lia⟩;unfold SetTable.tooFull;rw[hf,e];simp;lia
 ·left
  refine ⟨?_,by lia⟩;unfold SetTable.tooFull;rw[hf,e];simp;lia
theorem zub {h:Heap} {a:Addr} {o:Obj} {es:Array (Int × Value)} {ep:Nat} {t:SetTable} (ho:h.get? a=some o) (hd:o.data=.set es ep t) (es':Array (Int × Value)) (t':SetTable) :
  (h.update a (Obj.putSet es' t')).get? a=some {o with data:=.set es' (ep+1) t'}:=by
 have e:=putSet_of es' t' hd;have g:=xdy (Obj.putSet es' t') ho (by rw[e];rfl)
 rwa [e] at g
section
variable {P:Program} {w:World} {B:Around} {E:Value->Shared->Prop} {s:Shared} {a:Addr}
theorem zbcm {ks:List Nat} {n:Nat} {tok:Tok} {Q:Bool->Shared->Prop} (hn:n < 64) (S:Sn w s.heap a ks)
  (fin:∀h' b,Heap.SameBut a s.heap h'->Sn w h' a (if n∈ks then ks else n::ks)->Q b {s with heap:=h'}) :
  wpAny (model P w) B (setAddHashed a (.int (n:Int) tok) (hashInt (n:Int))) Q E s:=by
 obtain ⟨ob,es,ep,t,ho,hex,hd,T⟩:=id S;have few:=T.few;have hb:es.size < scanBound:=by unfold scanBound;lia
 unfold setAddHashed setAddHashedIn;refine xds (xba (xin ho hd T.fits ?_));dsimp only;rw[byScan_of (knd:=intKind P w) (x:=.int (n:Int) tok) rfl hb T.elems,if_pos rfl];unfold setAddByScan;refine xba (xba (xgg (xba (wpAny_setScan_of (knd:=intKind P w) (k:=(n:Int)) (intKind_is _ _ _ _) ho hd T.fits T.elems ?_))));cases hr:List.findIdx? (fun e=>(intKind P w).is (n:Int) e.2) es.toList with
 | some j =>
  dsimp only;obtain ⟨hj,hp,_⟩:=List.findIdx?_eq_some_iff_getElem.mp hr;obtain ⟨m,t2,hm,e⟩:=T.el.all _ (xdm hj);rw[e] at hp;have emn:(n:Int)=(m:Int):=(intKind P w).inj _ _ _ hp (intKind_is P w (m:Int) t2);have h1:(n:Int)∈es.toList.map (·.1):=xcp.mpr ⟨_,xdm hj,by rw[e];exact emn.symm⟩;obtain ⟨k,hk,ek⟩:=xcp.mp (T.el.perm.mem_iff.mp h1);have hin:n∈ks:=by
   have:k=n:=by lia
   exact this ▸ hk
  have f:=fin s.heap false (Heap.SameBut.refl a s.heap);rw[if_pos hin] at f;exact xbc (xbc (f S))
 | none =>
  dsimp only;have no:n∉ks:=fun hk=>by
   have h1:(n:Int)∈es.toList.map (·.1):=T.el.perm.mem_iff.mpr (xcp.mpr ⟨n,hk,rfl⟩);obtain ⟨e,he,e1⟩:=xcp.mp h1;obtain ⟨m,t2,hm,rfl⟩:=T.el.all e he;have z:=List.findIdx?_eq_none_iff.mp hr _ he;dsimp only at e1 z;rw[e1,intKind_is] at z;cases z
  rw[zgo hn];obtain ⟨es1,t1,e1,tb1,mk1,ld1,sz1,ln1,pm1⟩:=zvq (x:=Value.int (n:Int) tok) T.tb T.mo hn T.sz (by have:=T.room;lia);have el1:Es es1.toList (n::ks):=(T.el.add (t:=tok) hn no).of_perm pm1;rw[e1];dsimp only;refine xba (xbc ?_);rw[tb1.pl,if_pos rfl,hashByValue_scannable 8 (x:=Value.int (n:Int) tok) rfl];refine xba (xbc ?_);rw[show plainKind (Value.int (n:Int) tok)=true from rfl,if_pos rfl];have few1:es1.size<=64:=by have:=el1.few;simpa using this
  refine xba (wpAny_storeSet_of ho hd ?_ (by rw[xgi];lia));have g1:=zub ho hd es1 t1;have sb1:=xey s.heap a (Obj.putSet es1 t1);have f:=fun h' b=>fin h' b
  rw[if_neg no] at f;rcases zvz (t:=t1) (m:=es.size) tb1.nd (by rw[mk1];exact T.mo) (by lia) (by have:=T.room;have:=T.sz;rw[mk1];lia) (by lia) with ⟨c1,c2⟩ | ⟨c1,c2,c3,c4⟩
  ·rw[c1];refine xbc (xbc (f _ _ sb1 ⟨_,es1,ep+1,t1,g1,hex,rfl,tb1,by rw[mk1];exact T.mo,ld1.trans T.ld,sz1,?_,el1⟩));lia
  ·rw[c1]
   obtain ⟨es2,t2,e2,tb2,mk2,ld2,sz2,ln2,pm2⟩:=relay (wanted:=SetTable.grown es1.size) tb1 (fun e he=>by
    obtain ⟨m,tt,hm,rfl⟩:=el1.all e he
    exact ⟨m,hm,rfl⟩) (by rw[ln1];exact c2) (by rw[ln1];exact c3)
   rw[e2];refine xba (xbc ?_);refine xba (wpAny_storeSet_of g1 rfl ?_ (by show es2.size<=_;rw[xgi];lia));refine xbc (xbc (f _ _ (sb1.trans (xey _ a _)) ⟨_,es2,ep+1+1,t2,zub g1 rfl es2 t2,hex,rfl,tb2,by rw[mk2,ln1];exact c2,ld2.trans (ld1.trans T.ld),sz2,?_,el1.of_perm pm2⟩));rw[mk2,ln1];lia
end
end St
namespace St
def met:List Nat->List Nat->List Nat
 | [],ks=>ks
 | n::l,ks=>met l (if n∈ks then ks else n::ks)
theorem zgj : entryFor table "set.update.loop" = some Builtin.«set.update.loop» := entryFor_of_tree (by kernel_rfl)
theorem zdx : plainId "set.update.loop" = true := by decide +kernel
section
variable {P:Program} {w:World} {B:Around} {R:Result->Shared->Prop} {it:Addr} {fp wr:List Addr} {G:Array GenState->Array GenState->Prop} {N:Nat} {It:Nat->Value->Prop} {St:Nat->Shared->Prop}
theorem zpi (W:WalksS P w B.in1 it fp wr G N It St) (a:Addr) (na:a∉fp) (ns:List Nat) (hN:ns.length=N) (small:∀n∈ns,n < 64)
  (val:∀i v,It i v->∃t,v=Value.int ((ns.getD i 0:Nat):Int) t):∀(r:List Nat) (i:Nat) (ks:List Nat) (s:Shared),ns.drop i=r->i<=N->St i s->Sn w s.heap a ks ->
   (∀ s', Moved (a :: wr) G s s' -> Sn w s'.heap a (met r ks) -> R (.ok (.ret .none)) s') -> codeAny (model P w) B (.builtin "set.update.loop" ⟨[.ref a, .ref it], []⟩) R s
 | [],i,ks,s,hr,hi,st,S,fin=>by
  have e:i=N:=by
   have:=congrArg List.length hr;simp at this;lia
  subst e;refine xhb zgj ?_;rw[xgf zdx _];refine xba (m:=pyNext (.ref it)) (W.done s _ _ st fun s' mv=>?_);have aw:a∉wr:=fun z=>na (W.sub _ z)
  exact xbc (fin s' (mv.mono fun b hb=>xbu _ hb) (S.kept fun o e=>mv.heap a o aw e))
 | n::r,i,ks,s,hr,hi,st,S,fin=>by
  have hlt:i < N:=by
   have:=congrArg List.length hr;simp at this;lia
  have hg:ns.getD i 0=n/\n∈ns/\ns.drop (i+1)=r:=by
   have h1:ns[i]?=some n:=by
    have:=congrArg (fun l:List Nat=>l[0]?) hr
    simpa using this
   refine ⟨by rw[xbk,h1];rfl,xcz h1,?_⟩;rw[← xjp,hr]
   rfl
  have aw:a∉wr:=fun z=>na (W.sub _ z)
  refine xhb zgj ?_;rw[xgf zdx _];refine xba (m:=pyNext (.ref it)) (W.item i s _ _ hlt st fun v s' pv st' mv=>?_);obtain ⟨t,rfl⟩:=val i v pv;rw[hg.1];refine xba (m:=holding [Value.int (n:Int) t] (setAdd a (.int (n:Int) t))) (xds ?_);unfold setAdd;refine xds (xba (wpAny_pyHash_int ?_));refine zbcm (s:={s' with toks:=s'.toks+1}) (small n hg.2.1) (S.kept fun o e=>mv.heap a o aw e) fun h' b sb S'=>?_
  refine xbc ⟨xht zdx _,zpi W a na ns hN small val r (i+1) _ _ hg.2.2 hlt (W.frame _ s' _ _ st' (xgh _) fun b hb o e=>?_) S' fun s2 mv2 S2=>?_⟩
  ·rw[sb.2 b (fun z:b=a=>na (z ▸ hb))];exact e
  ·refine fin s2 (Moved.trans W.gtrans ((mv.mono fun b hb=>xbu _ hb).then_heap (xgh _) fun b o hb e=>?_) mv2) S2;rw[sb.2 b (fun z:b=a=>hb (z ▸ xbz))];exact e
end
section
variable {P:Program} {w:World} {B:Around} {E:Value->Shared->Prop} {s:Shared}
def newO (w : World) : Obj := { cls := .type "set", dict := none, data := .set #[] 0 (.fresh 0 0 (!w.params.followText "set-order")) }
theorem zzz (x:Value) {W:Value->Shared->Prop} (fin:W (.ref s.heap.objs.size) {s with heap:=s.heap.push (newO w)}) :
  codeAny (model P w) B (.call (.builtin "set.__new__") ⟨[.type "set", x], []⟩) (wants W E) s := by
 refine codeAny_call_builtin_code (xht F.plain_set_new _) (wpAny_of_eq (F.newCall_set_1 x) (xhb F.entry_set_new ?_));rw[xgf F.plain_set_new _];have sub:=sub_set_self;unfold Builtin.«set.__new__» Builtin.Frozenset.newClass;obtain ⟨hp,g,d,tk,os⟩:=s
 wp_walk
 refine xhq (xbc ?_);simp only[newObj];exact xba (wpAny_alloc (xbc (xbc fin)))
theorem zzy {w:World} {h:Heap} {a:Addr} (e:h.get? a=some (newO w)):Sn w h a [] :=
 ⟨_,#[],0,_,e,⟨rfl,rfl,rfl⟩,rfl,⟨List.Pairwise.nil,rfl,fun y hy=>(by cases hy),rfl⟩,.inl rfl,rfl,rfl,(by show 0 * 5 < 7 * 3;decide),⟨fun e he=>(by cases he),xkx _,xft⟩⟩
theorem zxo {l:Addr} {its:List Value} {ns:List Nat} {W:Value->Shared->Prop} (hh:B.handled=none) (isl:s.heap.IsList l its.toArray) (iv:IntsAre its (ns.map fun (n:Nat)=>(n:Int))) (small:∀n∈ns,n < 64)
  (fin:∀(h':Heap) (tk:Nat),Sn w h' s.heap.objs.size (met ns [])->(∀b o,s.heap.get? b=some o->h'.get? b=some o)->W (.ref s.heap.objs.size) {s with heap:=h',toks:=tk}) :
  wpAny (model P w) B (call (.type "set") [.ref l]) W E s := by
 have len:its.length=ns.length:=by simpa using iv.length
 obtain ⟨c,tl,hmro⟩:=xgn.mro;have hmade:=xgn.made;have hsub:=xgn.sub;have h1:=xgn.notType;have h2:=xgn.canCreate;have hct:=F.typeCall_set_1 (.ref l);refine wpAny_call (codeAny_of_tree (show wpAny _ _ (callAny (.type "set") _) _ _ _ from xbc ⟨Code.quiet_builtin _ (by decide +kernel), xhb F.entry_type_call ?_⟩))
 rw [Around.under_plain (weight_type_call_type "set" [.ref l] []) rfl]
 repeat (any_goals (first | assumption | wp_step))
 refine xjm (zzz (w:=w) (.ref l) (E:=E) (W:=fun v s1=>v=.ref s.heap.objs.size/\s1={s with heap:=s.heap.push (newO w)}) ⟨rfl,rfl⟩) fun r s1 hr=>?_
 match r,hr with
 | .error e,hr=>exact hr
 | .ok (.ret v),hr =>
  obtain ⟨rfl,rfl⟩:=hr;have en:(s.heap.push (newO w)).get? s.heap.objs.size=some (newO w):=xbt _ rfl;have ty : Shared.TypeIs { s with heap := s.heap.push (newO w) } (.ref s.heap.objs.size) "set" := ⟨_, en, rfl⟩
  have hli:=xgn.init.lookup;have hbi:=xgn.init.bind (.ref s.heap.objs.size)
  repeat (any_goals (first | assumption | wp_step))
  refine xjm (codeAny_call_builtin (R:=wants (fun v s2=>v=.none/\∃h' tk,s2={s with heap:=h',toks:=tk}/\Sn w h' s.heap.objs.size (met ns [])/\∀b o,s.heap.get? b=some o->h'.get? b=some o) E) xgn.init.plain F.entry_set_init (check_set_init_1 ty ?body)) fun r2 s2 hr2=>?_
  case body =>
   obtain ⟨ol,hol,hcl,nl,hdl⟩:=id isl;obtain ⟨oc,od,odt,osl⟩:=ol;simp only at hcl hdl;subst hcl hdl;have hol' : (s.heap.push (newO w)).get? l = some { cls := .type "list", dict := od, data := .seq its.toArray nl, slots := osl } := xbh _ hol
   have isl':(s.heap.push (newO w)).IsList l its.toArray:=⟨_,hol',rfl,nl,rfl⟩
   have ns1:=F.sub_list_set;have ns2:=F.sub_list_frozenset;have ne : (Value.type "list" == Value.type "dict") = false := by decide
   unfold Builtin.«set.__init__» noKeywords Builtin.Frozenset.updateFrom;generalize hPI:pyIter=PI
   wp_walk
   subst hPI;have ls:l < s.heap.objs.size:=xbl hol;have z1:(s.heap.push (newO w)).objs.size=s.heap.objs.size+1:=xjq ..
   refine xil isl' (xba (wpAny_runValue ?_))
   refine zpi ((Walks.list (by simp[hh]) _ l (xbv (by rw[z1];exact xev ls)) its.toArray).toS) s.heap.objs.size (fun z=>by
    rw[z1] at z;rcases xbo.mp z with z | z
    ·exact xbv (xhp _) z
    ·exact xgj ls (xcf.mp z)) ns (by simp[len]) small (fun i v hv=>?_) ns 0 [] _ rfl (xec _) ⟨⟨_,xbt _ rfl,rfl,rfl⟩,isl'.push _⟩ (zzy (xbh _ en)) fun s2 mv S2=>?_
   ·obtain ⟨t,e⟩:=IntsAre.int_at iv i v (by simpa using hv);refine ⟨t,e.trans ?_⟩
    congr 1
    rw[xbk,xcl,xbk];cases ns[i]?<;>rfl
   ·rw[Moved.eq_with mv];refine xbc (xbc ⟨rfl,s2.heap,s2.toks,rfl,S2,fun b o e=>?_⟩);have lt:=xbl e
    exact mv.heap b o (fun z=>by
     rw[z1] at z;rcases xbo.mp z with z | z
     ·exact xbv lt z
     ·exact xbv (xev lt) (xcf.mp z)) (xbh _ (xbh _ e))
  match r2,hr2 with
  | .error e,hr2=>exact hr2
  | .ok (.ret v),hr2 =>
   obtain ⟨rfl,h',tk,rfl,S',keep⟩:=hr2
   repeat (any_goals (first | assumption | wp_step))
   exact fin _ _ S' keep
end
end St
namespace St
theorem zuw : Manifest.owners.lookup (String.ofList ("rotareti_tes".toList).reverse) = some Manifest.sig_set_iterator := by kernel_rfl
theorem zet : Slot "set_iterator" "__next__" "set_iterator.__next__" := by
 refine Slot.of (owner := "set_iterator") (n := "__next__") ?_ (by decide +kernel) (by decide +kernel) (by decide +kernel) ?_ ?_
 ·rw[typeLookup_type,builtinLookup_eq_fast]
  kernel_rfl
 ·first
   | exact .inl (by decide +kernel)
   | exact .inr (by decide +kernel)
 ·rw[isSubtype_type]
  kernel_rfl
theorem zkx : entryFor table "set_iterator.__next__" = some Builtin.«set_iterator.__next__» := entryFor_of_tree (by kernel_rfl)
theorem zpf (a : Value) : argsOk "set_iterator.__next__" ⟨[a], []⟩ := by
 unfold argsOk;rw [signature?_of (id := "set_iterator.__next__") (n := "__txen__".toList) (o := "rotareti_tes".toList) (by kernel_rfl) zuw]
 kernel_rfl
theorem zoy : Slot "set_iterator" "__iter__" "set_iterator.__iter__" := by
 refine Slot.of (owner := "set_iterator") (n := "__iter__") ?_ (by decide +kernel) (by decide +kernel) (by decide +kernel) ?_ ?_
 ·rw[typeLookup_type,builtinLookup_eq_fast]
  kernel_rfl
 ·first
   | exact .inl (by decide +kernel)
   | exact .inr (by decide +kernel)
 ·rw[isSubtype_type]
  kernel_rfl
theorem zqh : entryFor table "set_iterator.__iter__" = some Builtin.«dict_keyiterator.__iter__» :=
 entryFor_alias (id' := "dict_keyiterator.__iter__") (by kernel_rfl) rfl (by decide +kernel) (by kernel_rfl)
theorem ztw (a : Value) : argsOk "set_iterator.__iter__" ⟨[a], []⟩ := by
 unfold argsOk;rw [signature?_of (id := "set_iterator.__iter__") (n := "__reti__".toList) (o := "rotareti_tes".toList) (by kernel_rfl) zuw]
 kernel_rfl
theorem zrp : entryFor table "set.__iter__" = some Builtin.«frozenset.__iter__» :=
 entryFor_alias (id' := "frozenset.__iter__") (by kernel_rfl) rfl (by decide +kernel) (by kernel_rfl)
def At (h:Heap) (a:Addr) (es:Array (Int × Value)) (ep:Nat) (t:SetTable):Prop:=∃ob,h.get? a=some ob/\ob.ExactSet/\ob.data=.set es ep t
theorem At.kept {h h':Heap} {a:Addr} {es:Array (Int × Value)} {ep:Nat} {t:SetTable} (x:At h a es ep t) (k:∀o,h.get? a=some o->h'.get? a=some o):At h' a es ep t :=
 let ⟨ob,e,r⟩:=x;⟨ob,k _ e,r⟩
theorem At.is {s : Shared} {a : Addr} {es : Array (Int × Value)} {ep : Nat} {t : SetTable} (x : At s.heap a es ep t) : s.TypeIs (.ref a) "set" := let ⟨ob, e, c, _⟩ := x; ⟨ob, e, c.1⟩
theorem At.lt {h:Heap} {a:Addr} {es:Array (Int × Value)} {ep:Nat} {t:SetTable} (x:At h a es ep t):a < h.objs.size:=let ⟨_,e,_⟩:=x;xbl e
def ord (w : World) (a : Addr) (es : Array (Int × Value)) (ep : Nat) : Array (Int × Value) := if w.params.followText "set-order" = true then pickOrder (w.params.setOrder a ep) es else es
theorem zkr (w:World) (a:Addr) (es:Array (Int × Value)) (ep:Nat):(ord w a es ep).toList.Perm es.toList:=by
 unfold ord;split
 ·exact zne _ _
 ·exact xkx _
theorem zfj (w:World) (a:Addr) (es:Array (Int × Value)) (ep:Nat):(ord w a es ep).size=es.size:=by
 have:=(zkr w a es ep).length_eq
 simpa using this
def slotAt (w:World) (t:SetTable):Nat->Nat
 | 0=>0
 | i + 1 => if w.params.followText "set-order" = true then 0 else t.place.getD i 0 + 1
theorem zib {w : World} (h : w.params.followText "set-order" = true) (t : SetTable) : ∀ i, slotAt w t i = 0
 | 0=>rfl
 | i+1=>if_pos h
theorem zkh {w : World} (h : ¬ w.params.followText "set-order" = true) (t : SetTable) (i : Nat) : slotAt w t (i + 1) = t.place.getD i 0 + 1 := if_neg h
theorem zki {w : World} (h : ¬ w.params.followText "set-order" = true) {t : SetTable} (up : Up t.place) : ∀ i, i <= t.place.size -> SetTable.below t.place (slotAt w t i) = i
 | 0,_=>zma up
 | i+1,hi=>by rw[zkh h];exact zmb up (by lia)
section
variable {P:Program} {w:World} {B:Around} {E:Value->Shared->Prop} {s:Shared} {a it:Addr} {es:Array (Int × Value)} {ep:Nat} {t:SetTable} {ks:List Nat}
theorem zpg {i:Nat} {Q:Option (Value × Nat)->Shared->Prop} (x:At s.heap a es ep t) (T:Tt w es t ks) (hi:i<=es.size) (fin:Q (((ord w a es ep)[i]?).map fun e=>(e.2,slotAt w t (i+1))) s) :
  wpAny (model P w) B (setNext a (slotAt w t i) i ep) Q E s:=by
 obtain ⟨ob,ho,hex,hd⟩:=x;unfold setNext setsByText;refine xba (xin ho hd T.fits ?_);dsimp only;refine xba (xba (xhq (xbc ?_)));show wpAny _ _ (if w.params.followText "set-order" = true then _ else _) _ _ _
 by_cases hb : w.params.followText "set-order" = true
 ·rw[zib hb] at fin;rw[if_pos hb,if_neg (by simp),zib hb];unfold setWalk setsByText;refine xba (xba (xin ho hd T.fits ?_));dsimp only;refine xba (xba (xhq (xbc ?_)));show wpAny _ _ (if w.params.followText "set-order" = true then _ else _) _ _ _
  rw[if_pos hb];refine xba (xhq (xbc (xbc ?_)));unfold ord at fin;rw[if_pos hb] at fin;exact fin
 ·rw[if_neg hb];have hl:t.led=true:=by rw[T.ld];simpa using hb
  have sz:=T.sz;refine xhv (fun z=>?_) (fun _=>?_)
  ·change (!t.plain && _)=true at z
   rw[T.tb.pl] at z;cases z
  refine xba (xhv (fun z=>?_) (fun _=>xbc ?_))
  ·change (!t.led && _)=true at z
   rw[hl] at z;cases z
  rw[zki hb T.tb.up i (by lia)];unfold ord at fin;rw[if_neg hb,zkh hb] at fin;by_cases c:i < es.size
  ·rw[xcn c] at fin ⊢;have c2:i < t.place.size:=by lia
   rw[xcn c2];have e2:t.place.getD i 0=t.place[i]:=by
    rw[xcj,xcn c2]
    rfl
   rw[e2] at fin;exact xbc fin
  ·rw[xiq (by lia)] at fin ⊢;exact xbc fin
def ItAt (w : World) (h : Heap) (it a : Addr) (i n ep : Nat) (t : SetTable) : Prop := ∃ o, h.get? it = some o /\ o.cls = .type "set_iterator" /\ o.data = .fields #[.int (slotAt w t i : Nat) 0, .int i 0, .ref a, .int n 0, .int ep 0]
theorem ItAt.kept {h h':Heap} {i n:Nat} (x:ItAt w h it a i n ep t) (k:∀o,h.get? it=some o->h'.get? it=some o):ItAt w h' it a i n ep t :=
 let ⟨o,e,r⟩:=x;⟨o,k _ e,r⟩
theorem ItAt.is {i n : Nat} (x : ItAt w s.heap it a i n ep t) : s.TypeIs (.ref it) "set_iterator" := let ⟨o, e, c, _⟩ := x; ⟨o, e, c⟩
def itO (a : Addr) (n ep : Nat) : Obj := { cls := .type "set_iterator", data := .fields #[.int 0 0, .int 0 0, .ref a, .int n 0, .int ep 0] }
theorem zvv {W:Value->Shared->Prop} (x:At s.heap a es ep t) (T:Tt w es t ks) (fin:W (.ref s.heap.objs.size) {s with heap:=s.heap.push (itO a es.size ep)}):wpAny (model P w) B (pyIter (.ref a)) W E s:=by
 obtain ⟨ob,ho,hex,hd⟩:=id x;refine xkk x.is F.slot_set_iter (xdw F.slot_set_iter x.is zrp ?body (F.args_set_iter_1 _))
 case body =>
  unfold Builtin.«frozenset.__iter__» Builtin.Frozenset.sizeOf;refine xba (m := Builtin.Frozenset.slot0 "__iter__" _) (xbc (xba (xba (xjo ho hd T.fits (xbc ?_)))))
  unfold setDrawn setsByText;refine xba (xba (xin ho hd T.fits ?_));dsimp only;refine xba (xba (xhq (xbc (xbc ?_))));refine xhv (fun z=>?_) (fun _=>xba (xbc ?_))
  ·change (_ && (!t.plain && _))=true at z
   rw[T.tb.pl] at z;simp at z
  refine xba (wpAny_setEpoch_of ho hd T.fits ?_);unfold newFields;exact xba (xdf (xbc ⟨_, rfl, "set_iterator", _, ⟨_, xbt _ rfl, rfl⟩, zet.lookup, fin⟩))
theorem zzd {w : World} {h : Heap} {it a : Addr} {o : Obj} {i n ep : Nat} {t : SetTable} (ho : h.get? it = some o) (hc : o.cls = .type "set_iterator") (hd : o.data = .fields #[.int (slotAt w t i : Nat) 0, .int i 0, .ref a, .int n 0, .int ep 0]) :
  ItAt w ((h.update it (Obj.mapFields (·.setIfInBounds 0 (rawInt (slotAt w t (i+1):Nat))))).update it (Obj.mapFields (·.setIfInBounds 1 (rawInt ((i:Int)+1))))) it a (i+1) n ep t:=by
 have d1:=xgv hd (·.setIfInBounds 0 (rawInt (slotAt w t (i+1):Nat)));have g1:=xdy _ ho (xhh d1);have d2:=xgv d1 (·.setIfInBounds 1 (rawInt ((i:Int)+1)));refine ⟨_,xdy _ g1 (xhh d2),(xke ..).trans ((xke ..).trans hc),?_⟩;rw[d2];simp[rawInt]
theorem zvw {i:Nat} {e:Int × Value} {W:Option Value->Shared->Prop} (x:At s.heap a es ep t) (T:Tt w es t ks) (hi:ItAt w s.heap it a i es.size ep t) (he:(ord w a es ep)[i]?=some e)
  (fin:∀g:Heap,ItAt w g it a (i+1) es.size ep t->Heap.SameBut it s.heap g->W (some e.2) {s with heap:=g}):wpAny (model P w) B (pyNext (.ref it)) W E s:=by
 obtain ⟨oi,ei,ci,di⟩:=id hi;obtain ⟨ob,ho,hex,hd⟩:=id x;have lt:i < es.size:=by
  have:=(xkb.mp he).1
  rwa [zfj] at this
 unfold pyNext;refine xba (xiu (wpAny_callSpecial?_slot (name := Str.ofString "__next__") hi.is zet (xdw zet hi.is zkx ?body (zpf _))))
 case body =>
  refine xba (m := slotArgs "__next__" 0 _) (xbc (xba (xjr ei di ?_)))
  refine xba (xjo ho hd T.fits ?_);rw[if_neg (by simp)];refine xba (m:=setNext a (slotAt w t i) i ep) (zpg x T (xbp lt) ?_);rw[he];dsimp only [Option.map];refine xba (xid ei di (by simp) ?_);have d1:=xgv di (·.setIfInBounds 0 (rawInt (slotAt w t (i+1):Nat)));have g1:=xdy _ ei (xhh d1);refine xba (xid g1 d1 (by simp) ?_);exact xbc ⟨_,rfl,xbc (fin _ (zzd ei ci di) ((xey ..).trans (xey ..)))⟩
theorem zbau {i:Nat} {W:Option Value->Shared->Prop} (hh:B.handled=none) (x:At s.heap a es ep t) (T:Tt w es t ks) (hi:ItAt w s.heap it a i es.size ep t) (he:i=es.size)
  (fin:∀g:Heap,Heap.ExtBut it s.heap g->W none {s with heap:=g}):wpAny (model P w) B (pyNext (.ref it)) W E s:=by
 obtain ⟨oi,ei,ci,di⟩:=id hi;obtain ⟨ob,ho,hex,hd⟩:=id x;unfold pyNext;refine xba (xiu (wpAny_callSpecial?_slot (name := Str.ofString "__next__") hi.is zet (xdw zet hi.is zkx ?body (zpf _))))
 case body =>
  refine xba (m := slotArgs "__next__" 0 _) (xbc (xba (xjr ei di ?_)))
  refine xba (xjo ho hd T.fits ?_);rw[if_neg (by simp)];refine xba (m:=setNext a (slotAt w t i) i ep) (zpg x T (xcu he) ?_);rw[xiq (by rw[zfj];lia)];dsimp only [Option.map];refine xba (xid ei di (by simp) (xba ?_));simp only[newExc,newTuple];refine xba (xdf (xba (m:=firstArgMember _ _) (wpAny_of_eq (a:=Value.none) (by first | rfl | (simp only[firstArgMember];rfl)) (xdf ?_ (by size_fits)))) (by size_fits));simp only[raiseNew];refine xba (wpAny_handled ?_);rw[show B.in1.handled=none from hh];refine xba (xbc (wpAny_throw ?_));refine xba (wpAny_isInstance (T := "StopIteration") (b := true) ?ty isSubtype_stop (xbc (fin _ (((xey ..).extBut.push _).push _))))
  exact ⟨_,xbt _ rfl,rfl⟩
theorem zqe (hh:B.handled=none) (ne:a≠it) (T:Tt w es t ks) :
  Walks P w B it [it,a] [it] es.size (fun i v=>∃e,(ord w a es ep)[i]?=some e/\v=e.2) (fun i h=>ItAt w h it a i es.size ep t/\At h a es ep t) where
 sub:=fun b hb=>xbo.mpr (.inl (xcf.mp hb))
 frame:=fun _ _ _ z hk=>⟨z.1.kept fun o e=>hk it xbz o e,z.2.kept fun o e=>hk a (xbu _ (xcf.mpr rfl)) o e⟩
 item:=fun i sh W' E' hi z hQ=>by
  have hx:(ord w a es ep)[i]?=some ((ord w a es ep)[i]'(by rw[zfj];exact hi)):=xcn _;exact zvw z.2 T z.1 hx fun g p q=>hQ _ g sh.toks ⟨_,hx,rfl⟩ ⟨p,z.2.kept fun o e=>q.extBut a o ne e⟩ fun c o hc e=>q.extBut c o (fun r=>hc (xcf.mpr r)) e
 done:=fun sh W' E' z hQ=>zbau hh z.2 T z.1 rfl fun g b=>hQ g sh.toks fun c o hc e=>b c o (fun q=>hc (xcf.mpr q)) e
 self:=fun i sh W' E' z hQ=>by
  refine xkk z.1.is zoy (xdw zoy z.1.is zqh ?_ (ztw _));exact xbc ⟨_, rfl, "set_iterator", _, z.1.is, zet.lookup, hQ⟩
theorem zvy {Q : Bool -> Shared -> Prop} (ty : s.TypeIs (.ref a) "set") (fin : Q false s) : wpAny (model P w) B (Builtin.List.listLengthHint (.ref a)) Q E s := by
 unfold Builtin.List.listLengthHint;refine xba (wpAny_specialOf ty F.slot_set_len.lookup ?_);generalize hid : ("set.__len__" : String) = id0
 wp_delta
 rw [show splitId id0 = some ("set", "__len__") from by subst hid; decide +kernel]
 subst hid;refine xba (wpAny_isInstance (b:=true) ty sub_set_self (xhv (fun z=>absurd z (by decide)) (fun _=>xhv (fun _=>xba (wpAny_typeOf ty (xbc fin))) (fun z=>absurd (by decide +kernel) z))))
theorem zyr (T : Tt w es t ks) : KdlSrc P w "set" a a es.size (fun i v => ∃ e, (ord w a es ep)[i]? = some e /\ v = e.2) (fun h => At h a es ep t) where
 type:=fun _ x=>x.is
 there:=fun _ x=>⟨x.lt,x.lt⟩
 keep:=fun _ _ x hk=>x.kept fun o e=>hk a (.inl rfl) o e
 notList:=by decide
 notTuple:=by decide
 hint:=fun _ _ _ _ x hq=>zvy x.is hq
 iter:=fun _ sh hh x=>⟨_,_,fun _ _ hq=>zvv x T hq,zqe hh (xbv x.lt) T,⟨⟨_,xbt _ rfl,rfl,rfl⟩,x.kept fun o e=>xbh _ e⟩⟩
end
end St
end L2
namespace L2
open PySem PySem.Spec PyProof.Rows PySem.W
def nats (ns:List Nat):List Int:=ns.map fun (n:Nat)=>(n:Int)
def setO (w:World) (q:Addr) (ks:List Nat):HO:=.ext fun h=>St.Sn w h q ks
def rSetI (w:World) (K:Fg):List V->Hp->VK->Prop:=fun xs H Q=>∃(l:Addr) (ns:List Nat),xs=[.ref l]/\SqL K H l ((nats ns).map V.int)/\(∀n∈ns,n < 64)/\∀q,H q=none->Q (.ref q) (upd H q (setO w q (St.met ns [])))
theorem zon {X : Cx} (hc : X.calm = true) : CallR X (.type "set") (rSetI X.w X.K) := by
 intro pins s σ H xs us Q I r h;obtain ⟨l,ns,rfl,hl,small,q⟩:=h;obtain ⟨u,rfl,ru⟩:=vals1 r;cases ru;obtain ⟨its,rv,pl,hz⟩:=I.list hl;refine St.zxo (I.ok.hd hc) pl.isList (zce rv) small fun h' tk S keep=>?_
 refine ⟨.ref s.heap.objs.size,_,I.laid (a:=s.heap.objs.size) (o:=setO X.w s.heap.objs.size (St.met ns [])) (t':=tk) keep (xbe _) ⟨S,?_,fun h1 h2 z k=>z.kept k⟩,rfl,q _ (I.hok.fresh (xbe _))⟩;obtain ⟨ob,_,_,_,e,_⟩:=S;exact ⟨ob,e⟩
def rSortedS (w:World):List V->Hp->VK->Prop:=fun xs H Q=>∃(a:Addr) (ks:List Nat),xs=[.ref a]/\H a=some (setO w a ks) /\
 ∀(q:Addr) (ms:List Int),H q=none->ms.Perm (nats ks)->ms.Pairwise (·<=·)->Q (.ref q) (upd H q (.lst (ms.map V.int)))
theorem zhr {X : Cx} (hc : X.calm = true) : CallR X (.builtin "sorted") (rSortedS X.w) := by
 intro pins s σ H xs us Q I r h;obtain ⟨a,ks,rfl,ha,q⟩:=h;obtain ⟨u,rfl,ru⟩:=vals1 r;cases ru;obtain ⟨S,_,_⟩:=(show ObjOk X.prog X.w H s.heap a (setO X.w a ks) from I.hok a _ ha)
 obtain ⟨ob,es,ep,t,ho,hex,hd,T⟩:=S;have few:=T.few;refine Srt.zep (St.zyr (P:=X.prog) (ep:=ep) T) (I.ok.hd hc) ⟨ob,ho,hex,hd⟩ (small10000 (by lia)) fun vs hl hv=>?_
 have pm:=St.zkr X.w a es ep;have evs:vs=(St.ord X.w a es ep).toList.map (·.2):=by
  apply xij;intro i;by_cases hi:i < es.size
  ·have h1:vs[i]?=some vs[i]:=xbg (by lia);obtain ⟨e,h2,h3⟩:=hv i _ h1;rw[h1,h3,xcl,xbs,h2]
   rfl
  ·rw[xgb (by lia),xgb (by rw[xbd,xbq,St.zfj];lia)]
 generalize hL:(St.ord X.w a es ep).toList=L at pm evs;have E:=T.el.of_perm pm;have rv:Vals ((L.map (·.1)).map V.int) vs:=by
  rw[evs,xdc];refine zfc fun e he=>?_
  obtain ⟨n,t2,hn,rfl⟩:=E.all e he;exact ⟨t2,rfl⟩
 have ln:(L.map (·.1)).length=es.size:=by
  rw[xbd,pm.length_eq,xbq]
 refine ⟨Srt.rank (ones (L.map (·.1))),zsq rv,fun h2 g tk keep=>zsz (by lia) rv,fun p b g tk c p1 p2 keep ne eg=>?_⟩;have lv:vs.length=(L.map (·.1)).length:=by lia
 rw[lv] at p1 p2;obtain ⟨ms,q1,q2,q3⟩:=zrb rv p1 p2;refine ⟨.ref b,_,I.laidN (o:=.lst (ms.map V.int)) keep ne ⟨?_,_,c,q3,by simpa using eg⟩,rfl,q b ms (I.away ne) (q1.trans E.perm) q2⟩;rw[xbd,q1.length_eq,ln];exact small10000 (by lia)
end L2
namespace Dd
open PySem L2 PyProof.Rows
def once:List Int->List Int
 | []=>[]
 | n::l=>if n∈l then once l else n::once l
theorem zdw {k:Int}:∀{l:List Int},k∈once l↔k∈l
 | []=>Iff.rfl
 | n::l=>by
  unfold once;split
  ·rename_i h;rw[zdw (l:=l),xbo];exact ⟨.inr,fun z=>z.elim (fun e=>e ▸ h) id⟩
  ·rw[xbo,xbo,zdw (l:=l)]
theorem zif:∀l:List Int,(once l).Nodup
 | []=>xft
 | n::l=>by
  unfold once;split
  ·exact zif l
  ·rename_i h;exact xfj.mpr ⟨fun z=>h (zdw.mp z),zif l⟩
theorem zla {k:Nat}:∀{l ks:List Nat},k∈St.met l ks↔k∈l\/k∈ks
 | [],ks=>by simp[St.met]
 | n::l,ks=>by
  unfold St.met;rw[zla (l:=l),xbo];split
  ·rename_i h;exact ⟨fun z=>z.elim (fun a=>.inl (.inr a)) .inr,fun z=>z.elim (fun a=>a.elim (fun e=>.inr (e ▸ h)) .inl) .inr⟩
  ·rw[xbo];exact ⟨fun z=>z.elim (fun a=>.inl (.inr a)) (fun a=>a.elim (fun e=>.inl (.inl e)) .inr),fun z=>z.elim (fun a=>a.elim (fun e=>.inr (.inl e)) .inl) (fun a=>.inr (.inr a))⟩
theorem zri:∀{l ks:List Nat},ks.Nodup->(St.met l ks).Nodup
 | [],ks,h=>h
 | n::l,ks,h=>by
  unfold St.met;split
  ·exact zri h
  ·rename_i c;exact zri (xfj.mpr ⟨c,h⟩)
theorem zvi {l:List Nat} (h:l.Nodup):(nats l).Nodup:=by
 unfold nats;rw[List.nodup_iff_pairwise_ne] at h ⊢;exact List.pairwise_map.mpr (h.imp fun a e=>a (by lia))
theorem zrh {ns:List Nat}:(nats (St.met ns [])).Perm (once (nats ns)):=by
 refine (xhs (zvi (zri xft)) (zif _)).mpr fun k=>?_
 rw[zdw];unfold nats;rw[xcp,xcp];constructor
 ·rintro ⟨n,h,rfl⟩;exact ⟨n,(zla.mp h).elim id (fun z=>by cases z),rfl⟩
 ·rintro ⟨n,h,rfl⟩;exact ⟨n,zla.mpr (.inl h),rfl⟩
def smallI (n:Int):Bool:=decide (0<=n) && decide (n < 64)
theorem zkg {l:List Int} (h:l.all smallI=true):∃ns:List Nat,l=nats ns/\∀n∈ns,n < 64:=by
 refine ⟨l.map Int.toNat,?_,fun n hn=>?_⟩
 ·unfold nats;rw[xdc];refine (List.map_id l).symm.trans (xhu fun n hn=>?_);have:=xef.mp h n hn;simp[smallI] at this;show n=((n.toNat:Nat):Int)
  lia
 ·obtain ⟨m,hm,rfl⟩:=xcp.mp hn;have:=xef.mp h m hm;simp[smallI] at this;lia
def bSortSetM:List D->Store->Res D:=fun xs st=>match xs with
 | [x]=>match (asL st x).bind asInts with
  | some l=>if l.all smallI=true then .ok (.ref st.length) (st++[.lst ((sortI (once l)).map .int)]) else .stuck
  | none=>.stuck
 | _=>.stuck
def rSS (w:World) (K:Fg):List V->Hp->VK->Prop:=fun xs H Q=>rSetI w K xs H fun u H1=>rSortedS w [u] H1 Q
theorem zjy {w:World} {K:Fg}:CaD K bSortSetM (rSS w K):=fun ρ H st xs us z st' Q rp aa e q=>by
 unfold bSortSetM at e;split at e
 ·obtain ⟨u,rfl,a⟩:=aa.one;split at e
  ·rename_i l hl;obtain ⟨ys,h0,hl⟩:=xed.mp hl;split at e
   ·rename_i sm;cases e;obtain ⟨p,vs,rfl,h1,h2⟩:=zen rp a h0;have e:=zbg h2 hl;subst e;obtain ⟨ns,rfl,small⟩:=zkg sm;refine ⟨p,ns,rfl,SqL.of h1,small,fun b hb=>⟨b,_,rfl,zo,fun t ms ht hp hs=>?_⟩⟩;have e2:ms=sortI (once (nats ns)):=zkf (hp.trans zrh) hs;subst e2;obtain ⟨E,R⟩:=(rp.new hb (setO w b _)).alloc ht (x:=.lst ((sortI (once (nats ns))).map .int)) (o:=.lst ((sortI (once (nats ns))).map V.int)) fun E=>⟨_,zo,(zda _).ext E⟩
    exact q _ _ _ ((Ext.new hb _).trans E) R (.last rp.len.symm)
   ·cases e
  ·cases e
 ·cases e
section
variable {X:Cx} {x y:Str} {p p2 pos pos2:Pos} {e:Expr} {f:SA} {g:List D->Store->Res D}
theorem zbeq (hc : X.calm = true) (hr : CaD X.K g (rSS X.w X.K)) (hgx : Gl X x) (hmx : X.mg x = none) (hvx : bootBuiltins x = some (.builtin "sorted")) (hgy : Gl X y) (hmy : X.mg y = none) (hvy : bootBuiltins y = some (.type "set")) (ha : JA X [e] f)
  (hnx : x ≠ "__name__" := by decide) (hdx : (x == ("__debug__" : Str)) = false := by decide) (hny : y ≠ "__name__" := by decide) (hdy : (y == ("__debug__" : Str)) = false := by decide) (hp : plainE e = true := by rfl) :
  JE X (.Call (.Name x p) [.Call (.Name y p2) [e] [] pos2] [] pos) (eCall g f) :=
 ⟨zek (zko (zhr hc) hgx hmx hvx (zkp (zdj (zon hc) hgy hmy hvy ha.out hny hdy (zdp hp)) zqz) hnx hdx) fun τ H Q h=>zxq hr τ H Q h⟩
end
end Dd
namespace L2
open PySem PySem.Spec PyProof.Rows PySem.W
def rRngO:List V->Hp->VK->Prop:=fun xs H Q=>∃j:Int,xs=[.int j]/\∀q,H q=none->Q (.ref q) (upd H q (.rng 0 j))
theorem zoo {X : Cx} : CallR X (.type "range") rRngO := by
 intro pins s σ H xs us Q I r h;obtain ⟨j,rfl,q⟩:=h;obtain ⟨u,rfl,ru⟩:=vals1 r;obtain ⟨t,rfl⟩:=ru;exact call_range_1 ⟨.ref s.heap.objs.size,_,I.laid (a:=s.heap.objs.size) (o:=.rng 0 j) (fun _ _ e=>xbh _ e) (xbe _) ⟨_,_,_,xbt _ rfl⟩,rfl,q _ (I.hok.fresh (xbe _))⟩
def cntTo (n:Nat):List Int:=(List.range n).map fun (i:Nat)=>(i:Int)
def rListR:List V->Hp->VK->Prop:=fun xs H Q=>∃(a:Addr) (j:Int),xs=[.ref a]/\H a=some (.rng 0 j)/\0<=j/\j<=100000/\∀q,H q=none->Q (.ref q) (upd H q (.lst ((cntTo j.toNat).map V.int)))
theorem zlz {X : Cx} (hc : X.calm = true) : CallR X (.type "list") rListR := by
 intro pins s σ H xs us Q I r h;obtain ⟨a,j,rfl,ha,j0,j1,q⟩:=h;obtain ⟨u,rfl,ru⟩:=vals1 r;cases ru;obtain ⟨t,u,v,e⟩:=(show ObjOk X.prog X.w H s.heap a (.rng 0 j) from I.hok a _ ha)
 have en:Builtin.Range.rangeSize 0 j 1=(j.toNat:Int):=by
  rw[rangeSize_one];split<;>lia
 refine call_list_range (I.ok.hd hc) e (small_one (by lia) (by lia) (by lia) (by lia)) en (by lia) fun h' tk acc c keep new it=>?_
 have ln:acc.toList.length=j.toNat:=by rw[xbq];exact it.1
 have rv:Vals ((cntTo j.toNat).map V.int) acc.toList:=by
  have e:acc.toList=(List.range j.toNat).map fun (i:Nat)=>acc.toList.getD i Value.none:=by
   apply xiw
   ·simp[it.1]
   ·intro i h1 h2;simp[xbk] at h1 h2 ⊢;rw[xcn h1]
    rfl
  rw[e];unfold cntTo;rw[xdc];refine zfc fun i hi=>?_
  have hi:i < j.toNat:=xco.mp hi;have h1:acc.toList[i]?=some acc.toList[i]:=xbg (by lia);obtain ⟨t2,e2⟩:=it.2 i acc.toList[i] (by rw[← xbs];exact h1);refine ⟨t2,?_⟩;rw[xbk,h1];show acc.toList[i]=_;rw[e2]
  congr 1
  show (0:Int)+(i:Int) * 1=(i:Int)
  lia
 refine ⟨.ref s.heap.objs.size,_,I.laid (a:=s.heap.objs.size) (o:=.lst ((cntTo j.toNat).map V.int)) keep (xbe _) ⟨?_,acc.toList,c,rv,by simpa using new⟩,rfl,q _ (I.hok.fresh (xbe _))⟩;unfold cntTo;rw[xbd,xbd,xfo];exact small10000 (by lia)
end L2
namespace Dd
open PySem L2 PyProof.Rows
def bListR:List D->Store->Res D:=fun xs st=>match xs with
 | [.int j]=>if 0<=j/\j<=100000 then .ok (.lst ((cntTo j.toNat).map .int)) st else .stuck
 | _=>.stuck
def rLR:List V->Hp->VK->Prop:=fun xs H Q=>rRngO xs H fun u H1=>rListR [u] H1 Q
theorem zsu {K:Fg}:CaD K bListR rLR:=fun ρ H st xs us z st' Q rp aa e q=>by
 unfold bListR at e;split at e
 ·rename_i j;split at e
  ·rename_i hj;cases e;obtain ⟨u,rfl,a⟩:=aa.one;cases a;refine ⟨j,rfl,fun b hb=>⟨b,j,rfl,zo,hj.1,hj.2,fun t ht=>?_⟩⟩;exact q _ _ _ ((Ext.new hb _).trans (Ext.new ht _)) ((rp.new hb _).new ht _) (.newL (rp.new hb _) ht (zda _))
  ·cases e
 ·cases e
section
variable {X:Cx} {p p2 pos pos2 cpos apos:Pos} {e o:Expr} {f:SA} {g:SE}
theorem zsg (hc : X.calm = true) (hgx : Gl X "list") (hmx : X.mg "list" = none) (hvx : bootBuiltins "list" = some (.type "list")) (hgy : Gl X "range") (hmy : X.mg "range" = none) (hvy : bootBuiltins "range" = some (.type "range")) (ha : JA X [e] f) (hp : plainE e = true := by rfl) :
  JE X (.Call (.Name "list" p) [.Call (.Name "range" p2) [e] [] pos2] [] pos) (eCall bListR f) :=
 ⟨zek (zdj (zlz hc) hgx hmx hvx (zkp (zdj zoo hgy hmy hvy ha.out (by decide) (by decide) (zdp hp)) zqz)) fun τ H Q h=>zxq zsu τ H Q h⟩
theorem zst : bootBuiltins "range" = some (.type "range") := by decide +kernel
def eRev (f:SE):SE:=fun σ st=>(f σ st).bind fun x st1=>match x with
 | .ref n=>match st1[n]? with
  | some (.lst xs)=>.ok .non (st1.set n (.lst xs.reverse))
  | _=>.stuck
 | _=>.stuck
theorem zqb {K:Fg} {ρ:Loc} {H:Hp}:∀{ds:List D} {vs:List V},AtAll K ρ H ds vs->AtAll K ρ H ds.reverse vs.reverse
 | _,_,.nil=>.nil
 | _,_,.cons a t=>by
  rw[xih,xih];exact (zqb t).append (.cons a .nil)
theorem zlu (ho : JE X o g) (hbase : attributeBase o "reverse" X.env (eval o X.env) = eval o X.env := by rfl) (hline : (apos.endLine == cpos.line) = true := by rfl) : JE X (.Call (.Attribute o "reverse" apos) [] [] cpos) (eRev g) :=
 ⟨zek (zzq PySem.F.plainAttrs_list PySem.F.slot_list_reverse PySem.F.type_list_reverse zkz ho.out hbase hline) fun τ H Q hq0=>by
  obtain ⟨ρ,σ,st,v,st',a,rp,e,q⟩:=hq0;obtain ⟨x,st1,e1,e⟩:=zb e;refine ⟨ρ,σ,st,x,st1,a,rp,e1,fun ρ1 H1 u x1 rp1 a1=>?_⟩;split at e
  ·split at e
   ·rename_i n _ xs hn;cases e;obtain ⟨p,rfl,hp,vs2,k1,k2⟩:=zel rp1 a1 hn (by intro z;cases z);have E:Ext ρ1 H1 ρ1 (upd H1 p (.lst vs2.reverse)):=Ext.wr hp (zcz k1) _;exact ⟨.inl ⟨rfl,_,SqL.of k1⟩,p,vs2,rfl,rfl,k1,q _ _ _ (x1.trans E) (rp1.wr hp (zcz k1) ⟨_,zo,(zqb k2).ext E⟩) .non⟩
   ·cases e
  ·cases e⟩
end
section
variable {X:Cx} {R:RXT} {e:Expr} {es:List Expr} {f:SE} {g:SA} {sm:Stmt} {rest body:List Stmt} {s t:SS} {pos p:Pos} {x:Str} {k:Nat} {ps:List Str} {F:DFn}
end
section
variable {P:Program} {w:World} {K:Fg} {mg:Str->Option Value} {base h:Heap} {x:Str} {st:Stmt} {N ps:List Str} {k:Nat} {b:SS}
end
section
variable {X:Cx} {R:RXT} {f:Addr} {σL:DS} {τL:L2.St} {g:SE} {x n y:Str} {p pos pos2 xp hp:Pos} {B:Addr} {i:Nat} {cs:List Str} {b0:Stmt} {suite rest:List Stmt} {u t:SS}
end
section
variable {X:Cx} {y:Str} {p pos lp:Pos} {params:Arguments} {body:Expr} {scope stS:Scope} {N NL:List Str} {is:List Nat} {c T fr:Addr} {fdR:FuncData} {stR:Stmt} {x:Str} {k:Nat} {lam:SE} {b:(Store->Res D)->SS}
end
end Dd
namespace L2
open PySem PySem.Spec PyProof.Rows
end L2
namespace Dd
open PySem L2 PyProof.Rows
section
variable {X:Cx} {o e:Expr} {es:List Expr} {f:SE} {ga:SA} {apos cpos:Pos}
end
end Dd
namespace L2
open PySem PySem.Spec PyProof.Rows
end L2
namespace Dd
open PySem L2 PyProof.Rows
section
variable {X:Cx} {R:RXT} {f:Addr} {σL:DS} {τL:L2.St} {g:SE} {x n y:Str} {p pos pos2 xp hp:Pos} {B:Addr} {i:Nat} {cs:List Str} {b0:Stmt} {suite rest:List Stmt} {u t:SS}
end
section
variable {K:Fg} {cv:Value}
end
section
variable {X:Cx} {pos:Pos} {es:List Expr} {u:List D->DS->Option DS}
end
end Dd
namespace L2
open PySem PySem.Spec PyProof.Rows
section
variable {prog:Program} {w:World} {A:Around} {R:Result->Shared->Prop} {I:Addr} {fp wr:List Addr} {n:Nat} {P:Nat->Value->Prop} {St:Nat->Heap->Prop}
end
section
variable {prog:Program} {w:World} {A:Around} {E:Value->Shared->Prop} {s:Shared}
end
section
variable {X:Cx} {p pos cpos kpos:Pos} {l:Expr} {t:TA} {d:Int} {j:Nat}
end
section
variable {X:Cx}
end
end L2
namespace Dd
open PySem L2 PyProof.Rows
section
variable {X:Cx} {p pos cpos kpos:Pos} {l:Expr} {f:SA} {j:Nat}
end
end Dd
namespace Dd
open PySem L2
def zcl:DFn:=fnD 5 2 (sSeq (sSet 2 (eC (.int 0)))
 (sSeq (sIf (eB (eOp oLtT (eVar 1) (eCall bLen (aCons (eVar 0) aNil)))) (sSet 2 (eCall bAbs (aCons (eOp oIx (eVar 0) (eVar 1)) aNil))) sNx)
 (sSeq (sSet 3 (eOp oAdd (eOp oMulI (eC (.int 7919)) (eVar 1)) (eC (.int 17))))
 (sSeq (sFor (iR1 (aCons (eCall bMin2 (aCons (eCall bLen (aCons (eVar 0) aNil)) (aCons (eC (.int 60)) aNil))) aNil)) (gN 4) (sSet 3 (eOp oMod (eOp oAdd (eOp oAdd (eOp oMulI (eVar 3) (eC (.int 48271))) (eOp oMod (eOp oIx (eVar 0) (eVar 4)) (eC (.int 2147483647)))) (eVar 4)) (eC (.int 2147483629)))))
 (sSeq (sIf (eB (eOp oLtT (eVar 2) (eOp oPow (eC (.int 10)) (eC (.int 18))))) (sSet 2 (eC (.int 0))) sNx)
 (sRet (eLstM (aCons (eVar 2) (aCons (eVar 3) aNil)))))))))
def zbp:DFn:=fnD 3 1 (sSeq (sSet 1 eDNew)
 (sSeq (sFor (iSeq (eVar 0)) (gN 2) (sDPut (eVar 1) (eVar 2) (eOp oAdd (eDGet2 (eVar 1) (eVar 2) (eC (.int 0))) (eC (.int 1)))))
 (sRet (eCall bTuple (aCons (eCall bSorted (aCons (eComp (iDict (eVar 1)) 1 [1] (gN 0) (eB (eOp oEq (eOp oMod (eOp oDGet (eVar 1) (eVar 0)) (eC (.int 2))) (eC (.int 1)))) (eVar 0)) aNil)) aNil)))))
def zm:DFn:=fnD 5 2 (sSeq (sIf (eB (eOp oGt (eOp oIx (eVar 0) (eC (.int 0))) (eC (.int 0)))) (sSeq (sSet 2 (eOp oMod (eOp oIx (eVar 0) (eC (.int 0))) (eVar 1)))
 (sSeq (sSetIx (eVar 0) (eC (.int 0)) (eOp oFdiv (eOp oIx (eVar 0) (eC (.int 0))) (eVar 1)))
 (sRet (eVar 2)))) sNx)
 (sSeq (sSet 3 (eC (.int 0)))
 (sSeq (sSet 4 (eC (.int 1)))
 (sSeq (sWhile (eB (eOp oLtT (eVar 4) (eVar 1))) (sSeq (sSetIx (eVar 0) (eC (.int 1)) (eOp oMod (eOp oAdd (eOp oMulI (eOp oIx (eVar 0) (eC (.int 1))) (eC (.int 48271))) (eC (.int 7919))) (eC (.int 2147483647))))
 (sSeq (sSet 3 (eOp oAdd (eOp oMulI (eVar 3) (eC (.int 1073741789))) (eOp oMod (eOp oMulI (eOp oFdiv (eOp oIx (eVar 0) (eC (.int 1))) (eC (.int 8))) (eC (.int 69621))) (eC (.int 1073741789)))))
 (sSet 4 (eOp oMulI (eVar 4) (eC (.int 1073741789)))))))
 (sRet (eOp oMod (eVar 3) (eVar 1)))))))
def zbd:SS:=(sSeq (sSet 7 (eCall zm (aCons (eVar 0) (aCons (eOp oAdd (eVar 3) (eC (.int 1))) aNil))))
 (sSeq (sSetIx (eVar 5) (eOp oMod (eOp oAdd (eVar 4) (eVar 6)) (eVar 1)) (eVar 7))
 (sSet 3 (eOp oSub (eVar 3) (eVar 7)))))
def zj:DFn:=fnD 8 3 (sSeq (sSet 3 (eCall zm (aCons (eVar 0) (aCons (eOp oAdd (eVar 2) (eC (.int 1))) aNil))))
 (sSeq (sSet 4 (eCall zm (aCons (eVar 0) (aCons (eVar 1) aNil))))
 (sSeq (sSet 5 (eCompM (iR1 (aCons (eVar 1) aNil)) 1 [] (gN 0) bYes (eC (.int 0))))
 (sSeq (sFor (iR1 (aCons (eOp oSub (eVar 1) (eC (.int 1))) aNil)) (gN 6) zbd)
 (sSeq (sSetIx (eVar 5) (eOp oMod (eOp oSub (eOp oAdd (eVar 4) (eVar 1)) (eC (.int 1))) (eVar 1)) (eVar 3))
 (sRet (eCall bTuple (aCons (eVar 5) aNil))))))))
def zx:DFn:=fnD 6 2 (sSeq (sSet 2 (eOp oIx (eLst (aCons (eC (.int 24)) (aCons (eC (.int 10)) aNil))) (eCall bInt (aCons (eOp oGt (eVar 1) (eC (.int 3))) aNil))))
 (sSeq (sSet 3 (eCall zm (aCons (eVar 0) (aCons (eC (.int 7)) aNil))))
 (sSeq (sIf (eB (eOp oEq (eCall zm (aCons (eVar 0) (aCons (eC (.int 8)) aNil))) (eC (.int 3)))) (sSet 3 (eCall zm (aCons (eVar 0) (aCons (eOp oIx (eLst (aCons (eC (.int 41)) (aCons (eC (.int 9)) aNil))) (eCall bInt (aCons (eOp oGt (eVar 1) (eC (.int 3))) aNil))) aNil)))) sNx)
 (sSeq (sSet 4 (eComp (iR1 (aCons (eVar 3) aNil)) 1 [0,1,2] (gN 0) bYes (eCall zj (aCons (eVar 1) (aCons (eVar 2) (aCons (eVar 3) aNil))))))
 (sSeq (sIf (bAnd (eB (eOp oEq (eCall zm (aCons (eVar 0) (aCons (eC (.int 2)) aNil))) (eC (.int 1)))) (eB (eOp oGt (eVar 3) (eC (.int 0))))) (sSeq (sSet 5 (eCall (bBest true) (aCons (eComp (iSeq (eVar 4)) 1 [] (gN 0) bYes (eCall bSum (aCons (eVar 0) aNil))) aNil)))
 (sSet 4 (eComp (iSeq (eVar 4)) 1 [5] (gN 0) bYes (eOp oAdd (eSl (eVar 0) pNone (pSome (eUn oNeg (eC (.int 1))))) (eTup (aCons (eOp oSub (eOp oAdd (eOp oIx (eVar 0) (eUn oNeg (eC (.int 1)))) (eVar 1)) (eCall bSum (aCons (eVar 0) aNil))) aNil)))))) sNx)
 (sRet (eCall zbp (aCons (eVar 4) aNil))))))))
def zct:DFn:=fnD 1 1 (sRet (eCall bSortSetM (aCons (eComp (iSeq (eVar 0)) 1 [] (gN 0) bYes (eCall bSum (aCons (eVar 0) aNil))) aNil)))
def zbu:DFn:=fnD 2 2 (sRet (eCall bTuple (aCons (eComp (iSeq (eVar 0)) 1 [1] (gN 0) (eB (eOp oEq (eCall bSum (aCons (eVar 0) aNil)) (eVar 1))) (eVar 0)) aNil)))
def zhv:SS:=(sSeq (sSet 7 (eCall zct (aCons (eVar 4) aNil)))
 (sSeq (sIf (bOr (bNot (eTru (eCall bIsinst (aCons (eVar 7) (aCons (eC (.ty "list")) aNil))))) (eB (eOp oNe (eVar 7) (eVar 5)))) (sRet (eC (.bl false))) sNx)
 (sSeq (sDrop (eAppend (eVar 7) (aCons (eC (.int 99)) aNil)))
 (sDrop (eRev (eVar 7))))))
def zhu:SS:=(sSeq (sSet 9 (eCall zbu (aCons (eVar 4) (aCons (eVar 8) aNil))))
 (sIf (bOr (bNot (eTru (eCall bIsinst (aCons (eVar 9) (aCons (eC (.ty "tuple")) aNil))))) (eB (eOp oNe (eVar 9) (eCall bTuple (aCons (eComp (iSeq (eVar 4)) 1 [8] (gN 0) (eB (eOp oEq (eCall bSum (aCons (eVar 0) aNil)) (eVar 1))) (eVar 0)) aNil))))) (sRet (eC (.bl false))) sNx))
def zmk:SS:=(sSeq (sSet 2 (eCall zcl (aCons (eVar 0) (aCons (eVar 1) aNil))))
 (sSeq (sSet 3 (eOp oAdd (eC (.int 1)) (eCall zm (aCons (eVar 2) (aCons (eC (.int 10)) aNil)))))
 (sSeq (sSet 4 (eCall zx (aCons (eVar 2) (aCons (eVar 3) aNil))))
 (sSeq (sSet 5 (eComp (iR1 (aCons (eC (.int 25)) aNil)) 1 [4] (gN 0) (eB (eOp oGt (eCall bLen (aCons (eComp (iSeq (eVar 1)) 1 [0] (gN 0) (eB (eOp oEq (eCall bSum (aCons (eVar 0) aNil)) (eVar 1))) (eVar 0)) aNil)) (eC (.int 0)))) (eVar 0)))
 (sSeq (sFor (iR1 (aCons (eC (.int 2)) aNil)) (gN 6) zhv)
 (sFor (iSeq (eOp oAdd (eCall bListR (aCons (eOp oAdd (eCall (bMaxD 0) (aCons (eVar 5) aNil)) (eC (.int 2))) aNil)) (eLst (aCons (eOp oPow (eC (.int 10)) (eC (.int 39))) aNil)))) (gN 8) zhu))))))
def zbcp:DFn:=fnD 10 1 (sSeq (sFor (iR1 (aCons (eCall bMax2 (aCons (eC (.int 1)) (aCons (eCall bMin2 (aCons (eC (.int 10)) (aCons (eCall bLen (aCons (eVar 0) aNil)) aNil))) aNil))) aNil)) (gN 1) zmk)
 (sRet (eC (.bl true))))
def RngOk (j:Int):Prop:=-(2 ^ 62)<=j/\j < 2 ^ 62
instance (j:Int):Decidable (RngOk j):=by unfold RngOk;infer_instance
theorem rngOk {j:Int} (h1:-1000000000000<=j) (h2:j<=1000000000000):RngOk j:=⟨by lia,by lia⟩
section
variable {σ:DS} {st:Store}
@[simp] theorem eC_v {d:D}:eC d σ st=.ok d st:=rfl
@[simp] theorem zbav {i:Nat}:eVar i σ st=(match σ[i]? with
 | some (some d)=>.ok d st
 | _=>.stuck):=rfl
@[simp] theorem zbdc {g:D->D->Store->Res D} {f f':SE}:eOp g f f' σ st=(f σ st).bind fun x st1=>(f' σ st1).bind fun y st2=>g x y st2:=rfl
@[simp] theorem zbfb {g:D->Store->Res D} {f:SE}:eUn g f σ st=(f σ st).bind fun x st1=>g x st1:=rfl
@[simp] theorem zpr {g:List D->Store->Res D} {f:SA}:eCall g f σ st=(f σ st).bind fun xs st1=>g xs st1:=rfl
@[simp] theorem zbcn:aNil σ st=.ok [] st:=rfl
@[simp] theorem zmj {f:SE} {g:SA}:aCons f g σ st=(f σ st).bind fun x st1=>(g σ st1).bind fun xs st2=>.ok (x::xs) st2:=rfl
@[simp] theorem eB_v {f:SE}:eB f σ st=(f σ st).bind fun v st1=>(match v with
 | .bl b=>.ok b st1
 | _=>.stuck):=rfl
@[simp] theorem zbax {f:SE}:eTru f σ st=(f σ st).bind fun v st1=>(match tru st1 v with
 | some b=>.ok b st1
 | none=>.stuck):=rfl
@[simp] theorem zbbb {f f':SE}:eAnd f f' σ st=(f σ st).bind fun v st1=>(match v with
 | .bl true=>f' σ st1
 | .bl false=>.ok (.bl false) st1
 | _=>.stuck):=rfl
@[simp] theorem zbeh {f f':SE}:eOr f f' σ st=(f σ st).bind fun v st1=>(match v with
 | .bl true=>.ok (.bl true) st1
 | .bl false=>f' σ st1
 | _=>.stuck):=rfl
@[simp] theorem zbay {f:SE}:eNot f σ st=(f σ st).bind fun v st1=>(match v with
 | .bl b=>.ok (.bl (!b)) st1
 | _=>.stuck):=rfl
@[simp] theorem zbcj {f f':ST}:bAnd f f' σ st=(f σ st).bind fun b st1=>if b=true then f' σ st1 else .ok false st1:=rfl
@[simp] theorem zbex {f f':ST}:bOr f f' σ st=(f σ st).bind fun b st1=>if b=true then .ok true st1 else f' σ st1:=rfl
@[simp] theorem zbey {f:ST}:bNot f σ st=(f σ st).bind fun b st1=>.ok (!b) st1:=rfl
@[simp] theorem zbew:bYes σ st=.ok true st:=rfl
@[simp] theorem zbei {c:ST} {f f':SE}:eIf c f f' σ st=(c σ st).bind fun b st1=>if b=true then f σ st1 else f' σ st1:=rfl
@[simp] theorem zbaw {g:SA}:eTup g σ st=(g σ st).bind fun xs st1=>if xs.length<=sizeLine then .ok (.tup xs) st1 else .stuck:=rfl
@[simp] theorem zbaz {g:SA}:eLst g σ st=(g σ st).bind fun xs st1=>if xs.length<=sizeLine then .ok (.lst xs) st1 else .stuck:=rfl
@[simp] theorem zwe {g:SA}:eLstM g σ st=(g σ st).bind fun xs st1=>if xs.length<=sizeLine then .ok (.ref st1.length) (st1++[.lst xs]) else .stuck:=rfl
@[simp] theorem zbba {g g':D->D->Store->Res D} {f f' f'':SE}:eChain g g' f f' f'' σ st=(f σ st).bind fun x st1=>(f' σ st1).bind fun y st2=>(g x y st2).bind fun z st3=>(match z with
 | .bl true=>(f'' σ st3).bind fun w st4=>g' y w st4
 | .bl false=>.ok (.bl false) st3
 | _=>.stuck):=rfl
@[simp] theorem zbde:eDNew σ st=.ok (.ref st.length) (st++[.dT []]):=rfl
@[simp] theorem zbfa:sNx σ st=.ok (.nx σ) st:=rfl
@[simp] theorem zbdm:sBrk σ st=.ok (.brk σ) st:=rfl
@[simp] theorem zyy {f:SE}:sRet f σ st=(f σ st).bind fun v st1=>.ok (.ret v) st1:=rfl
@[simp] theorem zbct:sRetN σ st=.ok (.ret .non) st:=rfl
@[simp] theorem zbcu {f:SE}:sDrop f σ st=(f σ st).bind fun _ st1=>.ok (.nx σ) st1:=rfl
@[simp] theorem zbdj {i:Nat} {f:SE}:sSet i f σ st=(f σ st).bind fun v st1=>.ok (.nx (σ.set i (some v))) st1:=rfl
@[simp] theorem zyx {s t:SS}:sSeq s t σ st=(match s σ st with
 | .ok (.nx σ1) st1=>t σ1 st1
 | r=>r):=rfl
@[simp] theorem zbdk {c:ST} {s t:SS}:sIf c s t σ st=(c σ st).bind fun b st1=>if b=true then s σ st1 else t σ st1:=rfl
@[simp] theorem zza {i:Nat} {g:D->D->Store->Res D} {f:SE}:sAug i g f σ st=(match σ[i]? with
 | some (some x)=>(f σ st).bind fun y st1=>(g x y st1).bind fun z st2=>.ok (.nx (σ.set i (some z))) st2
 | _=>.stuck):=rfl
@[simp] theorem zbdl {it:SA} {bd:SG} {body:SS}:sFor it bd body σ st=(it σ st).bind fun xs st1=>forF bd body xs σ st1:=rfl
@[simp] theorem zbaq {f:SE}:iSeq f σ st=(f σ st).bind fun x st1=>(match seqV x with
 | some xs=>.ok xs st1
 | none=>.stuck):=rfl
@[simp] theorem zbed {g:SA}:iR1 g σ st=(g σ st).bind fun xs st1=>(match xs with
 | [.int j]=>if RngOk j then .ok (rng 0 j.toNat) st1 else .stuck
 | _=>.stuck):=rfl
@[simp] theorem zbec {g : SA} : iR2 g σ st = (g σ st).bind fun xs st1 => (match xs with
  | [.int i, .int j] => if RngOk i /\ RngOk j then .ok (rng i (j - i).toNat) st1 else .stuck
  | _ => .stuck) := by
  show (g σ st).bind _ = _
  congr 1
  funext xs st1
  split
  · unfold RngOk
    simp only [and_assoc]
  · rename_i h
    first
      | rfl
      | (split
         · rename_i i j
           exact absurd rfl (h i j)
         · rfl)
@[simp] theorem zbdb {f:SE}:iDict f σ st=(f σ st).bind fun x st1=>(match x with
 | .ref n=>(match st1[n]? with
  | some (.dT kvs)=>.ok (rowsD (kvs.map (·.1))) (st1.set n (.fT kvs))
  | _=>.stuck)
 | _=>.stuck):=rfl
@[simp] theorem zpq {it:SA} {k:Nat} {is:List Nat} {bd:SG} {c:ST} {f:SE}:eComp it k is bd c f σ st=(it σ st).bind fun xs st1=>if xs.length<=sizeLine then (compF bd c f xs (startD k is σ) st1).bind fun ys st2=>.ok (.lst ys) st2 else .stuck:=rfl
@[simp] theorem zbej {f:SE}:eFz f σ st=(f σ st).bind fun x st1=>(match x with
 | .ref n=>(match st1[n]? with
  | some (.lst xs)=>.ok (.lst xs) (st1.set n .dead)
  | _=>.stuck)
 | _=>.stuck):=rfl
@[simp] theorem zbcy:pNone σ st=.ok none st:=rfl
@[simp] theorem zuv {f:SE}:pSome f σ st=(f σ st).bind fun v st1=>(match v with
 | .int i=>.ok (some i) st1
 | _=>.stuck):=rfl
@[simp] theorem zbeg {f:SE} {lo hi:DS->Store->Res (Option Int)}:eSl f lo hi σ st=(f σ st).bind fun x st1=>(lo σ st1).bind fun l st2=>(hi σ st2).bind fun h st3=>(match x with
 | .tup xs=>.ok (.tup (cutD xs l h)) st3
 | x=>match asL st3 x with
  | some xs=>.ok (.lst (cutD xs l h)) st3
  | none=>.stuck):=rfl
@[simp] theorem zoc {f:SE} {g:SA}:eAppend f g σ st=(f σ st).bind fun x st1=>(match x,asL st1 x with
 | .ref n,some _=>(g σ st1).bind fun ys st2=>(match ys,st2[n]? with
  | [y],some (.lst xs)=>if xs.length < sizeLine then .ok .non (st2.set n (.lst (xs++[y]))) else .stuck
  | _,_=>.stuck)
 | _,_=>.stuck):=rfl
@[simp] theorem zyk {f:SE} {g:SA}:eExtend f g σ st=(f σ st).bind fun x st1=>(match x,asL st1 x with
 | .ref n,some _=>(g σ st1).bind fun ys st2=>(match ys,st2[n]? with
  | [y],some (.lst xs)=>(match asL st2 y with
   | some zs=>if xs.length+zs.length<=sizeLine then .ok .non (st2.set n (.lst (xs++zs))) else .stuck
   | none=>.stuck)
  | _,_=>.stuck)
 | _,_=>.stuck):=rfl
@[simp] theorem zqj {f g h:SE}:sSetIx f g h σ st=(h σ st).bind fun v st1=>(f σ st1).bind fun x st2=>(g σ st2).bind fun y st3=>(match x,y with
 | .ref n,.int k=>(match st3[n]? with
  | some (.lst xs)=>(match ixN xs.length k with
   | some j=>.ok (.nx σ) (st3.set n (.lst (xs.set j v)))
   | none=>.stuck)
  | _=>.stuck)
 | _,_=>.stuck):=rfl
@[simp] theorem zrv {f g h:SE}:eDGet2 f g h σ st=(f σ st).bind fun x st1=>(match pairsOf st1 x with
 | some _=>(g σ st1).bind fun y st2=>(h σ st2).bind fun z st3=>(match pairsOf st3 x,keyOf y with
  | some kvs,some k=>.ok ((valD kvs k).getD z) st3
  | _,_=>.stuck)
 | none=>.stuck):=rfl
@[simp] theorem zbdd {f g:SE}:eDPop f g σ st=(f σ st).bind fun x st1=>(match pairsOf st1 x with
 | some _=>(g σ st1).bind fun y st2=>(match x,keyOf y with
  | .ref n,some k=>(match st2[n]? with
   | some (.dT kvs)=>(match valD kvs k with
    | some v=>.ok v (st2.set n (.dT (dropD kvs k)))
    | none=>.stuck)
   | _=>.stuck)
  | _,_=>.stuck)
 | none=>.stuck):=rfl
@[simp] theorem zty {f g h:SE}:sDPut f g h σ st=(h σ st).bind fun v st1=>(f σ st1).bind fun x st2=>(g σ st2).bind fun y st3=>(match x,keyOf y with
 | .ref n,some k=>(match st3[n]? with
  | some (.dT kvs)=>if kvs.length < sizeLine then .ok (.nx σ) (st3.set n (.dT (putD kvs k v))) else .stuck
  | _=>.stuck)
 | _,_=>.stuck):=rfl
theorem zbef {n np:Nat} {b:SS} {ds:List D}:fnD n np b ds st=if ds.length=np then (match b (ds.map some++List.replicate (n - np) none) st with
 | .ok (.ret v) st'=>.ok v st'
 | .ok (.nx _) st'=>.ok .non st'
 | .exc x st'=>.exc x st'
 | _=>.stuck) else .stuck:=rfl
end
section
variable {st:Store} {i j:Int}
@[simp] theorem oI_v {C:Int->Int->Prop} [DecidableRel C] {h:Int->Int->D}:oI C h (.int i) (.int j) st=if C i j then .ok (h i j) st else .stuck:=rfl
@[simp] theorem zzx:oAdd (.int i) (.int j) st=.ok (.int (i+j)) st:=rfl
@[simp] theorem zzw {a b:List D}:oAdd (.tup a) (.tup b) st=if a.length+b.length<=sizeLine then .ok (.tup (a++b)) st else .stuck:=rfl
@[simp] theorem zbdy:oLtT (.int i) (.int j) st=.ok (.bl (decide (i < j))) st:=rfl
@[simp] theorem zbdw:oNeg (.int i) st=.ok (.int (-i)) st:=rfl
@[simp] theorem zba (ns:List Int):asInts (ns.map .int)=some ns:=by
 induction ns with
 | nil=>rfl
 | cons n ns ih=>rw[xbw,asInts,ih];rfl
@[simp] theorem zyb (l:List (List Int)):asRows (rowsD l)=some l:=by
 induction l with
 | nil=>rfl
 | cons n ns ih =>
  unfold rowsD at ih ⊢;rw[xbw,asRows,zba,ih];rfl
@[simp] theorem zij (ns:List Int):keyOf (rowD ns)=some ns:=zba ns
theorem zft:dataOf st (.int i)=some (.int i):=rfl
@[simp] theorem zbea:oEq (.int i) (.int j) st=.ok (.bl (decide (i=j))) st:=by
 show oEqG false (.int i) (.int j) st=_;unfold oEqG;rw[zft,zft];dsimp only;rw[if_pos ⟨rfl,rfl⟩];show Res.ok (D.bl (i == j)) st=_;rw[show (i == j)=decide (i=j) from by rw[xgu];simp]
@[simp] theorem zbdx:oNe (.int i) (.int j) st=.ok (.bl (!decide (i=j))) st:=by
 show oEqG true (.int i) (.int j) st=_;unfold oEqG;rw[zft,zft];dsimp only;rw[if_pos ⟨rfl,rfl⟩];show Res.ok (D.bl (!(i == j))) st=_;rw[show (i == j)=decide (i=j) from by rw[xgu];simp]
theorem ziq (ns:List Int):toDatas (ns.map .int)=some (dI ns):=by
 induction ns with
 | nil=>rfl
 | cons n ns ih=>rw[xbw,toDatas,ih];rfl
theorem zoh (l:List (List Int)):toDatas (rowsD l)=some (l.map dRow):=by
 induction l with
 | nil=>rfl
 | cons n ns ih =>
  unfold rowsD at ih ⊢;rw[xbw,toDatas,ih,toData,ziq];rfl
abbrev sumD (l:List (List Int)):D:=.tup (rowsD l)
theorem zlt (l:List (List Int)):dataOf st (sumD l)=some (.tuple (l.map dRow)):=by
 show (toDatas (rowsD l)).map PyData.tuple=_;rw[zoh];rfl
theorem zvg {neg:Bool} (a b:List (List Int)):oEqG neg (sumD a) (sumD b) st=.ok (.bl (if neg then !decide (a=b) else decide (a=b))) st:=by
 unfold oEqG;rw[zlt,zlt];dsimp only;rw[if_pos ⟨zef a,zef b⟩];have e:PyData.eqv (.tuple (a.map dRow)) (.tuple (b.map dRow))=decide (a=b):=zit a b;rw[e]
theorem small (n:Nat) (h:n<=1000000):n<=sizeLine:=by rw[xgi];lia
theorem smallT (n:Nat) (h:n<=1000000):n < sizeLine:=by rw[xgi];lia
end
theorem zpp {bd:SG} {body:SS} (I:Nat->DS->Store->Prop):∀(xs:List D) (k:Nat) (σ:DS) (st:Store),I k σ st ->
  (∀i x σ st,xs[i]?=some x->I (k+i) σ st->∃σ1 σ2 st2,bd x σ=some σ1/\body σ1 st=.ok (.nx σ2) st2/\I (k+i+1) σ2 st2)->∃σ' st',forF bd body xs σ st=.ok (.nx σ') st'/\I (k+xs.length) σ' st'
 | [],k,σ,st,h,_=>⟨σ,st,rfl,h⟩
 | x::xs,k,σ,st,h,s=>by
  obtain ⟨σ1,σ2,st2,e1,e2,h2⟩:=s 0 x σ st rfl h;obtain ⟨σ',st',e3,h3⟩:=zpp I xs (k+1) σ2 st2 h2 fun i y σ st hy hi=>by
   have:=s (i+1) y σ st (by simpa using hy) (by rw[show k+(i+1)=k+1+i by lia];exact hi);rw[show k+(i+1)+1=k+1+i+1 by lia] at this;exact this
  refine ⟨σ',st',?_,by rw[xcb,show k+(xs.length+1)=k+1+xs.length by lia];exact h3⟩;unfold forF;rw[e1];dsimp only;rw[e2];exact e3
theorem zwa {bd:SG} {body:SS} (I:Nat->DS->Store->Prop) {xs:List D} {σ:DS} {st:Store} (h0:I 0 σ st)
  (s:∀i x σ st,xs[i]?=some x->I i σ st->∃σ1 σ2 st2,bd x σ=some σ1/\body σ1 st=.ok (.nx σ2) st2/\I (i+1) σ2 st2):∃σ' st',forF bd body xs σ st=.ok (.nx σ') st'/\I xs.length σ' st':=by
 have:=zpp I xs 0 σ st h0 fun i x σ st hx hi=>by
  rw[xdn] at hi ⊢;exact s i x σ st hx hi
 rw[xdn] at this;exact this
theorem zzc {lo:Int} {n i:Nat} {x:D} (h:(rng lo n)[i]?=some x):i < n/\x=.int (lo+i):=zge h
theorem zcc (lo:Int) (n:Nat):(rng lo n).length=n:=by simp[rng]
theorem zhp {bd:SG} {c:ST} {f:SE} (I:Nat->List D->DS->Store->Prop):∀(xs:List D) (k:Nat) (acc:List D) (σ:DS) (st:Store),I k acc σ st ->
  (∀i x acc σ st,xs[i]?=some x->I (k+i) acc σ st->∃σ1 b st1,bd x σ=some σ1/\c σ1 st=.ok b st1/\((b=false/\I (k+i+1) acc σ1 st1)\/(b=true/\∃y st2,f σ1 st1=.ok y st2/\I (k+i+1) (acc++[y]) σ1 st2))) ->
  ∃ys σ' st',compF bd c f xs σ st=.ok ys st'/\I (k+xs.length) (acc++ys) σ' st'
 | [],k,acc,σ,st,h,_=>⟨[],σ,st,rfl,by rw[xej];exact h⟩
 | x::xs,k,acc,σ,st,h,s=>by
  have s':∀i y acc σ st,xs[i]?=some y->I (k+1+i) acc σ st->∃σ1 b st1,bd y σ=some σ1/\c σ1 st=.ok b st1/\((b=false/\I (k+1+i+1) acc σ1 st1)\/(b=true/\∃z st2,f σ1 st1=.ok z st2/\I (k+1+i+1) (acc++[z]) σ1 st2)):=fun i y acc σ st hy hi=>by
   have:=s (i+1) y acc σ st (by simpa using hy) (by rw[show k+(i+1)=k+1+i by lia];exact hi);rw[show k+(i+1)+1=k+1+i+1 by lia] at this;exact this
  obtain ⟨σ1,b,st1,e1,e2,h2⟩:=s 0 x acc σ st rfl h;rcases h2 with ⟨rfl,h2⟩ | ⟨rfl,y,st2,e3,h2⟩
  ·obtain ⟨ys,σ',st',e4,h3⟩:=zhp I xs (k+1) acc σ1 st1 h2 s';refine ⟨ys,σ',st',?_,by rw[xcb,show k+(xs.length+1)=k+1+xs.length by lia];exact h3⟩;unfold compF;rw[e1];dsimp only;rw[e2];exact e4
  ·obtain ⟨ys,σ',st',e4,h3⟩:=zhp I xs (k+1) (acc++[y]) σ1 st2 h2 s';refine ⟨y::ys,σ',st',?_,by rw[xcb,show k+(xs.length+1)=k+1+xs.length by lia];rw[xcm] at h3;exact h3⟩;unfold compF;rw[e1];dsimp only;rw[e2];dsimp only [zdg];rw[if_pos rfl,e3];dsimp only [zdg];rw[e4]
   rfl
theorem zxj {bd:SG} {c:ST} {f:SE} (I:Nat->List D->DS->Store->Prop) {xs:List D} {σ:DS} {st:Store} (h0:I 0 [] σ st)
  (s:∀i x acc σ st,xs[i]?=some x->I i acc σ st->∃σ1 b st1,bd x σ=some σ1/\c σ1 st=.ok b st1/\((b=false/\I (i+1) acc σ1 st1)\/(b=true/\∃y st2,f σ1 st1=.ok y st2/\I (i+1) (acc++[y]) σ1 st2))) :
  ∃ys σ' st',compF bd c f xs σ st=.ok ys st'/\I xs.length ys σ' st':=by
 have:=zhp I xs 0 [] σ st h0 fun i x acc σ st hx hi=>by
  rw[xdn] at hi ⊢;exact s i x acc σ st hx hi
 rw[xdn] at this
 simpa using this
theorem zmp {c:ST} {body:SS} (I:Nat->DS->Store->Prop) (post:DS->Store->Prop) {σ:DS} {st:Store} {k:Nat} (h0:I k σ st) (hm:k < wCap)
  (s:∀j σ st,I j σ st->∃b st1,c σ st=.ok b st1/\((b=false/\post σ st1)\/(b=true/\∃i σ2 st2,body σ st1=.ok (.nx σ2) st2/\I i σ2 st2/\i < j))):∃σ' st',sWhile c body σ st=.ok (.nx σ') st'/\post σ' st':=by
 have main:∀n j σ st,I j σ st->j < n->∃σ' st',whileF c body n σ st=.ok (.nx σ') st'/\post σ' st':=by
  intro n
  induction n with
  | zero=>intro j σ st _ h;lia
  | succ n ih =>
   intro j σ st hI hlt;obtain ⟨b,st1,e1,h⟩:=s j σ st hI;unfold whileF;rw[e1];dsimp only [zdg];rcases h with ⟨rfl,h⟩ | ⟨rfl,i,σ2,st2,e2,h2,h3⟩
   ·exact ⟨σ,st1,by rw[if_neg (by decide)],h⟩
   ·obtain ⟨σ',st',e3,h4⟩:=ih i σ2 st2 h2 (by lia);refine ⟨σ',st',?_,h4⟩;rw[if_pos rfl,e2];exact e3
 exact main wCap k σ st h0 hm
section
variable {st:Store} {n:Nat} {xs:List D} {i:Int}
@[simp] theorem zyc:seqOf st (.tup xs)=some xs:=rfl
@[simp] theorem zyd:seqOf st (.scr xs)=some xs:=rfl
@[simp] theorem zye:seqOf st (.lst xs)=some xs:=rfl
@[simp] theorem zyu:seqV (.tup xs)=some xs:=rfl
@[simp] theorem zyw:seqV (.lst xs)=some xs:=rfl
@[simp] theorem zyv:seqV (.scr xs)=some xs:=rfl
@[simp] theorem zbdf:asL st (.lst xs)=some xs:=rfl
theorem zmf (h:st[n]?=some (.lst xs)):asL st (.ref n)=some xs:=by
 unfold asL;dsimp only;rw[h]
theorem zid (h:st[n]?=some (.lst xs)):seqOf st (.ref n)=some xs:=zmf h
theorem zjp {x:D} {d:D} (h:seqOf st x=some xs) (h2:L2.atI xs i=some d):oIx x (.int i) st=.ok d st:=by
 unfold oIx;rw[h];dsimp only;rw[h2]
@[simp] theorem zbcg:bLen [.tup xs] st=.ok (.int xs.length) st:=rfl
@[simp] theorem zbci:bLen [.lst xs] st=.ok (.int xs.length) st:=rfl
@[simp] theorem zbch:bLen [.scr xs] st=.ok (.int xs.length) st:=rfl
@[simp] theorem zbez:bAbs [.int i] st=.ok (.int (if i < 0 then -i else i)) st:=rfl
@[simp] theorem zbfc {g:Int->Int->Int} {j:Int}:b2I g [.int i,.int j] st=.ok (.int (g i j)) st:=rfl
@[simp] theorem zbcf {ns:List Int}:bSum [rowD ns] st=.ok (.int ns.sum) st:=by
 unfold bSum;simp
@[simp] theorem zxw:bTuple [.tup xs] st=.ok (.tup xs) st:=rfl
@[simp] theorem zmd:bTuple [.lst xs] st=.ok (.tup xs) st:=rfl
theorem zmc (h:st[n]?=some (.lst xs)):bTuple [.ref n] st=.ok (.tup xs) st:=by
 unfold bTuple;dsimp only;rw[zmf h]
theorem zht {l:List (List Int)} (h:l.length<=1000000):bSorted [.lst (rowsD l)] st=.ok (.lst (rowsD (sortR l))) st:=by
 unfold bSorted;simp[h]
theorem zgc {o:O} (h:n < st.length):(st.set n o)[n]?=some o:=xfu h
theorem zbk {o:O} (h:st[n]?=some o):n < st.length:=(xbn.mp h).1
theorem zyt {o:O} (h:st[n]?=some o):st.set n o=st:=by
 apply xij;intro i;by_cases e:i=n
 ·subst e;rw[xfu (zbk h),h]
 ·rw[xdt (xfc e)]
end
theorem zlo {n np:Nat} {b:SS} {ds:List D} {st st':Store} {v:D} (h:ds.length=np) (e:b (ds.map some++List.replicate (n - np) none) st=.ok (.ret v) st'):fnD n np b ds st=.ok v st':=by
 rw[zbef,if_pos h,e]
abbrev bagO (c x:Int):O:=.lst [.int c,.int x]
def BagAt (st:Store) (n:Nat):Prop:=∃c x:Int,st[n]?=some (bagO c x)/\0<=c/\0<=x
structure Drew (st st':Store) (n:Nat):Prop where
 len:st.length<=st'.length
 keep : ∀ i, i < st.length -> i ≠ n -> st'[i]? = st[i]?
 bag:BagAt st' n
theorem Drew.refl {st:Store} {n:Nat} (h:BagAt st n):Drew st st n:=⟨xbe _,fun _ _ _=>rfl,h⟩
theorem Drew.trans {st st1 st2:Store} {n:Nat} (a:Drew st st1 n) (b:Drew st1 st2 n):Drew st st2 n :=
 ⟨xbb a.len b.len,fun i h1 h2=>(b.keep i (xbf h1 a.len) h2).trans (a.keep i h1 h2),b.bag⟩
theorem Drew.set {st:Store} {n:Nat} {c x:Int} (h:BagAt st n) (hc:0<=c) (hx:0<=x):Drew st (st.set n (bagO c x)) n:=by
 obtain ⟨_,_,e,_⟩:=h;exact ⟨by rw[xfz];exact xbe _,fun i _ h2=>xdt (xfc h2),c,x,zgc (zbk e),hc,hx⟩
theorem Drew.more {st:Store} {n:Nat} (h:BagAt st n) (g:Store):Drew st (st++g) n:=by
 obtain ⟨c,x,e,h1,h2⟩:=h;exact ⟨by rw[xcd];lia,fun i h _=>xbx h,c,x,by rw[xbx (zbk e)];exact e,h1,h2⟩
theorem ztr {st:Store} {n:Nat} {m:Int} (hb:BagAt st n) (h1:1<=m) (h2:m < 2 ^ 1000) :
  ∃r st',zm [.ref n,.int m] st=.ok (.int r) st'/\0<=r/\r < m/\Drew st st' n/\st'.length=st.length:=by
 obtain ⟨c,x,hn,hc,hx⟩:=id hb;have s0:∀{c x:Int} {st:Store},st[n]?=some (bagO c x)->oIx (.ref n) (.int 0) st=.ok (.int c) st:=fun h=>zjp (zid h) rfl
 have s1:∀{c x:Int} {st:Store},st[n]?=some (bagO c x)->oIx (.ref n) (.int 1) st=.ok (.int x) st:=fun h=>zjp (zid h) rfl
 by_cases h0:0 < c
 ·have d1:CDivP c m:=⟨by lia,h2⟩
  have e0:ixN 2 0=some 0:=rfl;refine ⟨c % m,st.set n (bagO (c / m) x),zlo rfl ?_,xgz _ (by lia),xjx _ (by lia),Drew.set hb (Int.ediv_nonneg hc (by lia)) hx,xfz⟩;simp[s0 hn,h0,hn,e0,show (0:Int) < m by lia,d1]
 ·have hlen:=zbk hn
  have W:=zmp (c:=eB (eOp oLtT (eVar 4) (eVar 1))) (body:=sSeq (sSetIx (eVar 0) (eC (.int 1)) (eOp oMod (eOp oAdd (eOp oMulI (eOp oIx (eVar 0) (eC (.int 1))) (eC (.int 48271))) (eC (.int 7919))) (eC (.int 2147483647))))
   (sSeq (sSet 3 (eOp oAdd (eOp oMulI (eVar 3) (eC (.int 1073741789))) (eOp oMod (eOp oMulI (eOp oFdiv (eOp oIx (eVar 0) (eC (.int 1))) (eC (.int 8))) (eC (.int 69621))) (eC (.int 1073741789)))))
   (sSet 4 (eOp oMulI (eVar 4) (eC (.int 1073741789)))))) (k:=1000) (σ:=[some (.ref n),some (.int m),none,some (.int 0),some (.int 1)]) (st:=st)
   (fun j σ s=>∃c' x' nn rr:Int,σ=[some (.ref n),some (.int m),none,some (.int nn),some (.int rr)]/\s=st.set n (bagO c' x')/\0<=c'/\0<=x'/\0<=nn/\j<=1000/\2 ^ (1000 - j)<=rr)
   (fun σ s=>∃c' x' nn:Int,(∃rr,σ=[some (.ref n),some (.int m),none,some (.int nn),some (.int rr)])/\s=st.set n (bagO c' x')/\0<=c'/\0<=x'/\0<=nn)
   ⟨c,x,0,1,rfl,(zyt hn).symm,hc,hx,by lia,by lia,by decide⟩ (by decide) (by
    rintro j σ s ⟨c',x',nn,rr,rfl,rfl,a1,a2,a3,a4,a5⟩;have g1:(st.set n (bagO c' x'))[n]?=some (bagO c' x'):=zgc hlen;by_cases hlt:rr < m
    ·have hj:1<=j:=by
      rcases xhy j with z | z
      ·subst z;have a5':(2:Int) ^ 1000<=rr:=a5;lia
      ·exact z
     have e1:ixN 2 1=some 1:=rfl;have m1:CMul x' 48271:=.inr ⟨by decide,by decide⟩;have m2:CMul nn 1073741789:=.inr ⟨by decide,by decide⟩;have m3:CMul rr 1073741789:=.inr ⟨by decide,by decide⟩;have g2:∀y:Int,(st.set n (bagO c' y))[n]?=some (bagO c' y):=fun y=>zgc hlen
     have m4:∀y:Int,CMul y 69621:=fun y=>.inr ⟨by decide,by decide⟩
     have d8:∀y:Int,CDivP y 8:=fun y=>⟨by decide,by decide +kernel⟩
     refine ⟨true,st.set n (bagO c' x'),by simp[hlt],.inr ⟨rfl,j - 1,_,st.set n (bagO c' ((x' * 48271+7919) % 2147483647)),?_,⟨c',(x' * 48271+7919) % 2147483647,nn * 1073741789+(x' * 48271+7919) % 2147483647 / 8 * 69621 % 1073741789,rr * 1073741789,rfl,rfl,a1,?_,?_,by lia,?_⟩,by lia⟩⟩
     ·simp[s1 g1,g1,e1,m1,m2,m3,m4,d8,s1 (g2 _)]
     ·exact xgz _ (by lia)
     ·have a1:0<=nn * 1073741789:=Int.mul_nonneg a3 (by lia);have a2:=xgz ((x' * 48271+7919) % 2147483647 / 8 * 69621) (show (1073741789:Int)≠0 by lia);lia
     ·have e:(2:Int) ^ (1000 - (j - 1))=2 ^ (1000 - j) * 2:=by
       rw[← Int.pow_succ];congr 1;lia
      rw[e];have hp:(0:Int)<=2 ^ (1000 - j):=Int.pow_nonneg (by decide);lia
    ·exact ⟨false,_,by simp[hlt],.inl ⟨rfl,c',x',nn,⟨rr,rfl⟩,rfl,a1,a2,a3⟩⟩)
  obtain ⟨σ',st',e,c',x',nn,hσ,hst,k1,k2,k3⟩:=W;obtain ⟨rr,rfl⟩:=hσ;subst hst;refine ⟨nn % m,st.set n (bagO c' x'),zlo rfl ?_,xgz _ (by lia),xjx _ (by lia),Drew.set hb k1 k2,xfz⟩;simp[s0 hn,h0,e,show (0:Int) < m by lia]
theorem zgz {ns:List Int} {j:Nat} (h:j < ns.length):L2.atI (ns.map D.int) (j:Int)=some (.int ns[j]):=zya (by rw[xcl,xbg h];rfl)
theorem zbce {st:Store} {ns:List Int} {i:Nat} (hl:ns.length<=63) (hi:i<=100000):∃c x:Int,0<=c/\0<=x/\zcl [.scr (ns.map .int),.int i] st=.ok (.ref st.length) (st++[bagO c x]):=by
 have cell:∃c:Int,0<=c/\sIf (eB (eOp oLtT (eVar 1) (eCall bLen (aCons (eVar 0) aNil)))) (sSet 2 (eCall bAbs (aCons (eOp oIx (eVar 0) (eVar 1)) aNil))) sNx [some (.scr (ns.map .int)),some (.int i),some (.int 0),none,none] st
   = .ok (.nx [some (.scr (ns.map .int)),some (.int i),some (.int c),none,none]) st:=by
  by_cases h:i < ns.length
  ·have e:oIx (.scr (ns.map .int)) (.int i) st=.ok (.int ns[i]) st:=zjp rfl (zgz h);refine ⟨if ns[i] < 0 then -ns[i] else ns[i],by split<;>lia,?_⟩;simp[h,e]
  ·exact ⟨0,by lia,by simp[h]⟩
 obtain ⟨c,hc,ec⟩:=cell;have hmin:(if (60:Int) < (ns.length:Int) then (60:Int) else ns.length).toNat<=ns.length:=by split<;>lia
 have W:=zwa (bd:=gN 4) (body:=sSet 3 (eOp oMod (eOp oAdd (eOp oAdd (eOp oMulI (eVar 3) (eC (.int 48271))) (eOp oMod (eOp oIx (eVar 0) (eVar 4)) (eC (.int 2147483647)))) (eVar 4)) (eC (.int 2147483629))))
  (xs:=rng 0 (if (60:Int) < (ns.length:Int) then (60:Int) else ns.length).toNat) (σ:=[some (.scr (ns.map .int)),some (.int i),some (.int c),some (.int (7919 * i+17)),none]) (st:=st)
  (fun j σ s=>s=st/\∃(mix:Int) (v:Option D),σ=[some (.scr (ns.map .int)),some (.int i),some (.int c),some (.int mix),v]/\0<=mix) ⟨rfl,_,none,rfl,by lia⟩ (by
   rintro j x σ s hx ⟨rfl,mix,v,rfl,hm⟩;obtain ⟨hj,rfl⟩:=zzc hx;have hj2:j < ns.length:=by lia
   have e:oIx (.scr (ns.map .int)) (.int (0+j)) s=.ok (.int ns[j]) s:=zjp rfl (by rw[xjk];exact zgz hj2);rw[xjk] at e;have m1:CMul mix 48271:=.inr ⟨by decide,by decide⟩;refine ⟨_,[some (.scr (ns.map .int)),some (.int i),some (.int c),some (.int ((mix * 48271+ns[j] % 2147483647+j) % 2147483629)),some (.int (0+j))],s,rfl,?_,rfl,_,_,rfl,xgz _ (by lia)⟩
   simp[e,m1])
 obtain ⟨σ',st',e,rfl,mix,v,rfl,hm⟩:=W;have m0:CMul 7919 (i:Int):=.inl ⟨by decide,by decide⟩;have p0:CPow 10 18:=⟨by decide,by decide,by decide⟩
 have hr:RngOk (if (60:Int) < (ns.length:Int) then (60:Int) else ns.length):=by
  split<;>exact rngOk (by lia) (by lia)
 by_cases hlt:c < 1000000000000000000
 ·refine ⟨0,mix,by lia,hm,zlo rfl ?_⟩;have hs:=small 2 (by lia);simp at ec;simp[ec,m0,hr,e,p0,hlt,hs]
 ·refine ⟨c,mix,hc,hm,zlo rfl ?_⟩;have hs:=small 2 (by lia);simp at ec;simp[ec,m0,hr,e,p0,hlt,hs]
theorem seqN {s t:SS} {σ σ1:DS} {st st1:Store} {r:Res Fl} (h:s σ st=.ok (.nx σ1) st1) (k:t σ1 st1=r):sSeq s t σ st=r:=by
 rw[zyx,h];exact k
def flipL (ks:List (List Int)) (k:List Int):List (List Int):=if k∈ks then ks.filter (fun x=>decide (x≠k)) else ks++[k]
def oddL (l:List (List Int)):List (List Int):=l.foldl flipL []
theorem zdl {ks:List (List Int)} {k x:List Int}:x∈flipL ks k↔(x∈ks/\x≠k)\/(x=k/\k∉ks):=by
 unfold flipL;split
 ·rename_i h;simp[xew,h]
 ·rename_i h;simp only[xca,xcf];constructor
  ·rintro (z | rfl)
   ·exact .inl ⟨z,fun e=>h (e ▸ z)⟩
   ·exact .inr ⟨rfl,h⟩
  ·rintro (⟨z,_⟩ | ⟨z,_⟩)
   ·exact .inl z
   ·exact .inr z
theorem zjs {ks:List (List Int)} {k:List Int} (h:ks.Nodup):(flipL ks k).Nodup:=by
 unfold flipL;split
 ·exact h.filter _
 ·rename_i hk;rw[List.nodup_append];exact ⟨h,by simp,fun a ha b hb=>by simp at hb;subst hb;exact fun e=>hk (e ▸ ha)⟩
theorem zhn (ks:List (List Int)) (k:List Int):(flipL ks k).length<=ks.length+1:=by
 unfold flipL;split
 ·exact xfn (xjd _ _)
 ·simp
theorem zig:∀(l ks:List (List Int)),ks.Nodup->(l.foldl flipL ks).Nodup/\(l.foldl flipL ks).length<=ks.length+l.length/\∀x,x∈l.foldl flipL ks↔(l.count x+if x∈ks then 1 else 0) % 2=1
 | [],ks,h=>⟨h,by simp,fun x=>by by_cases e:x∈ks<;>simp[e]⟩
 | a::l,ks,h=>by
  obtain ⟨h1,h2,h3⟩:=zig l (flipL ks a) (zjs h);refine ⟨h1,?_,fun x=>?_⟩
  ·have:=zhn ks a;rw[xjj,xcb];lia
  ·rw[xjj,h3 x,List.count_cons];by_cases e:x=a
   ·subst e;by_cases k:x∈ks
    ·have q:x∉flipL ks x:=by rw[zdl];simp[k]
     simp only[q,k,xet,xfl,xeo]<;>lia
    ·have q:x∈flipL ks x:=by rw[zdl];simp[k]
     simp only[q,k,xet,xfl,xeo]<;>lia
   ·have e':(a == x)=false:=by simpa using fun z:a=x=>e z.symm
    by_cases k:x∈ks
    ·have q:x∈flipL ks a:=by rw[zdl];simp[k,e]
     simp[q,k,e']
    ·have q:x∉flipL ks a:=by rw[zdl];simp[k,e]
     simp[q,k,e']
theorem zgg (l:List (List Int)):(oddL l).Nodup:=(zig l [] xft).1
theorem zjo (l:List (List Int)):(oddL l).length<=l.length:=by have:=(zig l [] xft).2.1;simpa [oddL] using this
theorem zkw {l:List (List Int)} {x:List Int}:x∈oddL l↔l.count x % 2=1:=by have:=(zig l [] xft).2.2 x;simpa [oddL] using this
theorem zjh {a b:List (List Int)} (h1:a.Nodup) (h2:b.Nodup) (h:∀x,x∈a↔x∈b):a.Perm b:=(xhs h1 h2).mpr h
theorem zjf {a b:List (List Int)} (h:a.Perm b):sortR a=sortR b:=zhd ((zbq a).trans h) (zfg a)
def oddS (l:List (List Int)):List (List Int):=sortR (oddL l)
theorem zvf {l m:List (List Int)} (h1:m.Nodup) (h:∀x,x∈m↔l.count x % 2=1):sortR m=oddS l:=zjf (zjh h1 (zgg l) fun x=>by rw[h,zkw])
theorem zre {l:List (List Int)} {x:List Int}:x∈oddS l↔l.count x % 2=1:=by unfold oddS;rw[(zbq _).mem_iff,zkw]
theorem zhl {l:List (List Int)} {x:List Int} (h:x∈oddS l):x∈l:=by
 rw[zre] at h;rcases xhy (l.count x) with z | z
 ·rw[z] at h;cases h
 ·exact List.count_pos_iff.mp z
theorem zjn (l:List (List Int)):(oddS l).length<=l.length:=by unfold oddS;rw[zhe];exact zjo l
theorem zkv (l:List (List Int)):(oddS l).Nodup:=(zbq _).nodup_iff.mpr (zgg l)
theorem zqy {st:Store} {n:Nat} {kvs:List (List Int × D)} (h:st[n]?=some (.dT kvs)):pairsOf st (.ref n)=some kvs:=by
 unfold pairsOf;dsimp only;rw[h]
theorem zqx {st:Store} {n:Nat} {kvs:List (List Int × D)} (h:st[n]?=some (.fT kvs)):pairsOf st (.ref n)=some kvs:=by
 unfold pairsOf;dsimp only;rw[h]
theorem zrg {st:Store} {n:Nat} {kvs:List (List Int × D)} {k:List Int} {v:D} (h:pairsOf st (.ref n)=some kvs) (hv:valD kvs k=some v):oDGet (.ref n) (rowD k) st=.ok v st:=by
 unfold oDGet;rw[zij,h];dsimp only;rw[hv]
abbrev cntD (cs:List (List Int × Int)):List (List Int × D):=cs.map fun p=>(p.1,.int p.2)
structure Cnt (cs:List (List Int × Int)) (l:List (List Int)):Prop where
 nd:(cs.map (·.1)).Nodup
 mem:∀k,k∈cs.map (·.1)↔k∈l
 val:∀p∈cs,p.2=(l.count p.1:Nat)
 len:cs.length<=l.length
theorem zxm {cs:List (List Int × Int)} {l:List (List Int)} (h:Cnt cs l) (k:List Int):valD (cntD cs) k=if k∈l then some (.int (l.count k:Nat)) else none:=by
 have gen:∀cs:List (List Int × Int),(∀p∈cs,p.2=(l.count p.1:Nat))->valD (cntD cs) k=if k∈cs.map (·.1) then some (.int (l.count k:Nat)) else none:=by
  intro cs
  induction cs with
  | nil=>intro _;rfl
  | cons a cs ih =>
   intro hv;have ih:=ih fun p hp=>hv p (xbu _ hp)
   unfold valD cntD at ih ⊢;rw[xbw,xex];by_cases e:a.1=k
   ·have:=hv a xbz;simp only[e,xhf,Option.map_some,xbw,xbo,true_or,xet];rw[this,e]
   ·simp only[xct e];rw[ih];simp only[xbw,xbo,show ¬ k=a.1 from fun z=>e z.symm,false_or]
 rw[gen cs h.val];simp only[h.mem]
theorem zxl {cs:List (List Int × Int)} {l:List (List Int)} (h:Cnt cs l) (k:List Int):∃cs',putD (cntD cs) k (.int ((l.count k:Nat)+1))=cntD cs'/\Cnt cs' (l++[k]):=by
 have any:((cntD cs).any fun kv=>decide (kv.1=k))=decide (k∈l):=by
  rw[xgu,xkm,← h.mem,List.any_eq_true,xcp];constructor
  ·rintro ⟨x,hx,e⟩;obtain ⟨p,hp,rfl⟩:=xcp.mp hx;exact ⟨p,hp,by simpa using e⟩
  ·rintro ⟨p,hp,e⟩;exact ⟨_,xcp.mpr ⟨p,hp,rfl⟩,by simpa using e⟩
 unfold putD;rw[any];by_cases hk:k∈l
 ·rw[if_pos (by simpa using hk)];refine ⟨cs.map fun p=>if p.1=k then (p.1,p.2+1) else p,?_,?_,fun x=>?_,fun p hp=>?_,?_⟩
  ·unfold cntD;rw[xdc,xdc];apply xhu;intro p hp;have:=h.val p hp;dsimp only [Function.comp];by_cases e:p.1=k
   ·rw[if_pos e,if_pos e];dsimp only;rw[this,e]
   ·rw[if_neg e,if_neg e]
  ·rw[xdc];have:(((fun x:List Int × Int=>x.1) ∘ fun p:List Int × Int=>if p.1=k then (p.1,p.2+1) else p))=fun p=>p.1:=by
    funext p
    dsimp only [Function.comp];split<;>rfl
   rw[this];exact h.nd
  ·rw[xdc];have:(((fun x:List Int × Int=>x.1) ∘ fun p:List Int × Int=>if p.1=k then (p.1,p.2+1) else p))=fun p=>p.1:=by
    funext p
    dsimp only [Function.comp];split<;>rfl
   rw[this,h.mem,xca,xcf];constructor
   ·exact .inl
   ·rintro (z | rfl)
    ·exact z
    ·exact hk
  ·obtain ⟨q,hq,rfl⟩:=xcp.mp hp;have:=h.val q hq;by_cases e:q.1=k
   ·rw[if_pos e];dsimp only;rw[this,e,xik];simp
   ·rw[if_neg e,this,xik];have:List.count q.1 [k]=0:=by rw[xha];simpa using e
    rw[this];rfl
  ·rw[xbd,xcd];have:=h.len;lia
 ·rw[if_neg (by simpa using hk)];refine ⟨cs++[(k,1)],?_,?_,fun x=>?_,fun p hp=>?_,?_⟩
  ·rw[xha.mpr hk];simp[cntD]
  ·rw[xgc,List.nodup_append];refine ⟨h.nd,by simp,fun a ha b hb=>?_⟩;simp at hb;subst hb;exact fun e=>hk ((h.mem _).mp (e ▸ ha))
  ·rw[xgc,xca,h.mem,xca];simp
  ·rcases xca.mp hp with hp | hp
   ·have e1:=h.val p hp;have e2:p.1≠k:=fun e=>hk ((h.mem _).mp (e ▸ xcp.mpr ⟨p,hp,rfl⟩))
    rw[e1,xik];have:List.count p.1 [k]=0:=by rw[xha];simpa using e2
    rw[this];rfl
   ·simp at hp;subst hp;rw[xik,xha.mpr hk];simp
  ·rw[xcd,xcd];have:=h.len;simp;exact this
theorem zfi {l:List (List Int)} {i:Nat} {x:D} (h:(rowsD l)[i]?=some x):∃k,l[i]?=some k/\x=rowD k:=by
 unfold rowsD at h;rw[xcl] at h;cases e:l[i]? with
 | none=>rw[e] at h;cases h
 | some k=>rw[e] at h;exact ⟨k,rfl,(xck h).symm⟩
theorem zn (l:List (List Int)):(rowsD l).length=l.length:=xbd _
theorem zcr {α:Type} {l:List α} {i:Nat} {k:α} (h:l[i]?=some k):l.take (i+1)=l.take i++[k]:=by
 obtain ⟨hi,e⟩:=xbn.mp h;rw[xgl hi,e]
end Dd
namespace K07
open PySem L2
end K07
namespace K23
open PySem L2 K07
end K23
namespace Dd
open PySem L2 K07 K23
def slowAt (r:List Int) (p:Nat):Prop:=∃a b:Int,r[p]?=some a/\r[p+1]?=some b/\a < 2 * b
instance (r:List Int) (p:Nat):Decidable (slowAt r p) :=
 match h1:r[p]?,h2:r[p+1]? with
 | some a,some b=>if h:a < 2 * b then .isTrue ⟨a,b,h1,h2,h⟩ else .isFalse fun ⟨x,y,e1,e2,e3⟩=>by rw[h1] at e1;rw[h2] at e2;cases e1;cases e2;exact h e3
 | none,_=>.isFalse fun ⟨x,y,e1,_⟩=>by rw[h1] at e1;cases e1
 | some _,none=>.isFalse fun ⟨x,y,_,e2,_⟩=>by rw[h2] at e2;cases e2
theorem rngN {j:Int} (h1:-10000<=j) (h2:j<=10000):RngOk j:=rngOk (by lia) (by lia)
theorem Drew.over {st s:Store} {n k:Nat} {o:O} (d:Drew st s n) (hn:n < st.length) (hk:st.length<=k):Drew st (s.set k o) n:=by
 obtain ⟨c,x,eb,c0,x0⟩:=d.bag;exact ⟨by rw[xfz];exact d.len,fun i h1 h2=>by rw[xdt (by lia)];exact d.keep i h1 h2,c,x,by rw[xdt (by lia)];exact eb,c0,x0⟩
theorem zsv (xs:List D) (y:D):L2.atI (xs++[y]) (-1)=some y:=by
 unfold L2.atI ixN;rw[xcd];have e:((-1:Int)+((xs.length+[y].length:Nat):Int)).toNat=xs.length:=by simp;lia
 rw[if_neg (by lia),if_pos (by simp;lia),e];simp
end Dd
namespace Dd
open PySem L2
def WP {α:Type} (r:Res α) (Q:α->Store->Prop):Prop:=match r with
 | .ok a st=>Q a st
 | _=>False
theorem WP.get {α:Type} {r:Res α} {Q:α->Store->Prop} (h:WP r Q):∃a st,r=.ok a st/\Q a st:=by
 cases r with
 | ok a st=>exact ⟨a,st,rfl,h⟩
 | exc x st=>exact h.elim
 | stuck=>exact h.elim
theorem WP.of {α:Type} {r:Res α} {Q:α->Store->Prop} {a:α} {st:Store} (e:r=.ok a st) (h:Q a st):WP r Q:=by rw[e];exact h
theorem WP.mono {α:Type} {r:Res α} {Q Q':α->Store->Prop} (h:WP r Q) (k:∀a st,Q a st->Q' a st):WP r Q':=by
 obtain ⟨a,st,rfl,q⟩:=h.get;exact k a st q
theorem zf {α β:Type} {r:Res α} {f:α->Store->Res β} {Q:β->Store->Prop}:WP (r.bind f) Q=WP r (fun a st=>WP (f a st) Q):=by
 cases r<;>rfl
def seqK (t:SS) (Q:Fl->Store->Prop):Fl->Store->Prop:=fun fl st=>match fl with
 | .nx σ=>WP (t σ st) Q
 | fl=>Q fl st
theorem ztg {s t:SS} {σ:DS} {st:Store} {Q:Fl->Store->Prop}:WP (sSeq s t σ st) Q=WP (s σ st) (seqK t Q):=by
 unfold sSeq;cases s σ st with
 | ok fl st1=>cases fl<;>rfl
 | exc x st=>rfl
 | stuck=>rfl
theorem zmn {α:Type} {c:Prop} [Decidable c] {a b:Res α} {Q:α->Store->Prop}:WP (if c then a else b) Q=if c then WP a Q else WP b Q:=by
 split<;>rfl
theorem zha {α:Type} {c:Prop} [Decidable c] {a:Res α} {Q:α->Store->Prop}:WP (if c then a else .stuck) Q=(c/\WP a Q):=by
 by_cases h:c
 ·rw[if_pos h];simp[h]
 ·rw[if_neg h];simp[h,WP]
def retK (Q:D->Store->Prop):Fl->Store->Prop:=fun fl st=>match fl with
 | .ret v=>Q v st
 | .nx _=>Q .non st
 | _=>False
theorem zth {n np:Nat} {b:SS} {ds:List D} {st:Store} {Q:D->Store->Prop} (h:ds.length=np) (k:WP (b (ds.map some++List.replicate (n - np) none) st) (retK Q)):WP (fnD n np b ds st) Q:=by
 obtain ⟨fl,st',e,q⟩:=k.get;unfold fnD;rw[if_pos h,e];cases fl<;>first | exact q | exact q.elim
def bK (Q:Bool->Store->Prop):D->Store->Prop:=fun v st=>match v with
 | .bl b=>Q b st
 | _=>False
def gK (bd:SG) (Q:Fl->Store->Prop) (σ:DS):D->Store->Prop:=fun v st=>match bd v σ with
 | some σ1=>Q (.nx σ1) st
 | none=>False
theorem W:(∀{α:Type} {a:α} {st:Store} {Q:α->Store->Prop},WP (.ok a st) Q=Q a st)
 /\ (∀{s t:SS} {σ:DS} {st:Store} {Q:Fl->Store->Prop},WP (sSeq s t σ st) Q=WP (s σ st) (seqK t Q))
 /\ (∀{t:SS} {σ:DS} {st:Store} {Q:Fl->Store->Prop},seqK t Q (.nx σ) st=WP (t σ st) Q)
 /\ (∀{t:SS} {v:D} {st:Store} {Q:Fl->Store->Prop},seqK t Q (.ret v) st=Q (.ret v) st)
 /\ (∀{t:SS} {σ:DS} {st:Store} {Q:Fl->Store->Prop},seqK t Q (.brk σ) st=Q (.brk σ) st)
 /\ (∀{t:SS} {σ:DS} {st:Store} {Q:Fl->Store->Prop},seqK t Q (.ct σ) st=Q (.ct σ) st)
 /\ (∀{v:D} {st:Store} {Q:D->Store->Prop},retK Q (.ret v) st=Q v st)
 /\ (∀{σ:DS} {st:Store} {Q:D->Store->Prop},retK Q (.nx σ) st=Q .non st)
 /\ (∀{b:Bool} {st:Store} {Q:Bool->Store->Prop},bK Q (.bl b) st=Q b st)
 /\ (∀{d:D} {σ:DS} {st:Store} {Q:D->Store->Prop},WP (eC d σ st) Q=Q d st)
 /\ (∀{g:D->D->Store->Res D} {f f':SE} {σ:DS} {st:Store} {Q:D->Store->Prop},WP (eOp g f f' σ st) Q=WP (f σ st) (fun x st1=>WP (f' σ st1) (fun y st2=>WP (g x y st2) Q)))
 /\ (∀{g:D->Store->Res D} {f:SE} {σ:DS} {st:Store} {Q:D->Store->Prop},WP (eUn g f σ st) Q=WP (f σ st) (fun x st1=>WP (g x st1) Q))
 /\ (∀{g:List D->Store->Res D} {f:SA} {σ:DS} {st:Store} {Q:D->Store->Prop},WP (eCall g f σ st) Q=WP (f σ st) (fun x st1=>WP (g x st1) Q))
 /\ (∀{σ:DS} {st:Store} {Q:List D->Store->Prop},WP (aNil σ st) Q=Q [] st)
 /\ (∀{f:SE} {g:SA} {σ:DS} {st:Store} {Q:List D->Store->Prop},WP (aCons f g σ st) Q=WP (f σ st) (fun x st1=>WP (g σ st1) (fun xs st2=>Q (x::xs) st2)))
 /\ (∀{f:SE} {σ:DS} {st:Store} {Q:Bool->Store->Prop},WP (eB f σ st) Q=WP (f σ st) (bK Q))
 /\ (∀{f f':ST} {σ:DS} {st:Store} {Q:Bool->Store->Prop},WP (bAnd f f' σ st) Q=WP (f σ st) (fun b st1=>if b=true then WP (f' σ st1) Q else Q false st1))
 /\ (∀{f f':ST} {σ:DS} {st:Store} {Q:Bool->Store->Prop},WP (bOr f f' σ st) Q=WP (f σ st) (fun b st1=>if b=true then Q true st1 else WP (f' σ st1) Q))
 /\ (∀{f:ST} {σ:DS} {st:Store} {Q:Bool->Store->Prop},WP (bNot f σ st) Q=WP (f σ st) (fun b st1=>Q (!b) st1))
 /\ (∀{σ:DS} {st:Store} {Q:Bool->Store->Prop},WP (bYes σ st) Q=Q true st)
 /\ (∀{f f':SE} {σ:DS} {st:Store} {Q:D->Store->Prop},WP (eAnd f f' σ st) Q=WP (f σ st) (bK fun b st1=>if b=true then WP (f' σ st1) Q else Q (.bl false) st1))
 /\ (∀{f f':SE} {σ:DS} {st:Store} {Q:D->Store->Prop},WP (eOr f f' σ st) Q=WP (f σ st) (bK fun b st1=>if b=true then Q (.bl true) st1 else WP (f' σ st1) Q))
 /\ (∀{f:SE} {σ:DS} {st:Store} {Q:D->Store->Prop},WP (eNot f σ st) Q=WP (f σ st) (bK fun b st1=>Q (.bl (!b)) st1))
 /\ (∀{c:ST} {f f':SE} {σ:DS} {st:Store} {Q:D->Store->Prop},WP (eIf c f f' σ st) Q=WP (c σ st) (fun b st1=>if b=true then WP (f σ st1) Q else WP (f' σ st1) Q))
 /\ (∀{g:SA} {σ:DS} {st:Store} {Q:D->Store->Prop},WP (eTup g σ st) Q=WP (g σ st) (fun xs st1=>xs.length<=sizeLine/\Q (.tup xs) st1))
 /\ (∀{g:SA} {σ:DS} {st:Store} {Q:D->Store->Prop},WP (eLst g σ st) Q=WP (g σ st) (fun xs st1=>xs.length<=sizeLine/\Q (.lst xs) st1))
 /\ (∀{g:SA} {σ:DS} {st:Store} {Q:D->Store->Prop},WP (eLstM g σ st) Q=WP (g σ st) (fun xs st1=>xs.length<=sizeLine/\Q (.ref st1.length) (st1++[.lst xs])))
 /\ (∀{σ:DS} {st:Store} {Q:D->Store->Prop},WP (eDNew σ st) Q=Q (.ref st.length) (st++[.dT []]))
 /\ (∀{σ:DS} {st:Store} {Q:Fl->Store->Prop},WP (sNx σ st) Q=Q (.nx σ) st)
 /\ (∀{σ:DS} {st:Store} {Q:Fl->Store->Prop},WP (sBrk σ st) Q=Q (.brk σ) st)
 /\ (∀{σ:DS} {st:Store} {Q:Fl->Store->Prop},WP (sCt σ st) Q=Q (.ct σ) st)
 /\ (∀{σ:DS} {st:Store} {Q:Fl->Store->Prop},WP (sRetN σ st) Q=Q (.ret .non) st)
 /\ (∀{f:SE} {σ:DS} {st:Store} {Q:Fl->Store->Prop},WP (sRet f σ st) Q=WP (f σ st) (fun v st1=>Q (.ret v) st1))
 /\ (∀{f:SE} {σ:DS} {st:Store} {Q:Fl->Store->Prop},WP (sDrop f σ st) Q=WP (f σ st) (fun _ st1=>Q (.nx σ) st1))
 /\ (∀{i:Nat} {f:SE} {σ:DS} {st:Store} {Q:Fl->Store->Prop},WP (sSet i f σ st) Q=WP (f σ st) (fun v st1=>Q (.nx (σ.set i (some v))) st1))
 /\ (∀{bd:SG} {f:SE} {σ:DS} {st:Store} {Q:Fl->Store->Prop},WP (sSetG bd f σ st) Q=WP (f σ st) (gK bd Q σ))
 /\ (∀{c:ST} {s t:SS} {σ:DS} {st:Store} {Q:Fl->Store->Prop},WP (sIf c s t σ st) Q=WP (c σ st) (fun b st1=>if b=true then WP (s σ st1) Q else WP (t σ st1) Q))
 /\ (∀{it:SA} {bd:SG} {body:SS} {σ:DS} {st:Store} {Q:Fl->Store->Prop},WP (sFor it bd body σ st) Q=WP (it σ st) (fun xs st1=>WP (forF bd body xs σ st1) Q))
 /\ (∀{it:SA} {k:Nat} {is:List Nat} {bd:SG} {c:ST} {f:SE} {σ:DS} {st:Store} {Q:D->Store->Prop},WP (eComp it k is bd c f σ st) Q=WP (it σ st) (fun xs st1=>xs.length<=sizeLine/\WP (compF bd c f xs (startD k is σ) st1) (fun ys st2=>Q (.lst ys) st2)))
 /\ (∀{it:SA} {k:Nat} {is:List Nat} {bd:SG} {c:ST} {f:SE} {σ:DS} {st:Store} {Q:D->Store->Prop},WP (eCompM it k is bd c f σ st) Q=WP (it σ st) (fun xs st1=>xs.length<=sizeLine/\WP (compF bd c f xs (startD k is σ) st1) (fun ys st2=>Q (.ref st2.length) (st2++[.lst ys]))))
 /\ (∀{C:Int->Int->Prop} [DecidableRel C] {h:Int->Int->D} {i j:Int} {st:Store} {Q:D->Store->Prop},WP (oI C h (.int i) (.int j) st) Q=(C i j/\Q (h i j) st))
 /\ (∀{i j:Int} {st:Store} {Q:D->Store->Prop},WP (oAdd (.int i) (.int j) st) Q=Q (.int (i+j)) st)
 /\ (∀{a b:List D} {st:Store} {Q:D->Store->Prop},WP (oAdd (.tup a) (.tup b) st) Q=(a.length+b.length<=sizeLine/\Q (.tup (a++b)) st))
 /\ (∀{i j:Int} {st:Store} {Q:D->Store->Prop},WP (oLtT (.int i) (.int j) st) Q=Q (.bl (decide (i < j))) st)
 /\ (∀{i j:Int} {st:Store} {Q:D->Store->Prop},WP (oEqG false (.int i) (.int j) st) Q=Q (.bl (decide (i=j))) st)
 /\ (∀{i j:Int} {st:Store} {Q:D->Store->Prop},WP (oEqG true (.int i) (.int j) st) Q=Q (.bl (!decide (i=j))) st)
 /\ (∀{i:Int} {st:Store} {Q:D->Store->Prop},WP (oNeg (.int i) st) Q=Q (.int (-i)) st)
 /\ (∀{i j:Int} {g:Int->Int->Int} {st:Store} {Q:D->Store->Prop},WP (b2I g [.int i,.int j] st) Q=Q (.int (g i j)) st)
 /\ (∀{i:Int} {st:Store} {Q:D->Store->Prop},WP (bAbs [.int i] st) Q=Q (.int (if i < 0 then -i else i)) st)
 /\ (∀{b:Bool} {st:Store} {Q:D->Store->Prop},WP (bInt [.bl b] st) Q=Q (.int (if b=true then 1 else 0)) st)
 /\ (∀{xs:List D} {st:Store} {Q:D->Store->Prop},WP (bLen [.tup xs] st) Q=Q (.int xs.length) st)
 /\ (∀{xs:List D} {st:Store} {Q:D->Store->Prop},WP (bLen [.lst xs] st) Q=Q (.int xs.length) st)
 /\ (∀{xs:List D} {st:Store} {Q:D->Store->Prop},WP (bLen [.scr xs] st) Q=Q (.int xs.length) st)
 /\ (∀{xs:List D} {st:Store} {Q:D->Store->Prop},WP (bTuple [.tup xs] st) Q=Q (.tup xs) st)
 /\ (∀{xs:List D} {st:Store} {Q:D->Store->Prop},WP (bTuple [.lst xs] st) Q=Q (.tup xs) st)
 /\ (∀{xs:List D} {st:Store} {Q:D->Store->Prop},WP (bList [.tup xs] st) Q=Q (.lst xs) st)
 /\ (∀{xs:List D} {st:Store} {Q:D->Store->Prop},WP (bList [.lst xs] st) Q=Q (.lst xs) st)
 /\ (∀{d:D} {σ:DS} {st:Store} {Q:D->Store->Prop},WP (eVar 0 (some d::σ) st) Q=Q d st)
 /\ (∀{i:Nat} {σ:DS} {st:Store} {Q:D->Store->Prop} {o:Option D},WP (eVar (i+1) (o::σ) st) Q=WP (eVar i σ st) Q)
 /\ (∀{f:SE} {σ:DS} {st:Store} {Q:List D->Store->Prop},WP (iSeq f σ st) Q=WP (f σ st) (fun x st1=>∃xs,seqV x=some xs/\Q xs st1))
 /\ (∀{f:SE} {σ:DS} {st:Store} {Q:Bool->Store->Prop},WP (eTru f σ st) Q=WP (f σ st) (fun x st1=>∃b,tru st1 x=some b/\Q b st1))
 /\ (∀{g:SA} {σ:DS} {st:Store} {Q:List D->Store->Prop},WP (iR1 g σ st) Q=WP (g σ st) (fun xs st1=>∃j,xs=[.int j]/\RngOk j/\Q (rng 0 j.toNat) st1))
 /\ (∀{g:SA} {σ:DS} {st:Store} {Q:List D->Store->Prop},WP (iR2 g σ st) Q=WP (g σ st) (fun xs st1=>∃i j,xs=[.int i,.int j]/\RngOk i/\RngOk j/\Q (rng i (j - i).toNat) st1)):=by
 have g2:∀{α:Type} {c:Prop} [Decidable c] {a:α} {st:Store} {Q:α->Store->Prop},WP (if c then .ok a st else .stuck) Q=(c/\Q a st):=fun {α c _ a st Q}=>zha
 refine ⟨rfl,ztg,rfl,rfl,rfl,rfl,rfl,rfl,rfl,rfl,?_⟩;refine ⟨?_,?_⟩
 ·intros;rw[zbdc,zf];congr;funext x st1;rw[zf]
 refine ⟨zf,zf,rfl,?_⟩;refine ⟨?_,?_⟩
 ·intros;rw[zmj,zf];congr;funext x st1;rw[zf];rfl
 refine ⟨?_,?_⟩
 ·intros;rw[eB_v,zf];congr;funext x st1;cases x<;>rfl
 refine ⟨?_,?_⟩
 ·intros;rw[zbcj,zf];congr;funext x st1;rw[zmn];rfl
 refine ⟨?_,?_⟩
 ·intros;rw[zbex,zf];congr;funext x st1;rw[zmn];rfl
 refine ⟨zf,rfl,?_⟩;refine ⟨?_,?_⟩
 ·intros;rw[zbbb,zf];congr;funext x st1;cases x<;>try rfl
  rename_i b;cases b<;>rfl
 refine ⟨?_,?_⟩
 ·intros;rw[zbeh,zf];congr;funext x st1;cases x<;>try rfl
  rename_i b;cases b<;>rfl
 refine ⟨?_,?_⟩
 ·intros;rw[zbay,zf];congr;funext x st1;cases x<;>rfl
 refine ⟨?_,?_⟩
 ·intros;rw[zbei,zf];congr;funext x st1;rw[zmn]
 refine ⟨?_,?_⟩
 ·intros;rw[zbaw,zf];congr;funext x st1;rw[g2]
 refine ⟨?_,?_⟩
 ·intros;rw[zbaz,zf];congr;funext x st1;rw[g2]
 refine ⟨?_,?_⟩
 ·intros;rw[zwe,zf];congr;funext x st1;rw[g2]
 refine ⟨rfl,rfl,rfl,rfl,rfl,zf,zf,zf,?_⟩;refine ⟨?_,?_⟩
 ·intro bd f σ st Q;unfold sSetG;rw[zf];congr;funext x st1;unfold gK;cases bd x σ<;>rfl
 refine ⟨?_,?_⟩
 ·intros;rw[zbdk,zf];congr;funext x st1;rw[zmn]
 refine ⟨zf,?_⟩;refine ⟨?_,?_⟩
 ·intros;rw[zpq,zf];congr;funext x st1;rw[zha,zf];rfl
 refine ⟨?_,?_⟩
 ·intros;unfold eCompM;rw[zf];congr;funext x st1;rw[zha,zf];rfl
 refine ⟨?_,?_⟩
 ·intros;rw[oI_v,g2]
 refine ⟨rfl,?_⟩;refine ⟨?_,?_⟩
 ·intros;rw[zzw,g2]
 refine ⟨rfl,?_⟩;refine ⟨?_,?_⟩
 ·intros;rw[show ∀i j st,oEqG false (.int i) (.int j) st=_ from fun i j st=>zbea];rfl
 refine ⟨?_,?_⟩
 ·intros;rw[show ∀i j st,oEqG true (.int i) (.int j) st=_ from fun i j st=>zbdx];rfl
 refine ⟨rfl,rfl,rfl,rfl,rfl,rfl,rfl,rfl,rfl,rfl,rfl,fun {d σ st Q}=>rfl,fun {i σ st Q o}=>rfl,?_⟩;refine ⟨?_,?_⟩
 ·intros;rw[zbaq,zf];congr;funext x st1
  cases h:seqV x with
  | none=>simp[WP]
  | some xs=>simp[WP]
 refine ⟨?_,?_⟩
 ·intros;rw[zbax,zf];congr;funext x st1
  cases h:tru st1 x with
  | none=>simp[WP]
  | some xs=>simp[WP]
 refine ⟨?_,?_⟩
 ·intros;rw[zbed,zf];congr;funext x st1
  split
  ·rw[g2];simp[RngOk]
  ·rename_i hne;have:∀j,x≠[D.int j]:=fun j h=>hne j h
   simp[WP,this]
 ·intros;rw[zbec,zf];congr;funext x st1
  split
  ·rw[g2];simp only[RngOk,List.cons.injEq,D.int.injEq,and_true];apply propext;constructor
   ·rintro ⟨h,q⟩;exact ⟨_,_,⟨rfl,rfl⟩,h.1,h.2,q⟩
   ·rintro ⟨i',j',⟨rfl,rfl⟩,h1,h2,q⟩;exact ⟨⟨h1,h2⟩,q⟩
  ·rename_i hne;have:∀i j,x≠[D.int i,D.int j]:=fun i j h=>hne i j h
   simp[WP,this]
def loopK (I:DS->Store->Prop) (Q:Fl->Store->Prop):Fl->Store->Prop:=fun fl st=>match fl with
 | .nx σ=>I σ st
 | .ct σ=>I σ st
 | .brk σ=>Q (.nx σ) st
 | .ret v=>Q (.ret v) st
theorem zeo {bd:SG} {body:SS} {Q:Fl->Store->Prop} (I:Nat->DS->Store->Prop):∀(xs:List D) (k:Nat) (σ:DS) (st:Store),I k σ st ->
  (∀i x σ st,xs[i]?=some x->I (k+i) σ st->∃σ1,bd x σ=some σ1/\WP (body σ1 st) (loopK (I (k+i+1)) Q))->(∀σ st,I (k+xs.length) σ st->Q (.nx σ) st)->WP (forF bd body xs σ st) Q
 | [],k,σ,st,h,_,q=>q σ st h
 | x::xs,k,σ,st,h,s,q=>by
  obtain ⟨σ1,e1,w⟩:=s 0 x σ st rfl h;obtain ⟨fl,st2,e2,w⟩:=w.get;unfold forF;rw[e1];dsimp only;rw[e2]
  have go:∀σ2,I (k+0+1) σ2 st2->WP (forF bd body xs σ2 st2) Q:=fun σ2 h2=>zeo I xs (k+1) σ2 st2 h2 (fun i y σ st hy hi=>by
   have:=s (i+1) y σ st (by simpa using hy) (by rw[show k+(i+1)=k+1+i by lia];exact hi);rw[show k+(i+1)+1=k+1+i+1 by lia] at this
   exact this) (fun σ st h=>q σ st (by rw[xcb,show k+(xs.length+1)=k+1+xs.length by lia];exact h))
  cases fl with
  | nx σ2=>exact go σ2 w
  | ct σ2=>exact go σ2 w
  | brk σ2=>exact w
  | ret v=>exact w
theorem zmo {bd:SG} {body:SS} {Q:Fl->Store->Prop} (I:Nat->DS->Store->Prop) {xs:List D} {σ:DS} {st:Store} (h0:I 0 σ st)
  (s:∀i x σ st,xs[i]?=some x->I i σ st->∃σ1,bd x σ=some σ1/\WP (body σ1 st) (loopK (I (i+1)) Q)) (q:∀σ st,I xs.length σ st->Q (.nx σ) st):WP (forF bd body xs σ st) Q :=
 zeo I xs 0 σ st h0 (fun i x σ st hx hi=>by rw[xdn] at hi ⊢;exact s i x σ st hx hi) fun σ st h=>q σ st (by rw[xdn] at h;exact h)
theorem L:(∀{I:DS->Store->Prop} {Q:Fl->Store->Prop} {σ:DS} {st:Store},loopK I Q (.nx σ) st=I σ st)
 /\ (∀{I:DS->Store->Prop} {Q:Fl->Store->Prop} {σ:DS} {st:Store},loopK I Q (.ct σ) st=I σ st)
 /\ (∀{I:DS->Store->Prop} {Q:Fl->Store->Prop} {σ:DS} {st:Store},loopK I Q (.brk σ) st=Q (.nx σ) st)
 /\ (∀{I:DS->Store->Prop} {Q:Fl->Store->Prop} {v:D} {st:Store},loopK I Q (.ret v) st=Q (.ret v) st):=⟨rfl,rfl,rfl,rfl⟩
theorem zcn {bd:SG} {c:ST} {f:SE} (I:Nat->List D->DS->Store->Prop):∀(xs:List D) (k:Nat) (acc:List D) (σ:DS) (st:Store) (Q:List D->Store->Prop),I k acc σ st ->
  (∀i x acc σ st,xs[i]?=some x->I (k+i) acc σ st->∃σ1,bd x σ=some σ1/\WP (c σ1 st) (fun b st1=>if b=true then WP (f σ1 st1) (fun y st2=>I (k+i+1) (acc++[y]) σ1 st2) else I (k+i+1) acc σ1 st1)) ->
  (∀ys σ st,I (k+xs.length) (acc++ys) σ st->Q ys st)->WP (compF bd c f xs σ st) Q
 | [],k,acc,σ,st,Q,h,_,q=>q [] σ st (by rw[xej];exact h)
 | x::xs,k,acc,σ,st,Q,h,s,q=>by
  obtain ⟨σ1,e1,w⟩:=s 0 x acc σ st rfl h;obtain ⟨b,st1,e2,w⟩:=w.get;have s':∀i y acc σ st,xs[i]?=some y->I (k+1+i) acc σ st->∃σ1,bd y σ=some σ1/\WP (c σ1 st) (fun b st1=>if b=true then WP (f σ1 st1) (fun y st2=>I (k+1+i+1) (acc++[y]) σ1 st2) else I (k+1+i+1) acc σ1 st1):=fun i y acc σ st hy hi=>by
   have:=s (i+1) y acc σ st (by simpa using hy) (by rw[show k+(i+1)=k+1+i by lia];exact hi);rw[show k+(i+1)+1=k+1+i+1 by lia] at this;exact this
  have ln:∀(zs:List D) σ st,I (k+1+xs.length) zs σ st->I (k+(x::xs).length) zs σ st:=fun zs σ st h=>by rw[xcb,show k+(xs.length+1)=k+1+xs.length by lia];exact h
  unfold compF;rw[e1];dsimp only;rw[e2];dsimp only [zdg];cases b with
  | false =>
   rw[if_neg (by decide)] at w ⊢;exact zcn I xs (k+1) acc σ1 st1 Q w s' fun ys σ st h=>q ys σ st (ln _ _ _ h)
  | true =>
   rw[if_pos rfl] at w ⊢;obtain ⟨y,st2,e3,w⟩:=w.get;rw[e3];dsimp only [zdg];rw[zf];exact zcn I xs (k+1) (acc++[y]) σ1 st2 _ w s' fun ys σ st h=>q (y::ys) σ st (ln _ _ _ (by rw[xcm] at h;exact h))
theorem zhw {bd:SG} {c:ST} {f:SE} {Q:List D->Store->Prop} (I:Nat->List D->DS->Store->Prop) {xs:List D} {σ:DS} {st:Store} (h0:I 0 [] σ st)
  (s:∀i x acc σ st,xs[i]?=some x->I i acc σ st->∃σ1,bd x σ=some σ1/\WP (c σ1 st) (fun b st1=>if b=true then WP (f σ1 st1) (fun y st2=>I (i+1) (acc++[y]) σ1 st2) else I (i+1) acc σ1 st1))
  (q:∀ys σ st,I xs.length ys σ st->Q ys st):WP (compF bd c f xs σ st) Q :=
 zcn I xs 0 [] σ st Q h0 (fun i x acc σ st hx hi=>by rw[xdn] at hi ⊢;exact s i x acc σ st hx hi) fun ys σ st h=>q ys σ st (by rw[xdn] at h;simpa using h)
theorem zmm {bd:SG} {c:ST} {f:SE} {α:Type} (S:DS->Prop) (P:α->Bool) (G:α->D) (E:α->D) {as:List α} {σ:DS} {st:Store} {Q:List D->Store->Prop} (h0:S σ)
  (s:∀x∈as,∀σ,S σ->∃σ1,bd (E x) σ=some σ1/\S σ1/\WP (c σ1 st) (fun b st1=>st1=st/\b=P x)/\(P x=true->WP (f σ1 st) (fun y st1=>st1=st/\y=G x)))
  (q:Q ((as.filter P).map G) st):WP (compF bd c f (as.map E) σ st) Q:=by
 refine zhw (fun i acc σ s'=>S σ/\s'=st/\acc=((as.take i).filter P).map G) ⟨h0,rfl,rfl⟩ (fun i x acc σ s' hx hI=>?_) fun ys σ s' hI=>?_
 ·obtain ⟨hS,rfl,rfl⟩:=hI;rw[xcl] at hx;obtain ⟨z,hz,rfl⟩:=xdg.mp hx;obtain ⟨σ1,e1,hS1,w1,w2⟩:=s z (xcz hz) σ hS;refine ⟨σ1,e1,w1.mono fun b st1 hb=>?_⟩;obtain ⟨rfl,rfl⟩:=hb;cases hP:P z with
  | false =>
   rw[if_neg (by decide)];refine ⟨hS1,rfl,?_⟩;rw[zcr hz,xhz,List.filter_cons_of_neg (by rw[hP];decide)];simp
  | true =>
   rw[if_pos rfl];refine (w2 hP).mono fun y st2 hy=>?_
   obtain ⟨rfl,rfl⟩:=hy;refine ⟨hS1,rfl,?_⟩;rw[zcr hz,xhz,List.filter_cons_of_pos hP,xgc];simp
 ·obtain ⟨_,rfl,rfl⟩:=hI;rw[xbd,xiz];exact q
theorem V:(∀{α:Type} {a b:α} {l:List α},(a::l).set 0 b=b::l)
 /\ (∀{α:Type} {a b:α} {l:List α} {i:Nat},(a::l).set (i+1) b=a::l.set i b)
 /\ (∀{σ:DS} {k:Nat} {is:List Nat},startD k is σ=List.replicate k none++is.map fun i=>(σ[i]?).getD none)
 /\ (∀{α:Type} {a:α} {k:Nat},List.replicate (k+1) a=a::List.replicate k a)
 /\ (∀{α:Type} {a:α},List.replicate 0 a=[])
 /\ (∀{α β:Type} {f:α->β} {a:α} {l:List α},(a::l).map f=f a::l.map f)
 /\ (∀{α β:Type} {f:α->β},([]:List α).map f=[])
 /\ (∀{α:Type} {a:α} {l m:List α},(a::l)++m=a::(l++m))
 /\ (∀{α:Type} {l:List α},[]++l=l)
 /\ (∀{α:Type} {a:α} {l:List α},(a::l)[0]?=some a)
 /\ (∀{α:Type} {a:α} {l:List α} {i:Nat},(a::l)[i+1]?=l[i]?)
 /\ (∀{α:Type} {a:α} {d:α},(some a).getD d=a)
 /\ (∀{i:Nat} {d:D} {σ:DS},gN i d σ=some (σ.set i (some d)))
 /\ (∀{p:Prop} [Decidable p],(decide p=true)=p)
 /\ (∀{p:Prop} [Decidable p],((!decide p)=true)=¬ p)
 /\ (∀{b:Bool},((!b)=true)=(b=false))
 /\ (∀{a b:Prop},(if True then a else b)=a)
 /\ (∀{a b:Prop},(if False then a else b)=b)
 /\ (∀{a b:Prop},(if true=true then a else b)=a)
 /\ (∀{a b:Prop},(if false=true then a else b)=b)
 /\ (∀{α:Type} {a b:α},(if True then a else b)=a)
 /\ (∀{α:Type} {a b:α},(if False then a else b)=b)
 /\ ((true=false)=False)/\((false=true)=False)/\((true=true)=True)/\((false=false)=True)/\((¬ True)=False)/\((¬ False)=True):=by
 refine ⟨rfl,rfl,rfl,rfl,rfl,rfl,rfl,rfl,rfl,rfl,?_,rfl,rfl,?_,?_,?_,rfl,rfl,rfl,rfl,rfl,rfl,by simp,by simp,by simp,by simp,by simp,by simp⟩
 ·intros;rfl
 ·intro p _;simp
 ·intro p _;simp
 ·intro b;simp
theorem M:(∀{f:SE} {σ:DS} {st:Store} {Q:Option Int->Store->Prop},WP (pSome f σ st) Q=WP (f σ st) (fun v st1=>∃i,v=.int i/\Q (some i) st1))
 /\ (∀{σ:DS} {st:Store} {Q:Option Int->Store->Prop},WP (pNone σ st) Q=Q none st)
 /\ (∀{f:SE} {lo hi:DS->Store->Res (Option Int)} {σ:DS} {st:Store} {Q:D->Store->Prop},WP (eSl f lo hi σ st) Q=WP (f σ st) (fun x st1=>WP (lo σ st1) (fun l st2=>WP (hi σ st2) (fun h st3=>(∃xs,x=.tup xs/\Q (.tup (cutD xs l h)) st3)\/(∃xs,asL st3 x=some xs/\Q (.lst (cutD xs l h)) st3)))))
 /\ (∀{f:SE} {σ:DS} {st:Store} {Q:D->Store->Prop},WP (eFz f σ st) Q=WP (f σ st) (fun x st1=>∃n xs,x=.ref n/\st1[n]?=some (.lst xs)/\Q (.lst xs) (st1.set n .dead)))
 /\ (∀{f g h:SE} {σ:DS} {st:Store} {Q:Fl->Store->Prop},WP (sSetIx f g h σ st) Q=WP (h σ st) (fun v st1=>WP (f σ st1) (fun x st2=>WP (g σ st2) (fun y st3=>∃n k xs j,x=.ref n/\y=.int k/\st3[n]?=some (.lst xs)/\ixN xs.length k=some j/\Q (.nx σ) (st3.set n (.lst (xs.set j v)))))))
 /\ (∀{f:SE} {g:SA} {σ:DS} {st:Store} {Q:D->Store->Prop},WP (eAppend f g σ st) Q=WP (f σ st) (fun x st1=>∃n xs0,x=.ref n/\st1[n]?=some (.lst xs0)/\WP (g σ st1) (fun ys st2=>∃y xs,ys=[y]/\st2[n]?=some (.lst xs)/\xs.length < sizeLine/\Q .non (st2.set n (.lst (xs++[y]))))))
 /\ (∀{x:D} {st:Store} {Q:D->Store->Prop},WP (bSum [x] st) Q=∃ns,(seqOf st x).bind asInts=some ns/\Q (.int ns.sum) st)
 /\ (∀{x:D} {al:Bool} {st:Store} {Q:D->Store->Prop},WP (bAny al [x] st) Q=∃bs,(asL st x).bind asBools=some bs/\Q (.bl (if al then bs.all id else bs.any id)) st)
 /\ (∀{x:D} {gt:Bool} {st:Store} {Q:D->Store->Prop},WP (bBest gt [x] st) Q=∃n ns,(seqOf st x).bind asInts=some (n::ns)/\Q (.int (bestI gt n ns)) st)
 /\ (∀{g:SA} {σ:DS} {st:Store} {Q:List D->Store->Prop},WP (iZipT g σ st) Q=WP (g σ st) (fun xs st1=>∃a b,xs=[.tup a,.tup b]/\Q (pairsF a b) st1))
 /\ (∀{i:Nat} {g:D->D->Store->Res D} {f:SE} {σ:DS} {st:Store} {Q:Fl->Store->Prop},WP (sAug i g f σ st) Q=∃x,σ[i]?=some (some x)/\WP (f σ st) (fun y st1=>WP (g x y st1) (fun z st2=>Q (.nx (σ.set i (some z))) st2))):=by
 refine ⟨?_,rfl,?_,?_,?_,?_,?_,?_,?_,?_,?_⟩
 ·intros;rw[zuv,zf];congr;funext x st1
  cases x<;>simp[WP]
 ·intros;rw[zbeg,zf];congr;funext x st1;rw[zf];congr;funext l st2;rw[zf];congr;funext h st3
  apply propext;split
  ·constructor
   ·intro q;exact .inl ⟨_,rfl,q⟩
   ·rintro (⟨xs,e,q⟩ | ⟨xs,e,q⟩)
    ·cases e;exact q
    ·cases e
  ·rename_i hne;constructor
   ·intro q;split at q
    ·rename_i xs e;exact .inr ⟨xs,e,q⟩
    ·exact q.elim
   ·rintro (⟨xs,e,q⟩ | ⟨xs,e,q⟩)
    ·exact absurd e (hne xs)
    ·rw[e];exact q
 ·intros;rw[zbej,zf];congr;funext x st1
  apply propext;constructor
  ·intro q;split at q
   ·split at q
    ·rename_i xs e;exact ⟨_,xs,rfl,e,q⟩
    ·exact q.elim
   ·exact q.elim
  ·rintro ⟨n,xs,rfl,e,q⟩;dsimp only;rw[e];exact q
 ·intros;rw[zqj,zf];congr;funext v st1;rw[zf];congr;funext x st2;rw[zf];congr;funext y st3
  apply propext;constructor
  ·intro q;split at q
   ·split at q
    ·split at q
     ·exact ⟨_,_,_,_,rfl,rfl,by assumption,by assumption,q⟩
     ·exact q.elim
    ·exact q.elim
   ·exact q.elim
  ·rintro ⟨n,k,xs,j,rfl,rfl,e1,e2,q⟩;dsimp only;rw[e1];dsimp only;rw[e2];exact q
 ·intros;rw[zoc,zf];congr;funext x st1
  apply propext;constructor
  ·intro q;split at q
   ·rename_i n xs0 e;rw[zf] at q;have e':st1[n]?=some (.lst xs0):=by
     unfold asL at e;dsimp only at e;split at e
     ·cases e;assumption
     ·cases e
    refine ⟨n,xs0,rfl,e',q.mono fun ys st2 h=>?_⟩;split at h
    ·split at h
     ·exact ⟨_,_,rfl,by assumption,by assumption,h⟩
     ·exact h.elim
    ·exact h.elim
   ·exact q.elim
  ·rintro ⟨n,xs0,rfl,e,q⟩;rw[zmf e];dsimp only;rw[zf];refine q.mono fun ys st2 h=>?_
   obtain ⟨y,xs,rfl,e2,hl,h⟩:=h;rw[e2];dsimp only;rw[if_pos hl];exact h
 ·intro x st Q;unfold bSum;dsimp only;cases h:(seqOf st x).bind asInts with
  | none=>simp[WP]
  | some ns=>simp[WP]
 ·intro x al st Q;unfold bAny;dsimp only;cases h:(asL st x).bind asBools with
  | none=>simp[WP]
  | some ns=>simp[WP]
 ·intro x gt st Q;unfold bBest;dsimp only;cases h:(seqOf st x).bind asInts with
  | none=>simp[WP]
  | some ns =>
   cases ns with
   | nil=>simp[WP]
   | cons n ns =>
    apply propext;constructor
    ·intro q;exact ⟨_,_,rfl,q⟩
    ·rintro ⟨a,b,e,q⟩;cases e;exact q
 ·intro g σ st Q;unfold iZipT;rw[zf];congr;funext x st1
  apply propext;constructor
  ·intro q;split at q
   ·exact ⟨_,_,rfl,q⟩
   ·exact q.elim
  ·rintro ⟨a,b,rfl,q⟩;exact q
 ·intro i g f σ st Q;rw[zza];apply propext;constructor
  ·intro q;split at q
   ·rename_i x e;rw[zf] at q;exact ⟨x,e,q.mono fun y st1 h=>by rw[zf] at h;exact h⟩
   ·exact q.elim
  ·rintro ⟨x,e,q⟩;rw[e];dsimp only;rw[zf];exact q.mono fun y st1 h=>by rw[zf];exact h
theorem N:(∀{xs:List D} {P:List D->Prop},(∃ys,D.tup xs=D.tup ys/\P ys)=P xs)
 /\ (∀{i:Int} {P:Int->Prop},(∃j,D.int i=D.int j/\P j)=P i)
 /\ (∀{xs:List D} {st:Store} {P:List D->Prop},(∃ys,asL st (.tup xs)=some ys/\P ys)=False)
 /\ (∀{xs:List D} {st:Store} {P:List D->Prop},(∃ys,asL st (.lst xs)=some ys/\P ys)=P xs)
 /\ (∀{xs:List D} {P:List D->Prop},(∃ys,seqV (.tup xs)=some ys/\P ys)=P xs)
 /\ (∀{xs:List D} {P:List D->Prop},(∃ys,seqV (.lst xs)=some ys/\P ys)=P xs)
 /\ (∀{b:Bool} {st:Store} {P:Bool->Prop},(∃c,tru st (.bl b)=some c/\P c)=P b)
 /\ (∀{i:Int} {P:Int->Prop},(∃j,[D.int i]=[D.int j]/\P j)=P i)
 /\ (∀{i j:Int} {P:Int->Int->Prop},(∃k l,[D.int i,D.int j]=[D.int k,D.int l]/\P k l)=P i j)
 /\ (∀{x:D} {P:D->Prop},(∃y,[x]=[y]/\P y)=P x)
 /\ (∀{a b:List D} {P:List D->List D->Prop},(∃c d,[D.tup a,D.tup b]=[.tup c,.tup d]/\P c d)=P a b)
 /\ (∀{p:Prop},(p\/False)=p)/\(∀{p:Prop},(True/\p)=p):=by
 refine ⟨?_,?_,?_,?_,?_,?_,?_,?_,?_,?_,?_,by simp,by simp⟩
 ·intros;apply propext;exact ⟨fun ⟨_,e,p⟩=>by cases e;exact p,fun p=>⟨_,rfl,p⟩⟩
 ·intros;apply propext;exact ⟨fun ⟨_,e,p⟩=>by cases e;exact p,fun p=>⟨_,rfl,p⟩⟩
 ·intros;apply propext;exact ⟨fun ⟨_,e,p⟩=>(by cases e),fun p=>p.elim⟩
 ·intros;apply propext;exact ⟨fun ⟨_,e,p⟩=>by cases e;exact p,fun p=>⟨_,rfl,p⟩⟩
 ·intros;apply propext;exact ⟨fun ⟨_,e,p⟩=>by cases e;exact p,fun p=>⟨_,rfl,p⟩⟩
 ·intros;apply propext;exact ⟨fun ⟨_,e,p⟩=>by cases e;exact p,fun p=>⟨_,rfl,p⟩⟩
 ·intros;apply propext;exact ⟨fun ⟨_,e,p⟩=>by cases e;exact p,fun p=>⟨_,rfl,p⟩⟩
 ·intros;apply propext;exact ⟨fun ⟨_,e,p⟩=>by cases e;exact p,fun p=>⟨_,rfl,p⟩⟩
 ·intros;apply propext;exact ⟨fun ⟨_,_,e,p⟩=>by cases e;exact p,fun p=>⟨_,_,rfl,p⟩⟩
 ·intros;apply propext;exact ⟨fun ⟨_,e,p⟩=>by cases e;exact p,fun p=>⟨_,rfl,p⟩⟩
 ·intros;apply propext;exact ⟨fun ⟨_,_,e,p⟩=>by cases e;exact p,fun p=>⟨_,_,rfl,p⟩⟩
section
variable {st:Store} {n:Nat} {Q:D->Store->Prop}
theorem zdc {m:Int} (hb:BagAt st n) (h1:1<=m) (h2:m<=1000000) (k:∀r st',0<=r->r < m->Drew st st' n->Q (.int r) st'):WP (zm [.ref n,.int m] st) Q:=by
 obtain ⟨r,st',e,a1,a2,a3,_⟩:=ztr hb h1 (Int.lt_of_le_of_lt h2 (by decide +kernel));exact WP.of e (k r st' a1 a2 a3)
theorem zbda {x:D} {xs:List D} {i:Int} {d:D} (h:seqOf st x=some xs) (h2:L2.atI xs i=some d) (q:Q d st):WP (oIx x (.int i) st) Q:=WP.of (zjp h h2) q
theorem zbcd {ns:List Int} {i:Nat} (hl:ns.length<=63) (hi:i<=100000) (k:∀g,BagAt (st++g) st.length->Q (.ref st.length) (st++g)):WP (zcl [.scr (ns.map .int),.int i] st) Q:=by
 obtain ⟨c,x,hc,hx,e⟩:=zbce (st:=st) hl hi;exact WP.of e (k _ ⟨c,x,by simp,hc,hx⟩)
end
abbrev Rise (l:List (List Int)):Prop:=l.Pairwise fun a b=>HT.lexLt a b=true
theorem ztz {l:List (List Int)} (h:UpR l) (nd:l.Nodup):Rise l:=List.Pairwise.imp (fun {a b} q=>by
 obtain ⟨q1,q2⟩:=q;rcases Srt.zgk a b with z | z | z
 ·exact z
 ·exact absurd z q2
 ·rw[q1] at z;cases z) (h.and nd)
theorem zni (l:List (List Int)):Rise (oddS l):=ztz (zfg _) (zkv l)
structure SumOk (n:Nat) (l:List (List Int)):Prop where
 rise:Rise l
 len:∀r∈l,r.length=n
 pos:∀r∈l,∀x∈r,0<=x
theorem zmy {n:Nat} {l:List (List Int)} (h:∀r∈l,r.length=n/\∀x∈r,0<=x):SumOk n (oddS l):=⟨zni l,fun r hr=>(h r (zhl hr)).1,fun r hr=>(h r (zhl hr)).2⟩
end Dd
namespace L2
open PySem PySem.Spec PyProof.Rows
def cxK (X:Cx) (N:List Str) (scope:Scope) (d:Str) (cl:List (Str × Addr)) (C:Addr) (fp:List Addr) (s:Shared) (H:Hp):Cx:={cxC X N scope cl C fp s H with fn:=fun x=>x == d}
structure CompScopeK (X:Cx) (N:List Str) (k:Nat) (is:List Nat) (scope:Scope) (d:Str):Prop where
 kind:scope.kind=.function
 one:∀n cl,cellsFrom n scope.names cl=(d,n)::cl
 two : ∀ h, pushCells h scope.names = h.push { cls := .type "cell", data := .cell none }
 only:∀x,scope.names.lookup x=some .cell->x=d
 names:∀y∈scope.names,y.2=.local->scope.names.lookup y.1=some .local
 frees:∀y∈scope.names,y.2=.free->X.env.kindOf y.1=some .cell\/X.env.kindOf y.1=some .free
 len:N.length=k+is.length
 own:∀j i,is[j]?=some i->∃x,N[k+j]?=some x/\X.N[i]?=some x/\scope.names.lookup x=some .free/\x≠d
theorem zcp {d x:Str} {n c:Addr} {cl:List (Str × Addr)} (h:List.lookup x ((d,n)::cl)=some c):(x=d/\c=n)\/(x≠d/\cl.lookup x=some c):=by
 rw[xdl] at h;cases e:x == d with
 | true=>rw[e] at h;cases h;exact .inl ⟨eq_of_beq e,rfl⟩
 | false=>rw[e] at h;exact .inr ⟨fun z=>(by rw[z,xeo] at e;cases e),h⟩
theorem zvo {d:Str} {n:Addr} {cl:List (Str × Addr)}:List.lookup d ((d,n)::cl)=some n:=by rw[xdl,xeo]
theorem zbcz {d x:Str} {n:Addr} {cl:List (Str × Addr)} (h:x≠d):List.lookup x ((d,n)::cl)=cl.lookup x:=by rw[xdl,xei.mpr h]
theorem zvh {M:Model} {A:Around} {E:Value->Shared->Prop} {s:Shared} {scope:Scope} {globals:Addr} {closure:List (Str × Addr)} {qual:Str} {func:Option Addr} {code:Value} {outer:Env} {builtins:Addr} {d:Str} {Q:Env->Shared->Prop}
  (one : ∀ n cl, cellsFrom n scope.names cl = (d, n) :: cl) (two : ∀ h, pushCells h scope.names = h.push { cls := .type "cell", data := .cell none })
  (h : Q (newEnv scope s.heap.objs.size globals ((d, s.heap.objs.size + 1) :: closure) qual func code (some outer) builtins) { s with heap := (s.heap.push { cls := .type "dict", data := .dict #[] }).push { cls := .type "cell", data := .cell none } }) :
  wpAny M A (newFunctionEnv scope globals closure [] qual func code (some outer) builtins) Q E s:=by
 simp only[newFunctionEnv,Option.isSome_some,xet];refine xba (wpAny_alloc ?_);refine xba (wpAny_layCells _ (fun name kind cells=>by cases hkc:kind == NameKind.cell<;>simp[hkc]) _ _ _ _ ?_);rw[one,two,List.forIn_nil];refine xba (xbc (xbc ?_));have e : ({ s with heap := s.heap.push { cls := .type "dict", data := .dict #[] } } : Shared).heap.objs.size = s.heap.objs.size + 1 := xjq ..
 rw[e];exact h
section
variable {X:Cx} {pins:List (Addr × Obj)} {σ:St} {H:Hp} {s:Shared} {d:Str}
theorem znx {N:List Str} {k:Nat} {is:List Nat} {scope:Scope} {cl:List (Str × Addr)} {fp:List Addr} {h1:Heap} {tk:Nat} (S:CompScopeK X N k is scope d) (I:Inv X pins σ H s)
  (c1:∀x c,cl.lookup x=some c->X.env.cells.lookup x=some c) (c2:∀x,(x,NameKind.free)∈scope.names->∃c,cl.lookup x=some c)
  (hf:∀b∈fp,FpOk X pins H b) (hfo:∀b∈fp,∃o,s.heap.get? b=some o) (hn:h1.Ns s.heap.objs.size (fun _=>none)) (hce:h1.IsCell (s.heap.objs.size+1) none) (hk:∀b o,s.heap.get? b=some o->h1.get? b=some o) :
  Inv (cxK X N scope d ((d,s.heap.objs.size+1)::cl) s.heap.objs.size fp s H) [] (startC k is σ) H {s with heap:=h1,toks:=tk}:=by
 have hC:∀b o,s.heap.get? b=some o->b≠s.heap.objs.size:=fun b o e=>xbv (xbl e)
 have hlt:∀x c,X.env.cells.lookup x=some c->c < s.heap.objs.size:=fun x c e=>by
  obtain ⟨v,o,ho,_⟩:=I.cell x c e;exact xbl ho
 have nfs:∀b∈fp,b∉frs X.stack:=fun b hb z=>by
  rcases xbo.mp (I.stkSub b z) with e | e
  ·exact (hf b hb).2.1 e
  ·exact (hf b hb).2.2.1 e
 refine ⟨⟨I.ok.mod,S.kind,I.ok.glob,I.ok.blt,xbe _,fun x y c e1 e2=>?_,fun x hx=>?_,fun x c z e=>?_,I.ok.hd,I.ok.frames,.inl rfl,fun b hb=>⟨?_,fun x c e=>?_⟩,I.bs,xbb I.ok.bsz I.sz,fun b o e hb=>?_,nfs,I.stack,I.stkFree⟩,
  rfl,I.bare,Un.kept hk,⟨_,hn,fun i x v e1 e2 e3=>?_⟩,fun x c e=>?_,I.hok.fresh (xbe _),fun x c e=>?_,fun p hp=>(nomatch hp),I.hok.kept hk,?_,I.hnd⟩
 ·rcases zcp e1 with ⟨a1,b1⟩ | ⟨_,b1⟩<;>rcases zcp e2 with ⟨a2,b2⟩ | ⟨_,b2⟩
  ·rw[a1,a2]
  ·have:=hlt y c (c1 y c b2);rw[b1] at this;exact absurd this (Nat.not_lt.mpr (xgh _))
  ·have:=hlt x c (c1 x c b1);rw[b2] at this;exact absurd this (Nat.not_lt.mpr (xgh _))
  ·exact I.ok.inj x y c (c1 x c b1) (c1 y c b2)
 ·have hx':(scope.names.map fun (n,k)=>if (k == NameKind.free && X.env.scope.kind == .function && X.env.kindOf n == some .cell) then (n,NameKind.cell) else (n,k)).lookup x=some .cell\/(scope.names.map fun (n,k)=>if (k == NameKind.free && X.env.scope.kind == .function && X.env.kindOf n == some .cell) then (n,NameKind.cell) else (n,k)).lookup x=some .free:=hx;by_cases hd:x=d
  ·exact ⟨_,by rw[hd];exact zvo⟩
  ·have q:scope.names.lookup x=some .free:=by
    rcases hx' with z | z
    ·rcases zk z with q | ⟨_,q⟩
     ·exact absurd (S.only x q) hd
     ·exact q
    ·rcases zk z with q | ⟨q,_⟩
     ·exact q
     ·cases q
   obtain ⟨c,e⟩:=c2 x (zbc q);exact ⟨c,by show List.lookup x ((d,s.heap.objs.size+1)::cl)=_;rw[zbcz hd];exact e⟩
 ·have hd:x=d:=eq_of_beq z;rcases zcp e with ⟨_,b1⟩ | ⟨a1,_⟩
  ·rw[b1];exact xgh _
  ·exact absurd hd a1
 ·obtain ⟨o,e⟩:=hfo b hb;exact hC b o e
 ·obtain ⟨o,eo⟩:=hfo b hb;rcases zcp e with ⟨_,b1⟩ | ⟨_,b1⟩
  ·rw[b1];exact xgj (xev (xbl eo))
  ·exact (hf b hb).2.2.2.2.1 x c (c1 x c b1)
 ·rcases (hf b hb).2.2.2.1 with z | z
  ·exact I.ok.noex b o e z
  ·exact absurd (xbf (xbl (I.ok.bs b o e).1) z) (xez _)
 ·unfold startC at e2;have hi:k<=i:=by
   rcases xfk i k with z | z
   ·rw[xbx (by rw[xdr];exact z),xgq,if_pos z] at e2;cases e2
   ·exact z
  rw[xch (by rw[xdr];exact hi),xdr,xcl] at e2;cases ej:is[i - k]? with
  | none=>rw[ej] at e2;cases e2
  | some j =>
   rw[ej] at e2;have e2':(σ[j]?).getD none=some v:=xck e2;obtain ⟨y,y1,y2,y3,y4⟩:=S.own (i - k) j ej;have ey:y=x:=by
    have z:N[i]?=some y:=by rw[← y1];congr 1;lia
    have e1':N[i]?=some x:=e1;rw[z] at e1';exact xck e1'
   subst ey;have e4:σ[j]?=some (some v):=by
    cases q:σ[j]? with
    | none=>rw[q] at e2';cases e2'
    | some o=>rw[q] at e2';exact congrArg some e2'
   have kd:=S.frees _ (zbc y3) rfl;have vis:Vis X.env.scope y:=.inr kd;obtain ⟨m,_,hl⟩:=I.loc;obtain ⟨u,r,lk⟩:=hl j y v y2 e4 vis;refine ⟨u,r,?_⟩;rcases lk with ⟨z,_⟩ | ⟨_,c,e5,cc⟩
   ·rcases kd with q | q<;>(rw[q] at z;cases z)
   ·obtain ⟨c',e6⟩:=c2 y (zbc y3);have:c'=c:=by
     have z:=c1 y c' e6;rw[e5] at z;exact (xck z).symm
    subst this;refine .inr ⟨?_,c',by show List.lookup y ((d,s.heap.objs.size+1)::cl)=_;rw[zbcz y4];exact e6,cc.keeps hk⟩;rcases e3 with z | z | z
    ·exact absurd (zk z) (by
      rw[y3];rintro (q | ⟨q,_⟩)
      ·cases q
      ·cases q)
    ·exact .inl z
    ·exact .inr z
 ·rcases zcp e with ⟨_,b1⟩ | ⟨_,b1⟩
  ·rw[b1];exact ⟨none,hce⟩
  ·obtain ⟨v,o,ho,hd⟩:=I.cell x c (c1 x c b1);exact ⟨v,o,hk _ o ho,hd⟩
 ·rcases zcp e with ⟨_,b1⟩ | ⟨_,b1⟩
  ·rw[b1];exact I.hok.fresh (xgh _)
  ·exact I.freeC x c (c1 x c b1)
 ·unfold startC;rw[xcd,xdr,xbd];exact S.len.symm
theorem zny {N:List Str} {scope:Scope} {cl:List (Str × Addr)} {fp:List Addr} {σ':St} {H':Hp} {s':Shared} {h':Heap} (I:Inv X pins σ H s) (hf:∀b∈fp,FpOk X pins H b) (J:Inv (cxK X N scope d cl s.heap.objs.size fp s H) [] σ' H' s')
  (hs:Heap.SameBut s.heap.objs.size s'.heap h'):Inv X pins σ H' {s' with heap:=h'}:=by
 have hC:∀b o,s.heap.get? b=some o->b≠s.heap.objs.size:=fun b o e=>xbv (xbl e)
 have hH:H' s.heap.objs.size=none:=J.free;have B:Un (frs X.stack) fp H H' s.heap s'.heap:=J.base
 have U:Un (frs X.stack) fp H H' s.heap h':=⟨fun b o e n h1 h2=>hs.extBut b o (hC b o e) (B.keep b o e n h1 h2),fun b o e n h1 h2=>by
   obtain ⟨sl,q⟩:=B.slot b o e n h1 h2;exact ⟨sl,hs.extBut b _ (hC b o e) q⟩,B.free,fun b o e hx=>by
   obtain ⟨o',q⟩:=B.there b o e hx
   exact ⟨o',hs.extBut b o' (hC b o e) q⟩,B.tups,B.frzs,B.tbls⟩
 refine I.call' (s':={s' with heap:=h'}) J.os U (fun a o e=>?_) J.bare (fun b hb=>⟨(hf b hb).2.2.2.1,(hf b hb).2.1,(hf b hb).2.2.2.2.1,(hf b hb).2.2.2.2.2⟩);refine (J.hok a o e).stay (fun b u hb q=>hs.extBut b u ?_ q) (fun _ q=>q) fun _ _ q=>q
 rcases hb with z | z
 ·intro y;rw[z] at y;rw[y,hH] at e;cases e
 ·intro y;rw[y,hH] at z;cases z
end
section
variable {X:Cx} {tg iter elt:Expr} {ifs:List Expr} {wi:TI} {g:TG} {tc:TT} {te:TE} {N:List Str} {k:Nat} {is:List Nat} {scope:Scope} {pos:Pos} {d:Str}
theorem zjv (hcalm:X.calm=true) (hg:∀cl C fp s H,PG (cxK X N scope d cl C fp s H) tg g) (hc:∀cl C fp s H,PIf (cxK X N scope d cl C fp s H) ifs tc) (he:∀cl C fp s H,PE (cxK X N scope d cl C fp s H) elt te)
  (S:CompScopeK X N k is scope d) {pins:List (Addr × Obj)} {σ:St} {H2:Hp} {s2:Shared} {cl:List (Str × Addr)} {it:Addr} {fp:List Addr} {tn:Nat->Heap->Prop} {J:It} {Q:VK} {E:Value->Shared->Prop} {RR:Value->Addr->Result->Shared->Prop}
  (I2:Inv X pins σ H2 s2) (T:Turn X.prog X.w X.K tg J fp it tn) (st2:tn 0 s2.heap) (f2:∀b∈fp,FpOk X pins H2 b)
  (c1:∀x c,cl.lookup x=some c->X.env.cells.lookup x=some c) (c2:∀x,(x,NameKind.free)∈scope.names->∃c,cl.lookup x=some c)
  (h:∀p,H2 p=none->∃W:Nat->Nat->St->Hp->Prop,(∃m,W 0 m (startC k is σ) (upd H2 p (.lst []))) /\
   ∀i m σ' H',W i m σ' H'->(J.stop i H'/\Q (.ref p) H')\/(J.go i H'/\∃N:St->Hp->Prop,(∀σ2 H2,N σ2 H2->∃m',m' < m/\W (i+1) m' σ2 H2)/\∀x H2,J.yld i H' x H2->g x σ' H2 (nxC p te tc N)))
  (hR:∀(p C:Addr) (s':Shared) (H':Hp) (m:Str->Option Value),OffC X pins H' C->s'.heap.Ns C m->Inv X pins σ H' s'->Q (.ref p) H'->RR (.ref p) C (.ok .next) s') :
  wpAny (model X.prog X.w) X.A (newList []) (fun acc s₃=>wpAny (model X.prog X.w) X.A (newFunctionEnv scope X.env.globals cl [] X.env.qual none .none (some X.env)) (fun cenv s₄ =>
   codeAny (model X.prog X.w) X.A (.compStart (.ListComp elt [⟨tg,iter,ifs,0⟩] scope pos) 0 (.ref it) acc {cenv with scope:=relabel scope X.env}) (RR acc cenv.locals) s₄) E s₃) E s2:=by
 refine xdf ?_;have fresh:H2 s2.heap.objs.size=none:=I2.fresh;have I3 : Inv X pins σ (upd H2 s2.heap.objs.size (.lst [])) { s2 with heap := s2.heap.push { cls := .type "list", dict := none, data := .seq ([] : List Value).toArray } } := I2.lnew (t' := s2.toks) (.nil) (by decide)
 generalize hs3 : ({ s2 with heap := s2.heap.push { cls := .type "list", dict := none, data := .seq ([] : List Value).toArray } } : Shared) = s3 at I3
 have k3:∀b o,s2.heap.get? b=some o->s3.heap.get? b=some o:=fun b o e=>by rw[← hs3];exact xbh _ e
 refine zvh S.one S.two ?_;obtain ⟨h₁, hh⟩ : ∃ h₁, h₁ = (s3.heap.push { cls := .type "dict", data := .dict #[] }).push { cls := .type "cell", data := .cell none } := ⟨_, rfl⟩
 rw[← hh];have hns₁ : h₁.Ns s3.heap.objs.size (fun _ => none) := by rw [hh]; exact (Heap.Ns.new s3.heap (.type "dict")).keeps fun b o e => xbh _ e
 have hce:h₁.IsCell (s3.heap.objs.size+1) none:=by rw[hh];exact ⟨_,Heap.get?_push_at (by rw[xjq]) rfl,rfl⟩
 have st3:tn 0 s3.heap:=T.keep _ _ _ st2 fun b _ o e=>k3 b o e
 have f3:∀b∈fp,FpOk X pins (upd H2 s2.heap.objs.size (.lst [])) b:=fun b hb=>by
  obtain ⟨o,e,_⟩:=T.obj _ _ st2 b hb;exact ⟨by rw[zp (xbv (xbl e))];exact (f2 b hb).1,(f2 b hb).2⟩
 have k4:∀b o,s3.heap.get? b=some o->h₁.get? b=some o:=fun b o e=>by rw[hh];exact xbh _ (xbh _ e)
 have J4:=znx (tk:=s3.toks) S I3 c1 c2 f3 (fun b hb=>let ⟨o,e,_⟩:=T.obj _ _ st3 b hb;⟨o,e⟩) hns₁ hce k4;obtain ⟨W,⟨m0,w0⟩,turn⟩:=h s2.heap.objs.size fresh;have st4:tn 0 h₁:=T.keep _ _ _ st3 fun b _ o e=>k4 b o e
 have loop:codeAny (model X.prog X.w) X.A (.compLoop (.ListComp elt [⟨tg,iter,ifs,0⟩] scope pos) 0 (.ref it) (.ref s2.heap.objs.size) (compEnvC scope ((d,s3.heap.objs.size+1)::cl) s3.heap.objs.size X.env)) (RR (.ref s2.heap.objs.size) s3.heap.objs.size) {s3 with heap:=h₁,toks:=s3.toks}:=by
  have stat:∀{H':Hp},(∀b∈fp,H' b=none)->∀b∈fp,FpOk (cxK X N scope d ((d,s3.heap.objs.size+1)::cl) s3.heap.objs.size fp s3 (upd H2 s2.heap.objs.size (.lst []))) [] H' b:=fun {H'} hn b hb=>by
   obtain ⟨o,e,_⟩:=T.obj _ _ st3 b hb
   refine ⟨hn b hb,xbv (xbl e),J4.ok.exfs b hb,.inl hb,fun x c e'=>by
    rcases zcp e' with ⟨_,z⟩ | ⟨_,z⟩
    ·rw[z];exact xgj (xev (xbl e))
    ·exact (f3 b hb).2.2.2.2.1 x c (c1 x c z),fun p hp=>(nomatch hp)⟩
  refine ziu (fun n s'=>∃i σ' H',Inv (cxK X N scope d ((d,s3.heap.objs.size+1)::cl) s3.heap.objs.size fp s3 (upd H2 s2.heap.objs.size (.lst []))) [] σ' H' s'/\tn i s'.heap/\(∀b∈fp,H' b=none)/\W i n σ' H') ?_ m0
   ⟨0,_,_,J4,st4,fun b hb=>(f3 b hb).1,w0⟩
  rintro n s5 ⟨i,σ5,H5,I5,st5,fr5,w5⟩;rcases turn i n σ5 H5 w5 with ⟨stop,q⟩ | ⟨go,N',hN',step⟩
  ·refine thn (T.done (cxK X N scope d ((d,s3.heap.objs.size+1)::cl) s3.heap.objs.size fp s3 (upd H2 s2.heap.objs.size (.lst []))) rfl rfl rfl hcalm i [] s5 σ5 H5 _ I5 (stat fr5) st5 stop) fun r s6 hq0=>?_
   obtain ⟨hr,I6⟩:=hq0;subst hr;obtain ⟨m,hm,_⟩:=I6.loc;refine hR _ _ s6 H5 m ⟨I6.free,xgj I3.lt,I3.sz,fun x c e=>?_,fun p hp=>xbv (xbl (I3.pin p hp).1)⟩ hm (zny (h':=s6.heap) I3 f3 I6 (.refl ..)) q;obtain ⟨v,o,ho,_⟩:=I3.cell x c e;exact xbv (xbl ho)
  ·refine thn (T.item (cxK X N scope d ((d,s3.heap.objs.size+1)::cl) s3.heap.objs.size fp s3 (upd H2 s2.heap.objs.size (.lst []))) rfl rfl rfl hcalm i [] s5 σ5 H5 _ I5 (stat fr5) st5 go) fun r s6 hq0=>?_
   obtain ⟨u,hr,h6⟩:=hq0;subst hr;refine thn h6 fun _ s7 hq0=>?_
   obtain ⟨x,H7,I7,r7,y7,st7,fr7⟩:=hq0;have I7':=I7.pinned (stat fr7) (T.obj _ _ st7);refine thn (hg ((d,s3.heap.objs.size+1)::cl) s3.heap.objs.size fp s3 _ _ s7 σ5 H7 x u _ I7' r7 (step x H7 y7)) fun _ s8 hq0=>?_
   obtain ⟨σ8,H8,I8,q8⟩:=hq0;refine thn (hc ((d,s3.heap.objs.size+1)::cl) s3.heap.objs.size fp s3 _ _ s8 σ8 H8 _ I8 q8) fun b s9 hq0=>?_
   obtain ⟨H9,I9,q9⟩:=hq0;have again:∀{σ':St} {H':Hp} {s':Shared} {m':Nat},Inv (cxK X N scope d ((d,s3.heap.objs.size+1)::cl) s3.heap.objs.size fp s3 (upd H2 s2.heap.objs.size (.lst []))) ([]++pinsAt fp s7.heap) σ' H' s'->m' < n->W (i+1) m' σ' H' ->
     ∃m,m < n/\∃i σ' H',Inv (cxK X N scope d ((d,s3.heap.objs.size+1)::cl) s3.heap.objs.size fp s3 (upd H2 s2.heap.objs.size (.lst []))) [] σ' H' s'/\tn i s'.heap/\(∀b∈fp,H' b=none)/\W i m σ' H':=fun {σ' H' s' m'} I' hm w'=>by
    refine ⟨m',hm,i+1,σ',H',I'.unpinned,T.keep _ _ _ st7 fun b hb o e=>(I'.pin (b,o) (xci _ (xci _ (zbr hb e)))).1,fun b hb=>?_,w'⟩;obtain ⟨o,e,d⟩:=T.obj _ _ st7 b hb;exact (I'.pin (b,o) (xci _ (xci _ (zbr hb e)))).2.1
   cases b with
   | false =>
    obtain ⟨m',hm,w'⟩:=hN' _ _ q9;exact again I9 hm w'
   | true =>
    refine thn (he ((d,s3.heap.objs.size+1)::cl) s3.heap.objs.size fp s3 _ _ s9 σ8 H9 _ I9 q9) fun v s10 hq0=>?_
    obtain ⟨y,H10,I10,r10,xs,hxs,hz,n10⟩:=hq0;obtain ⟨m',hm,w'⟩:=hN' _ _ n10;refine thn (zfn (X:=cxK X N scope d ((d,s3.heap.objs.size+1)::cl) s3.heap.objs.size fp s3 (upd H2 s2.heap.objs.size (.lst []))) _ s10 σ8 H10 (.ref s2.heap.objs.size) [y] _ [v] (fun _ H'=>H'=upd H10 s2.heap.objs.size (.lst (xs++[y]))) I10 rfl (.cons r10 .nil) ⟨_,xs,y,rfl,rfl,hxs,hz,rfl⟩) fun _ s11 hq0=>?_
    obtain ⟨_,H11,I11,_,e11⟩:=hq0;subst e11;exact again I11 hm w'
 have hs3' : s2.heap.push { cls := .type "list", dict := none, data := .seq ([] : List Value).toArray } = s3.heap := by rw [← hs3]
 have fin:=codeAny_compStart_list (elt:=elt) (target:=tg) (iter:=iter) (ifs:=ifs) (rest:=[]) (scope:=scope) (pos:=pos) loop (T.self X.A 0 _ _ _ st4 loop);exact fin
theorem zgt (S:CompScopeK X N k is scope d) {pins:List (Addr × Obj)} {σ:St} {H:Hp} {s:Shared} (I:Inv X pins σ H s) :
  ∃cl,closureFor scope X.env=pure cl/\(∀x c,cl.lookup x=some c->X.env.cells.lookup x=some c)/\∀x,(x,NameKind.free)∈scope.names->∃c,cl.lookup x=some c :=
 zgv fun y hy hf=>I.ok.has y.1 (S.frees y hy hf)
theorem zqq {i:Nat} {x:Str} {pos':Pos} (hcalm:X.calm=true) (hN:X.N.Nodup) (hxi:X.N[i]?=some x) (hx:Loc X.env.scope x) (hi:PI X tg iter wi) (hg:∀cl C fp s H,PG (cxK X N scope d cl C fp s H) tg g) (hc:∀cl C fp s H,PIf (cxK X N scope d cl C fp s H) ifs tc)
  (he:∀cl C fp s H,PE (cxK X N scope d cl C fp s H) elt te) (S:CompScopeK X N k is scope d) {spos:Pos} (hsw:swapsWith (.ListComp elt [⟨tg,iter,ifs,0⟩] scope pos) (some (.Name x pos')) spos.line X.env=pure true:=by rfl)
  (hf:X.fn x=true\/X.env.scope.names.lookup x=some .local:=by first | exact .inl rfl | exact .inr rfl | assumption)
  (hs:∀x,foldedSetIterable iter X.env x=pure x:=by intro _;rfl):PS X (.Assign [.Name x pos'] (.ListComp elt [⟨tg,iter,ifs,0⟩] scope pos) spos) (tAsg (tComp wi k is g tc te) (gName i)):=by
 intro pins s σ H D I h;obtain ⟨cl,e,c1,c2⟩:=zgt S I;rw[exec_Assign_Name_used (hs:=hsw)];refine xba (xkc (xba (?_:wpAny _ X.A _ _ _ s)));show wpAny _ X.A (do let _ ← comprehension (.ListComp elt [⟨tg,iter,ifs,0⟩] scope pos) scope X.env _ (newList []) false (eval iter X.env) (some (assign (.Name x pos') X.env))) _ _ s
 refine xba (xdq (xic (use:=some (assign (.Name x pos') X.env)) (Q:=fun _ s'=>SP X pins D .next s') rfl hs e S.kind S.names
  (thn (hi pins s σ H _ I h) fun xv s1 h1=>thn h1 fun itv s2 h2=>?_)) (fun _ s' hq=>xbc (xbc hq)) fun _ _ e=>e)
 obtain ⟨it,fp,tn,J,H2,e2,I2,T,st2,f2,h3⟩:=h2;subst e2;refine zjv (Q:=fun v H'=>gName i v σ H' D.nx) (RR:=fun acc C=>compPost (model X.prog X.w) X.A X.xe (some (assign (.Name x pos') X.env)) (fun _ s'=>SP X pins D .next s') acc C) hcalm hg hc he S I2 T st2 f2 c1 c2 h3 ?_;intro p C s' H' m off hm I' q;show wpAny _ X.A (assign (.Name x pos') X.env (.ref p)) _ _ _;refine xkj (zff (v:=.ref p) I' hN hxi hx rfl (fun s'' I'' hq0=>?_) hf);obtain ⟨a,hsb,ha⟩:=hq0;have hCa:C≠a:=by
  rcases ha with z | z
  ·rw[z];exact off.loc
  ·exact (off.cell x a z).symm
 exact ⟨m,hm.sameBut hsb hCa,fun h' hs'=>⟨_,H',off.back I'' hs',q⟩⟩
end
def compLookK (XN:List Str) (xs:List (Str × NameKind)) (N:List Str) (k:Nat) (is:List Nat) (scope:Scope) (d:Str):Bool :=
 (scope.kind == .function) && scope.names.all (fun y=>y.2 != .cell || y.1 == d) && scope.names.all (fun y=>y.2 != .local || scope.names.lookup y.1 == some .local) &&
 scope.names.all (fun y=>y.2 != .free || (xs.lookup y.1 == some .cell || xs.lookup y.1 == some .free)) && (N.length == k+is.length) &&
 (List.range is.length).all (fun j=>match is[j]?,N[k+j]? with
  | some i,some x=>XN[i]? == some x && (scope.names.lookup x == some .free && x != d)
  | _,_=>false)
theorem zsp {X : Cx} {N : List Str} {k : Nat} {is : List Nat} {scope : Scope} {d : Str} (h : compLookK X.N X.env.scope.names N k is scope d = true) (one : ∀ n cl, cellsFrom n scope.names cl = (d, n) :: cl) (two : ∀ h, pushCells h scope.names = h.push { cls := .type "cell", data := .cell none }) : CompScopeK X N k is scope d := by
 unfold compLookK at h;simp only[xfa,xef] at h;obtain ⟨⟨⟨⟨⟨h1,h2⟩,h3⟩,h4⟩,h5⟩,h6⟩:=h;refine ⟨eq_of_beq h1,one,two,fun x e=>?_,fun y hy e=>?_,fun y hy e=>?_,eq_of_beq h5,fun j i e=>?_⟩
 ·have:=h2 _ (zbc e);simp at this;exact this
 ·have:=h3 y hy;rw[e] at this;simp at this;exact this
 ·have:=h4 y hy;rw[e] at this;simp at this;exact this
 ·have hj:j < is.length:=(xbn.mp e).1;have:=h6 j (xco.mpr hj);rw[e] at this;cases e2:N[k+j]? with
  | none=>rw[e2] at this;cases this
  | some x =>
   rw[e2] at this;simp only[xfa,xfm,bne_iff_ne] at this;exact ⟨x,rfl,this.1,this.2.1,this.2.2⟩
end L2
namespace Dd
open PySem L2
section
variable {X:Cx} {tg iter elt:Expr} {ifs:List Expr} {it:SA} {bd:SG} {c:ST} {f:SE} {N:List Str} {k:Nat} {is:List Nat} {scope:Scope} {pos:Pos} {d:Str}
theorem zof {i:Nat} {x:Str} {pos' spos:Pos} (hcalm:X.calm=true) (hN:X.N.Nodup) (hxi:X.N[i]?=some x) (hx:L2.Loc X.env.scope x) (hi:JI X tg iter it) (hg:∀cl C fp s H,JG (cxK X N scope d cl C fp s H) tg bd) (hc:∀cl C fp s H,JIf (cxK X N scope d cl C fp s H) ifs c) (he:∀cl C fp s H,JE (cxK X N scope d cl C fp s H) elt f) (S:CompScopeK X N k is scope d) (hsw:swapsWith (.ListComp elt [⟨tg,iter,ifs,0⟩] scope pos) (some (.Name x pos')) spos.line X.env=pure true:=by rfl) (hf:X.fn x=true\/X.env.scope.names.lookup x=some .local:=by first | exact .inl rfl | exact .inr rfl | assumption) (hs:∀x,foldedSetIterable iter X.env x=pure x:=by intro _;rfl):JS X (.Assign [.Name x pos'] (.ListComp elt [⟨tg,iter,ifs,0⟩] scope pos) spos) (sSet i (eComp it k is bd c f)) :=
 ⟨zkm (zqq hcalm hN hxi hx hi.out (fun cl C fp s H=>(hg cl C fp s H).out) (fun cl C fp s H=>(hc cl C fp s H).out) (fun cl C fp s H=>(he cl C fp s H).out) S hsw hf hs) fun E τ H h=>by
  obtain ⟨ρ,σ,st,fl,st',a,rp,e,q⟩:=h;obtain ⟨v,st1,e1,e⟩:=zb e;cases e
  exact zso τ H _ ⟨ρ,σ,st,v,_,a,rp,e1,fun ρ' H' u x r t=>q _ _ _ x r ((a.ext x).set t i)⟩⟩
end
theorem Drew.lt {st st':Store} {n:Nat} (d:Drew st st' n) (h:n < st.length):n < st'.length:=xbf h d.len
theorem BagAt.lt {st:Store} {n:Nat} (h:BagAt st n):n < st.length:=by obtain ⟨c,x,e,_⟩:=h;exact zbk e
theorem zrj {r:List Int} {P:Int->Prop} (h:∀x∈r,P x) {y:Int} (hy:P y):∀x∈r++[y],P x:=fun x hx=>by
 rcases xca.mp hx with hx | hx
 ·exact h x hx
 ·simp at hx;subst hx;exact hy
theorem zin {α:Type} (l:List α):(l.filter fun _=>true)=l:=List.filter_eq_self.mpr (by simp)
section
variable {st:Store} {n:Nat} {Q:D->Store->Prop}
theorem zwc {a b:Int} {p:Prop} [Decidable p] {st:Store} {Q:D->Store->Prop} (q:Q (.int (if p then b else a)) st):WP (oIx (.lst [.int a,.int b]) (.int (if p then 1 else 0)) st) Q:=by
 by_cases h:p
 ·simp only[h,xet] at q ⊢;exact zbda (xs:=[.int a,.int b]) rfl rfl q
 ·simp only[h,xfl] at q ⊢;exact zbda (xs:=[.int a,.int b]) rfl rfl q
end
section
variable {st:Store} {n:Nat} {Q:D->Store->Prop}
end
section
variable {S:D} {v1 v2 v5 v6 v7 v8:Option D} {N:Int} {l:List (List Int)} {st:Store} {I:DS->Store->Prop} {Q:Fl->Store->Prop}
end
end Dd
namespace K61
end K61
namespace Dd
open PySem L2
section
variable {k:Nat} {d:D} {st:Store}
end
section
variable {k:Nat} {d:D} {st:Store} {Q:D->Store->Prop}
end
section
variable {k:Nat} {d:D} {st:Store} {Q:D->Store->Prop}
end
def FewU (l:List (List Int)):Prop:=∀ks:List (List Int),ks.Nodup->(∀x∈ks,x∈l)->ks.length<=1000000
theorem FewU.of {l U:List (List Int)} (h:∀x∈l,x∈U) (hU:U.length<=1000000):FewU l:=fun ks nd hk=>xbb (xgy nd fun x hx=>h x (hk x hx)) hU
theorem zob {l:List (List Int)} (h:l.length<=1000000):FewU l:=FewU.of (fun x hx=>hx) h
section
variable {st:Store} {n:Nat} {Q:D->Store->Prop}
theorem zve {x:D} {l:List (List Int)} (hx:seqV x=some (rowsD l)) (hl:FewU l) (k:∀g,Q (sumD (oddS l)) (st++g)):WP (zbp [x] st) Q:=by
 have cf:∀{cs:List (List Int × Int)} {i:Nat},Cnt cs (l.take i)->cs.length<=1000000:=fun {cs i} hc=>by
  have:=hl (cs.map (·.1)) hc.nd fun z hz=>xho ((hc.mem z).mp hz)
  rwa [xbd] at this
 have W:=zwa (bd:=gN 2) (body:=sDPut (eVar 1) (eVar 2) (eOp oAdd (eDGet2 (eVar 1) (eVar 2) (eC (.int 0))) (eC (.int 1)))) (xs:=rowsD l) (σ:=[some x,some (.ref st.length),none]) (st:=st++[.dT []])
  (fun i σ s=>∃(v:Option D) (cs:List (List Int × Int)),σ=[some x,some (.ref st.length),v]/\s=st++[.dT (cntD cs)]/\Cnt cs (l.take i)) ⟨none,[],rfl,rfl,⟨xft,fun k=>by simp,fun p h=>(by cases h),by simp⟩⟩ (by
   rintro i y σ s hy ⟨v,cs,rfl,rfl,hc⟩;obtain ⟨k,hk,rfl⟩:=zfi hy;obtain ⟨cs',e1,hc'⟩:=zxl hc k;have hn:(st++[O.dT (cntD cs)])[st.length]?=some (.dT (cntD cs)):=by simp
   have e2:(valD (cntD cs) k).getD (.int 0)=.int ((l.take i).count k:Nat):=by
    rw[zxm hc];split
    ·rfl
    ·rename_i z;rw[xha.mpr z];rfl
   have e3:=zij k;have e4:=zqy hn;have e5:(cntD cs).length < sizeLine:=by
    rw[xbd];exact smallT _ (cf hc)
   refine ⟨_,[some x,some (.ref st.length),some (rowD k)],st++[.dT (cntD cs')],rfl,?_,some (rowD k),cs',rfl,rfl,by rw[zcr hk];exact hc'⟩;simp only[rowD] at *
   simp only[zty,zbdc,zrv,zbav,eC_v,gN,List.set_cons_succ,xjw,List.getElem?_cons_succ,List.getElem?_cons_zero,zdg,e4,e3,e2,zzx,hn,e5,xet,e1]
   simp)
 obtain ⟨σ',st',e,v,cs,rfl,rfl,hc⟩:=W;rw[zn] at hc;have hcl:=cf hc;rw[xiz] at hc;have V:=zxj (bd:=gN 0) (c:=eB (eOp oEq (eOp oMod (eOp oDGet (eVar 1) (eVar 0)) (eC (.int 2))) (eC (.int 1)))) (f:=eVar 0) (xs:=rowsD (cs.map (·.1))) (σ:=[none,some (.ref st.length)]) (st:=st++[.fT (cntD cs)])
  (fun i acc σ s=>s=st++[.fT (cntD cs)]/\(∃w:Option D,σ=[w,some (.ref st.length)])/\acc=rowsD (((cs.map (·.1)).take i).filter fun k=>decide (l.count k % 2=1))) ⟨rfl,⟨none,rfl⟩,rfl⟩ (by
   rintro i y acc σ s hy ⟨rfl,⟨w,rfl⟩,rfl⟩;obtain ⟨k,hk,rfl⟩:=zfi hy;have hn:(st++[O.fT (cntD cs)])[st.length]?=some (.fT (cntD cs)):=by simp
   have hkl:k∈l:=(hc.mem k).mp (xcz hk);have e2:valD (cntD cs) k=some (.int (l.count k:Nat)):=by rw[zxm hc,if_pos hkl]
   have e3:oDGet (.ref st.length) (rowD k) (st++[O.fT (cntD cs)])=.ok (.int (l.count k:Nat)) _:=zrg (zqx hn) e2;have e4:(((l.count k:Nat):Int) % 2=1)↔(l.count k % 2=1):=⟨fun h=>by lia,fun h=>by lia⟩
   refine ⟨[some (rowD k),some (.ref st.length)],decide (l.count k % 2=1),st++[.fT (cntD cs)],rfl,?_,?_⟩
   ·simp only[rowD] at *
    simp[e3,e4]
   ·by_cases ho:l.count k % 2=1
    ·refine .inr ⟨xdb ho,rowD k,_,rfl,rfl,⟨_,rfl⟩,?_⟩;rw[zcr hk,xhz];simp[ho,rowsD]
    ·refine .inl ⟨xct ho,rfl,⟨_,rfl⟩,?_⟩;rw[zcr hk,xhz]
     simp[ho,rowsD])
 obtain ⟨ys,σ2,st2,e2,rfl,⟨w,rfl⟩,rfl⟩:=V;rw[zn,xiz] at e2;refine WP.of (zlo rfl ?_) (k [.fT (cntD cs)]);have nd:((cs.map (·.1)).filter fun k=>decide (l.count k % 2=1)).Nodup:=hc.nd.filter _;have mm:∀k,k∈((cs.map (·.1)).filter fun k=>decide (l.count k % 2=1))↔l.count k % 2=1:=fun k=>by
  rw[xew,hc.mem,xkm];constructor
  ·exact fun h=>h.2
  ·intro h;refine ⟨?_,h⟩;rcases xhy (l.count k) with z | z
   ·rw[z] at h;cases h
   ·exact List.count_pos_iff.mp z
 have e5:sortR ((cs.map (·.1)).filter fun k=>decide (l.count k % 2=1))=oddS l:=zvf nd mm;have few:((cs.map (·.1)).filter fun k=>decide (l.count k % 2=1)).length<=1000000:=by
  have:=xjd (fun k=>decide (l.count k % 2=1)) (cs.map (·.1));rw[xbd] at this;lia
 have e6:=zht (st:=st++[.fT (cntD cs)]) few;rw[e5] at e6;have hlen:(rowsD (cs.map (·.1))).length<=sizeLine:=by
  rw[zn,xbd];exact small _ hcl
 refine seqN (σ1:=[some x,some (.ref st.length),none]) (st1:=st++[.dT []]) (by simp) ?_;refine seqN (σ1:=[some x,some (.ref st.length),v]) (st1:=st++[.dT (cntD cs)]) (by simp[hx,e]) ?_;have e7:eComp (iDict (eVar 1)) 1 [1] (gN 0) (eB (eOp oEq (eOp oMod (eOp oDGet (eVar 1) (eVar 0)) (eC (.int 2))) (eC (.int 1)))) (eVar 0) [some x,some (.ref st.length),v] (st++[.dT (cntD cs)])
   = .ok (.lst (rowsD ((cs.map (·.1)).filter fun k=>decide (l.count k % 2=1)))) (st++[.fT (cntD cs)]):=by
  rw[zpq];have e8:iDict (eVar 1) [some x,some (.ref st.length),v] (st++[.dT (cntD cs)])=.ok (rowsD (cs.map (·.1))) (st++[.fT (cntD cs)]):=by
   simp
  rw[e8,zdg,if_pos hlen];show (compF _ _ _ _ [none,some (.ref st.length)] _).bind _=_;rw[e2]
  rfl
 rw[zyy,zpr,zmj,zpr,zmj,e7];simp only[zdg,zbcn,e6,zmd]
theorem zzv {x:D} {l:List (List Int)} (hx:seqV x=some (rowsD l)) (hl:l.length<=1000000) (k:∀g,Q (sumD (oddS l)) (st++g)):WP (zbp [x] st) Q:=zve hx (zob hl) k
end
theorem zox:∀{l:List Int} {j:Nat} {a x:Int},l[j]?=some a->(l.set j x).sum=l.sum - a+x
 | [],_,_,_,h=>by cases h
 | b::l,0,a,x,h=>by
  have h':b=a:=by simpa using h
  subst h';rw[xjw,xit,xit];lia
 | b::l,j+1,a,x,h=>by
  have ih:=zox (l:=l) (j:=j) (a:=a) (x:=x) (by simpa using h);rw[List.set_cons_succ,xit,xit,ih];lia
theorem zvu {n:Nat} {k:Int} (h0:0<=k) (h1:k < n):ixN n k=some k.toNat:=by
 unfold ixN;simp only[h0,h1,and_self,xet]
section
variable {st:Store} {n:Nat} {Q:D->Store->Prop}
end
theorem zgh {c N:Int} (hN:1<=N):0<=c % N/\c % N < N:=⟨xgz _ (by lia),xjx _ (by lia)⟩
theorem zbab {c N:Int} {i j:Nat} (hij:i < j) (hj:(j:Int) < N):(c+j) % N≠(c+i) % N:=fun e=>by
 have h:=Int.emod_eq_emod_iff_emod_sub_eq_zero.mp e;rw[show (c+j:Int) - (c+i)=j - i by lia,Int.emod_eq_of_lt (by lia) (by lia)] at h;lia
theorem zvn {l:List Int} {j:Nat} {x y:Int} (h:y∈l.set j x):y∈l\/y=x:=List.mem_or_eq_of_mem_set h
section
variable {st:Store} {n:Nat} {Q:D->Store->Prop}
theorem zec {N d:Int} (hb:BagAt st n) (hN:1<=N) (hN2:N<=1000) (hd:0<=d) (hd2:d<=1000) (k:∀r st',r.length=N.toNat->(∀x∈r,0<=x)->r.sum<=d->Drew st st' n->Q (rowD r) st'):WP (zj [.ref n,.int N,.int d] st) Q:=by
 refine zth rfl ?_;simp only[W,V];refine zdc hb (by lia) (by lia) fun l0 st1 h1 h2 d1=>?_
 refine zdc d1.bag (by lia) (by lia) fun c st2 h3 h4 d2=>?_
 have D2:=d1.trans d2;refine ⟨_,rfl,rngN (by lia) (by lia),by rw[zcc];exact small _ (by lia),?_⟩;refine zhw (fun i acc σ s=>s=st2/\acc=(List.replicate i (0:Int)).map .int/\∃v,σ=[v]) ⟨rfl,rfl,_,rfl⟩ ?_ ?_
 ·rintro i x acc σ s hx ⟨rfl,rfl,v,rfl⟩;refine ⟨_,rfl,?_⟩;simp only[W,V];refine ⟨trivial,?_,_,rfl⟩;have:=List.replicate_succ' (n:=i) (a:=(0:Int));have e2:(List.replicate (i+1) (0:Int)).map D.int=(List.replicate i (0:Int)).map D.int++[D.int 0]:=by rw[this,xgc];rfl
  rw[← e2]
  rfl
 ·rintro ys σ s ⟨rfl,rfl,v,rfl⟩;rw[zcc]
  try simp only[W,V]
  refine ⟨trivial,_,rfl,rngN (by lia) (by lia),?_⟩;have hk:st.length<=s.length:=D2.len;have hkn:s.length≠n:=xgj (D2.lt hb.lt);have fill:∀(i:Nat) (r:List Int) (x left:Int),(i:Int) < N->r.length=N.toNat->(∀y∈r,0<=y)->r.sum+left=l0->(∀j:Nat,i<=j->(j:Int) < N->r[((c+j) % N).toNat]?=some 0)->0<=x ->
    (r.set ((c+i) % N).toNat x).length=N.toNat/\(∀y∈r.set ((c+i) % N).toNat x,0<=y)/\(r.set ((c+i) % N).toNat x).sum+(left - x)=l0/\∀j:Nat,i+1<=j->(j:Int) < N->(r.set ((c+i) % N).toNat x)[((c+j) % N).toNat]?=some 0:=fun i r x left hi a1 a2 a3 a4 hx=>by
   refine ⟨by rw[xfz];exact a1,fun y hy=>?_,?_,fun j hj hj2=>?_⟩
   ·rcases zvn hy with z | z
    ·exact a2 y z
    ·rw[z];exact hx
   ·rw[zox (a4 i (xbe _) hi)];lia
   ·have m1:=zgh (c:=c+i) hN;have m2:=zgh (c:=c+j) hN;have ne:=zbab (c:=c) (N:=N) (i:=i) (j:=j) (by lia) hj2;rw[xdt (by lia)];exact a4 j (by lia) hj2
  refine zmo (fun i σ s' => ∃ (left : Int) (r : List Int) (v w : Option D), σ = [some (.ref n), some (.int N), some (.int d), some (.int left), some (.int c), some (.ref s.length), v, w] /\ 0 <= left /\ left <= d /\ r.length = N.toNat /\ (∀ x ∈ r, 0 <= x) /\ r.sum + left = l0 /\ (∀ j : Nat, i <= j -> (j : Int) < N -> r[((c + j) % N).toNat]? = some 0) /\ Drew st s' n /\ s'[s.length]? = some (.lst (r.map .int)))
   ⟨l0,List.replicate N.toNat 0,none,none,rfl,h1,by lia,by simp,by simp,by simp,fun j _ hj=>?_,D2.trans (.more D2.bag _),by simp⟩ ?_ ?_
  ·have m2:=zgh (c:=c+j) hN;rw[xgq,if_pos (by lia)]
  ·rintro i x σ s' hx ⟨left,r,v,w,rfl,a1,a2,a3,a4,a5,a6,a7,a8⟩;obtain ⟨hi,rfl⟩:=zge hx;refine ⟨_,rfl,?_⟩;unfold zbd;simp only[W,V,M,Dd.N,L];rw[xjk];refine zdc a7.bag (by lia) (by lia) fun y s2 b1 b2 e2=>?_
   have a8':s2[s.length]?=some (.lst (r.map .int)):=(e2.keep _ (zbk a8) hkn).trans a8;have E2:=a7.trans e2;have m1:=zgh (c:=c+i) hN
   try simp only[W,V,M,Dd.N,L]
   refine ⟨by lia,_,_,_,_,rfl,rfl,a8',zvu (k:=(c+i) % N) m1.1 (by rw[xbd];lia),?_⟩;have hlt:=zbk a8';obtain ⟨f1,f2,f3,f4⟩:=fill i r y left (by lia) a3 a4 a5 a6 b1;refine ⟨left - y,r.set ((c+i) % N).toNat y,_,_,rfl,by lia,by lia,f1,f2,f3,f4,E2.over hb.lt hk,?_⟩;rw[zgc hlt,List.map_set]
  ·rintro σ s' ⟨left,r,v,w,rfl,a1,a2,a3,a4,a5,a6,a7,a8⟩;rw[zcc] at a6;have m1:=zgh (c:=c+((N - 1).toNat:Nat)) hN;simp only[W,V,M,Dd.N];rw[show c+N - 1=c+((N - 1).toNat:Nat) by lia];refine ⟨by lia,_,_,_,_,rfl,rfl,a8,zvu m1.1 (by rw[xbd];lia),?_⟩;have hlt:=zbk a8;obtain ⟨f1,f2,f3,f4⟩:=fill (N - 1).toNat r left left (by lia) a3 a4 a5 a6 a1;rw[← List.map_set];have e:bTuple [.ref s.length] (s'.set s.length (.lst ((r.set ((c+((N - 1).toNat:Nat)) % N).toNat left).map .int)))=.ok (rowD (r.set ((c+((N - 1).toNat:Nat)) % N).toNat left)) (s'.set s.length (.lst ((r.set ((c+((N - 1).toNat:Nat)) % N).toNat left).map .int))):=zmc (zgc hlt);refine WP.of e ?_;exact k _ _ f1 f2 (by lia) (a7.over hb.lt hk)
theorem zsn (a:List Int) (b:Int):cutD ((a++[b]).map D.int) none (some (-1))=a.map D.int:=by
 unfold cutD;have l1:((a++[b]).map D.int).length=a.length+1:=by simp
 have e1:HT.sIx (a.length+1) 0 none=0:=rfl;have e2:HT.sIx (a.length+1) (a.length+1) (some (-1))=a.length:=by
  show (if (-1:Int) < 0 then ((-1:Int)+((a.length+1:Nat):Int)).toNat else min (-1:Int).toNat (a.length+1))=_;rw[if_pos (by decide)];lia
 rw[l1,e1,e2];simp
theorem zwb {r:List Int} {t:Int} {v:List (Option D)} (h0:r≠[]) (hl:r.length<=1000) (hp:∀x∈r,0<=x) (ht:r.sum<=t) (k:∀r',r'.length=r.length->(∀x∈r',0<=x)->r'.sum=t->Q (rowD r') st) :
  WP (eOp oAdd (eSl (eVar 0) pNone (pSome (eUn oNeg (eC (.int 1))))) (eTup (aCons (eOp oSub (eOp oAdd (eOp oIx (eVar 0) (eUn oNeg (eC (.int 1)))) (eVar 1)) (eCall bSum (aCons (eVar 0) aNil))) aNil)) (some (rowD r)::some (.int t)::v) st) Q:=by
 obtain ⟨a,b,rfl⟩:∃a b,r=a++[b]:=⟨r.dropLast,r.getLast h0,(List.dropLast_concat_getLast h0).symm⟩
 simp only[W,V,M,Dd.N];rw[zsn];have e2:oIx (rowD (a++[b])) (.int (-1)) st=.ok (.int b) st:=zjp rfl (by rw[xgc];exact zsv _ _);refine WP.of e2 ?_
 try simp only[W,V,M]
 refine ⟨_,zba (a++[b]),trivial,small _ (by simp),by rw[xbd];exact small _ (by simp at hl ⊢;lia),?_⟩;have hb:0<=b:=hp b (by simp);have:=k (a++[b+t - (a++[b]).sum]) (by simp) (zrj (fun x hx=>hp x (by simp[hx])) (by lia)) (by simp;lia);rw[rowD,xgc] at this;exact this
theorem zlb {l:List (List Int)} {r:List Int} {P:List Int->Prop} (h:∀x∈l,P x) (hr:P r):∀x∈l++[r],P x:=fun x hx=>by
 rcases xca.mp hx with hx | hx
 ·exact h x hx
 ·simp at hx;subst hx;exact hr
theorem zjg {N d c:Int} (hb:BagAt st n) (hN:1<=N) (hN2:N<=1000) (hd:0<=d) (hd2:d<=1000) (hc:0<=c) (hc2:c<=1000) {Q:List D->Store->Prop}
  (k:∀l st',(l.length:Int)=c->(∀r∈l,r.length=N.toNat/\(∀x∈r,0<=x)/\r.sum<=d)->Drew st st' n->Q (rowsD l) st') :
  WP (compF (gN 0) bYes (eCall zj (aCons (eVar 1) (aCons (eVar 2) (aCons (eVar 3) aNil)))) (rng 0 c.toNat) [none,some (.ref n),some (.int N),some (.int d)] st) Q:=by
 refine zhw (fun i acc σ s=>∃(l:List (List Int)) (v:Option D),acc=rowsD l/\l.length=i/\(∀r∈l,r.length=N.toNat/\(∀x∈r,0<=x)/\r.sum<=d)/\σ=[v,some (.ref n),some (.int N),some (.int d)]/\Drew st s n) ⟨[],none,rfl,rfl,by simp,rfl,.refl hb⟩ ?_ ?_
 ·rintro i x acc σ s hx ⟨l,v,rfl,a1,a2,rfl,a3⟩;refine ⟨_,rfl,?_⟩;simp only[W,V];exact zec a3.bag hN hN2 hd hd2 fun r s2 b1 b2 b3 b4=>⟨l++[r],_,by simp[rowsD],by simp[a1],zlb a2 ⟨b1,b2,b3⟩,rfl,a3.trans b4⟩
 ·rintro ys σ s ⟨l,v,rfl,a1,a2,rfl,a3⟩;rw[zcc] at a1;exact k l s (by lia) a2 a3
theorem zgp {l:List (List Int)} {t:Int} {m:Nat} (hm:1<=m) (hm2:m<=1000) (h:∀r∈l,r.length=m/\(∀x∈r,0<=x)/\r.sum<=t) {Q:List D->Store->Prop}
  (k:∀l',l'.length=l.length->(∀r∈l',r.length=m/\(∀x∈r,0<=x)/\r.sum=t)->Q (rowsD l') st) :
  WP (compF (gN 0) bYes (eOp oAdd (eSl (eVar 0) pNone (pSome (eUn oNeg (eC (.int 1))))) (eTup (aCons (eOp oSub (eOp oAdd (eOp oIx (eVar 0) (eUn oNeg (eC (.int 1)))) (eVar 1)) (eCall bSum (aCons (eVar 0) aNil))) aNil))) (rowsD l) [none,some (.int t)] st) Q:=by
 refine zhw (fun i acc σ s=>∃(l':List (List Int)) (v:Option D),acc=rowsD l'/\l'.length=i/\(∀r∈l',r.length=m/\(∀x∈r,0<=x)/\r.sum=t)/\σ=[v,some (.int t)]/\s=st) ⟨[],none,rfl,rfl,by simp,rfl,rfl⟩ ?_ ?_
 ·rintro i x acc σ s hx ⟨l',v,rfl,a1,a2,rfl,rfl⟩;obtain ⟨r,hr,rfl⟩:=zfi hx;obtain ⟨p1,p2,p3⟩:=h r (xcz hr);refine ⟨_,rfl,?_⟩;rw[show ∀{σ:DS} {st:Store} {Q:Bool->Store->Prop},WP (bYes σ st) Q=Q true st from fun {σ st Q}=>rfl,if_pos rfl];refine zwb (by rintro rfl;simp at p1;lia) (by lia) p2 p3 fun r' q1 q2 q3=>⟨l'++[r'],_,by simp[rowsD],by simp[a1],zlb a2 ⟨by lia,q2,q3⟩,rfl,rfl⟩
 ·rintro ys σ s ⟨l',v,rfl,a1,a2,rfl,rfl⟩;rw[zn] at a1;exact k l' a1 a2
theorem zgr {N:Int} (hb:BagAt st n) (hN:1<=N) (hN2:N<=1000) (k:∀l st',l.length<=40->SumOk N.toNat l->(∀r∈l,r.sum<=if 3 < N then 10 else 24)->Drew st st' n->Q (sumD l) st'):WP (zx [.ref n,.int N] st) Q:=by
 refine zth rfl ?_;simp only[W,V];refine ⟨small _ (by simp),trivial,zwc ?_⟩;have hD:(0:Int)<=(if 3 < N then 10 else 24)/\(if 3 < N then (10:Int) else 24)<=1000:=by split<;>lia
 generalize hdd:(if 3 < N then (10:Int) else 24)=d at hD k ⊢;refine zdc hb (by lia) (by lia) fun c0 st1 a1 a2 d1=>?_
 refine zdc d1.bag (by lia) (by lia) fun t st2 b1 b2 d2=>?_
 have D2:=d1.trans d2
 have main:∀(c:Int) (s:Store),0<=c->c<=40->Drew st s n->WP (sSeq (sSet 4 (eComp (iR1 (aCons (eVar 3) aNil)) 1 [0,1,2] (gN 0) bYes (eCall zj (aCons (eVar 1) (aCons (eVar 2) (aCons (eVar 3) aNil))))))
 (sSeq (sIf (bAnd (eB (eOp oEq (eCall zm (aCons (eVar 0) (aCons (eC (.int 2)) aNil))) (eC (.int 1)))) (eB (eOp oGt (eVar 3) (eC (.int 0))))) (sSeq (sSet 5 (eCall (bBest true) (aCons (eComp (iSeq (eVar 4)) 1 [] (gN 0) bYes (eCall bSum (aCons (eVar 0) aNil))) aNil)))
 (sSet 4 (eComp (iSeq (eVar 4)) 1 [5] (gN 0) bYes (eOp oAdd (eSl (eVar 0) pNone (pSome (eUn oNeg (eC (.int 1))))) (eTup (aCons (eOp oSub (eOp oAdd (eOp oIx (eVar 0) (eUn oNeg (eC (.int 1)))) (eVar 1)) (eCall bSum (aCons (eVar 0) aNil))) aNil)))))) sNx)
 (sRet (eCall zbp (aCons (eVar 4) aNil)))) [some (.ref n),some (.int N),some (.int d),some (.int c),none,none] s) (retK Q):=fun c s hc hc2 hs=>by
  rw[ztg];simp only[W,V,Dd.N];refine ⟨rngN (by lia) (by lia),by rw[zcc];exact small _ (by lia),?_⟩;refine zjg hs.bag hN hN2 hD.1 hD.2 hc (by lia) fun l s2 e1 e2 e3=>?_
  have D3:=hs.trans e3;have fin:∀(l:List (List Int)) (v:Option D) (s:Store),l.length<=40->(∀r∈l,r.length=N.toNat/\(∀x∈r,0<=x)/\r.sum<=d)->Drew st s n->WP (sRet (eCall zbp (aCons (eVar 4) aNil)) [some (.ref n),some (.int N),some (.int d),some (.int c),some (.lst (rowsD l)),v] s) (retK Q):=fun l v s hl h hs=>by
   simp only[W,V];refine zzv (l:=l) rfl (by lia) fun g=>k _ _ (by have:=zjn l;lia) (zmy fun r hr=>⟨(h r hr).1,(h r hr).2.1⟩) (fun r hr=>(h r (zhl hr)).2.2) (hs.trans (.more hs.bag g))
  try simp only[W,V]
  refine zdc D3.bag (by lia) (by lia) fun t s3 f1 f2 f3=>?_
  have D4:=D3.trans f3
  try simp only[W,V]
  split
  ·try simp only[W,V,Dd.N]
   split
   ·rename_i hpos
    try simp only[W,V,Dd.N]
    refine ⟨by rw[zn];exact small _ (by lia),?_⟩;refine zmm (as:=l) (fun σ=>∃v,σ=[v]) (fun _=>true) (fun r=>.int r.sum) rowD ⟨_,rfl⟩ ?_ ?_
    ·rintro r hr σ ⟨v,rfl⟩;refine ⟨_,rfl,⟨_,rfl⟩,by simp only[W,and_self],fun _=>?_⟩;simp only[W,V,M];exact ⟨r,zba r,trivial,rfl⟩
    ·rw[zin];simp only[W,V,M,Dd.N];cases l with
     | nil=>simp at e1;lia
     | cons r0 l =>
      refine ⟨r0.sum,l.map List.sum,?_,?_⟩
      ·have:=zba ((r0::l).map List.sum);rw[xdc] at this;exact this
      ·refine ⟨by rw[zn];exact small _ (by lia),?_⟩;have topm:=(zei (l.map List.sum) r0.sum).1;have top:=(zei (l.map List.sum) r0.sum).2;have td:bestI true r0.sum (l.map List.sum)<=d:=by
        rcases xbo.mp topm with z | z
        ·rw[z];exact (e2 r0 xbz).2.2
        ·obtain ⟨r,hr,z⟩:=xcp.mp z;rw[← z];exact (e2 r (xbu _ hr)).2.2
       generalize bestI true r0.sum (l.map List.sum)=t at top td ⊢;refine zgp (m:=N.toNat) (by lia) (by lia) (fun r hr=>?_) fun l' g1 g2=>?_
       ·obtain ⟨p1,p2,p3⟩:=e2 r hr
        exact ⟨p1,p2,top _ (by
         rcases xbo.mp hr with rfl | hr
         ·exact xbz
         ·exact xbu _ (List.mem_map_of_mem hr))⟩
       ·have:=fin l' (some (.int t)) s3 (by lia) (fun r hr=>⟨(g2 r hr).1,(g2 r hr).2.1,by rw[(g2 r hr).2.2];exact td⟩) D4;simp only[W,V] at this;exact this
   ·have:=fin l none s3 (by lia) e2 D4;simp only[W,V] at this;exact this
  ·have:=fin l none s3 (by lia) e2 D4;simp only[W,V] at this;exact this
 try simp only[W,V]
 split
 ·refine ⟨small _ (by simp),trivial,zwc ?_⟩;have hM:(1:Int)<=(if 3 < N then 9 else 41)/\(if 3 < N then (9:Int) else 41)<=41:=by split<;>lia
  generalize (if 3 < N then (9:Int) else 41)=M at hM ⊢;refine zdc D2.bag hM.1 (by lia) fun c s3 f1 f2 f3=>?_
  have:=main c s3 f1 (by lia) (D2.trans f3)
  try simp only[W,V]
  simp only[W,V] at this;exact this
 ·have:=main c0 st2 a1 (by lia) D2;simp only[W,V] at this;exact this
end
end Dd
namespace K03
end K03
namespace K13
open PySem PyProof.Rows
end K13
namespace Dd
open PySem L2 K13
section
variable {st:Store} {n:Nat} {Q:D->Store->Prop}
end
section
variable {st:Store} {n:Nat} {Q:D->Store->Prop}
end
section
variable {st:Store} {n:Nat} {Q:D->Store->Prop}
end
end Dd
namespace K13
end K13
namespace Dd
open PySem L2 K13
section
variable {st:Store} {n:Nat} {Q:D->Store->Prop}
end
section
variable {st:Store} {n:Nat} {Q:D->Store->Prop}
end
theorem ztq {d B:Int} {ns:List Int} (h0:0<=d) (hd:d<=B) (h:∀x∈ns,0<=x/\x<=B):0<=topI d ns/\topI d ns<=B:=by
 cases ns with
 | nil=>exact ⟨h0,hd⟩
 | cons n ns=>exact h _ (zei ns n).1
end Dd
namespace K08
end K08
namespace Dd
open PySem L2 K13
section
variable {st:Store} {n:Nat} {Q:D->Store->Prop}
end
abbrev Row:=List Int
section
variable {st:Store} {n:Nat} {Q:D->Store->Prop}
end
end Dd
namespace K11
end K11
namespace Dd
open PySem L2 K13
section
variable {st:Store} {n:Nat} {Q:D->Store->Prop}
end
section
variable {st:Store} {n:Nat} {Q:D->Store->Prop}
end
section
variable {st:Store} {n:Nat} {Q:D->Store->Prop}
end
end Dd
namespace K54
end K54
namespace Dd
open PySem L2
open PySem.Builtin.Int (intBits)
section
variable {st:Store} {n:Nat} {Q:D->Store->Prop}
theorem zls {l:List Row} (hl:l.length<=1000) (hs:∀r∈l,0<=r.sum/\r.sum < 64) (q:Q (.ref st.length) (st++[.lst ((sortI (once (l.map List.sum))).map .int)])):WP (zct [sumD l] st) Q:=by
 refine zth rfl ?_;simp only[W,V,Dd.N];refine ⟨by rw[zn];exact small _ (by lia),?_⟩;refine zmm (as:=l) (fun σ=>∃v,σ=[v]) (fun _=>true) (fun r=>.int r.sum) rowD ⟨_,rfl⟩ ?_ ?_
 ·rintro r hr σ ⟨v,rfl⟩;refine ⟨_,rfl,⟨_,rfl⟩,by simp only[W,and_self],fun _=>?_⟩;simp only[W,V,M];exact ⟨r,zba r,trivial,rfl⟩
 ·rw[zin];have e1:=zba (l.map List.sum);rw[xdc] at e1;have e2:bSortSetM [.lst (l.map fun r=>.int r.sum)] st=.ok (.ref st.length) (st++[.lst ((sortI (once (l.map List.sum))).map .int)]):=by
   unfold bSortSetM;dsimp only;rw[show (asL st (.lst (l.map fun r=>D.int r.sum))).bind asInts=some (l.map List.sum) from e1];dsimp only;rw[if_pos];rw[xef];intro x hx;obtain ⟨r,hr,rfl⟩:=xcp.mp hx;have:=hs r hr;simp[smallI];lia
  exact WP.of e2 q
end
end Dd
namespace Dd
open PySem L2
theorem sumP:∀{r:List Int},(∀x∈r,0<=x)->0<=r.sum
 | [],_=>by simp
 | a::r,h=>by
  have h1:=h a (by simp);have h2:=sumP (r:=r) fun x hx=>h x (by simp[hx])
  simp only[xit];lia
section
variable {st:Store} {Q:D->Store->Prop}
theorem zrt {l:List Row} {d:Int} {w:Option D} {Q:List D->Store->Prop} (q:Q (rowsD (l.filter fun r=>decide (r.sum=d))) st) :
  WP (compF (gN 0) (eB (eOp oEq (eCall bSum (aCons (eVar 0) aNil)) (eVar 1))) (eVar 0) (rowsD l) [w,some (.int d)] st) Q:=by
 refine zmm (as:=l) (fun σ=>∃v,σ=[v,some (.int d)]) (fun r=>decide (r.sum=d)) rowD rowD ⟨_,rfl⟩ ?_ q;rintro r hr σ ⟨v,rfl⟩;refine ⟨_,rfl,⟨_,rfl⟩,?_,fun _=>?_⟩
 ·simp only[W,V,M];refine ⟨r,zba r,?_⟩;simp only[W,V];exact ⟨trivial,trivial⟩
 ·simp only[W,V];exact ⟨trivial,trivial⟩
theorem zrd {l:List Row} {d:Int} (hl:l.length<=1000) (q:Q (sumD (l.filter fun r=>decide (r.sum=d))) st):WP (zbu [sumD l,.int d] st) Q:=by
 refine zth rfl ?_;simp only[W,V,Dd.N];refine ⟨by rw[zn];exact small _ (by lia),zrt ?_⟩;exact q
def dueL (l:List Row):List Int:=((List.range 25).filter fun n:Nat=>decide (0 < ((l.filter fun r=>decide (r.sum=(n:Int))).length:Int))).map fun n:Nat=>(n:Int)
theorem zbbe {l:List Row} (h:∀r∈l,0<=r.sum/\r.sum<=24):dueL l=sortI (once (l.map List.sum)):=by
 refine zkf ((xhs ?_ (zif _)).mpr fun x=>?_) ?_
 ·refine List.Pairwise.map _ (fun a b hab e=>hab (by have e':(a:Int)=b:=e;lia)) (List.Pairwise.filter _ xks)
 ·rw[zdw];unfold dueL;simp only[xcp,xew,xco,xkm];constructor
  ·rintro ⟨n,⟨hn,hp⟩,rfl⟩;have hp:0 < (l.filter fun r=>decide (r.sum=(n:Int))).length:=by lia
   obtain ⟨r,hr⟩:=List.exists_mem_of_length_pos hp;rw[xew] at hr;exact ⟨r,hr.1,xfp hr.2⟩
  ·rintro ⟨r,hr,rfl⟩;have:=h r hr;refine ⟨r.sum.toNat,⟨by lia,?_⟩,by lia⟩;have e:((r.sum.toNat:Nat):Int)=r.sum:=by lia
   rw[e];have:0 < (l.filter fun r'=>decide (r'.sum=r.sum)).length:=List.length_pos_of_mem (xew.mpr ⟨hr,xdb rfl⟩);lia
 ·unfold dueL;refine List.Pairwise.map _ (fun a b hab=>?_) (List.Pairwise.filter _ (List.pairwise_lt_range (n:=25)));show (a:Int)<=b;lia
theorem zwi {l:List Row} {Q:List D->Store->Prop} (hl:l.length<=40) (q:Q ((dueL l).map .int) st) :
  WP (compF (gN 0) (eB (eOp oGt (eCall bLen (aCons (eComp (iSeq (eVar 1)) 1 [0] (gN 0) (eB (eOp oEq (eCall bSum (aCons (eVar 0) aNil)) (eVar 1))) (eVar 0)) aNil)) (eC (D.int 0)))) (eVar 0) (rng 0 (Int.toNat 25)) [none,some (sumD l)] st) Q:=by
 refine zmm (as:=List.range 25) (fun σ=>∃v,σ=[v,some (sumD l)]) (fun n:Nat=>decide (0 < ((l.filter fun r=>decide (r.sum=(n:Int))).length:Int))) (fun n:Nat=>.int (0+n)) (fun n:Nat=>.int (0+n)) ⟨_,rfl⟩ ?_ ?_
 ·rintro n hn σ ⟨v,rfl⟩;refine ⟨_,rfl,⟨_,rfl⟩,?_,fun _=>?_⟩
  ·simp only[W,V,Dd.N];refine ⟨by rw[zn];exact small _ (by lia),?_⟩;rw[xjk];refine zrt ?_;simp only[W,V,Dd.N,zn]
   try exact ⟨trivial,rfl⟩
  ·simp only[W,V];exact ⟨trivial,trivial⟩
 ·have e:(List.map (fun n:Nat=>D.int (0+n)) ((List.range 25).filter fun n:Nat=>decide (0 < ((l.filter fun r=>decide (r.sum=(n:Int))).length:Int))))=(dueL l).map .int:=by
   unfold dueL;rw[xdc];exact xhu fun n _=>by simp
  rw[e];exact q
theorem zwh {l:List Row}:∀x∈dueL l,0<=x/\x<=24:=fun x hx=>by
 unfold dueL at hx;obtain ⟨n,hn,rfl⟩:=xcp.mp hx;have:=xco.mp (xew.mp hn).1;lia
theorem zbaa {n:Nat} {l:List Int} (h:st[n]?=some (.lst (l.map .int))):oEqG true (.ref n) (.lst (l.map .int)) st=.ok (.bl false) st:=by
 have e1:now st (.ref n)=.lst (l.map .int):=by
  unfold now;rw[show asL st (.ref n)=some (l.map D.int) from by unfold asL;dsimp only;rw[h]]
 have e2:now st (.lst (l.map .int))=.lst (l.map .int):=rfl;have s1:∀l:List Int,toData (.lst (l.map .int))=some (.list (dI l)):=fun l=>by
  rw[toData];have:toDatas (l.map D.int)=some (dI l):=ziq l;rw[this];rfl
 unfold oEqG dataOf;rw[e1,e2,s1];dsimp only;have sh:PySem.SeqAt.shaped (.list (dI l))=true:=zju l;rw[if_pos ⟨sh,sh⟩];have:PyData.eqv (.list (dI l)) (.list (dI l))=true:=(zsm l l).trans (by simp);rw[this];rfl
theorem zrk {d:Int} {ns:List Int}:bMaxD d [.lst (ns.map .int)] st=.ok (.int (topI d ns)) st:=by
 show (match (some (ns.map D.int)).bind asInts with
  | some ns=>Res.ok (D.int (topI d ns)) st
  | none=>Res.stuck)=_
 rw[Option.bind_some,zba]
theorem zyq {xs ys:List D} (h:xs.length+ys.length<=sizeLine):oAdd (.lst xs) (.lst ys) st=.ok (.lst (xs++ys)) st:=by
 show (if xs.length+ys.length<=sizeLine then Res.ok (D.lst (xs++ys)) st else Res.stuck)=_;rw[if_pos h]
end
section
variable {st:Store} {S v1 v2 v3 v8 v9:Option D} {l:List Row} {I:DS->Store->Prop} {Q:Fl->Store->Prop}
theorem znt {w6 w7:Option D} (hl:l.length<=40) (hs:∀r∈l,0<=r.sum/\r.sum<=24) {Q:Fl->Store->Prop}
  (k:∀w6 w7 s,Q (.nx [S,v1,v2,v3,some (sumD l),some (.lst ((dueL l).map .int)),w6,w7,v8,v9]) s) :
  WP (forF (gN 6) zhv (rng 0 2) [S,v1,v2,v3,some (sumD l),some (.lst ((dueL l).map .int)),w6,w7,v8,v9] st) Q:=by
 refine zmo (fun i σ s=>∃w6 w7:Option D,σ=[S,v1,v2,v3,some (sumD l),some (.lst ((dueL l).map .int)),w6,w7,v8,v9]) ⟨_,_,rfl⟩ ?_ ?_
 ·rintro i x σ s hx ⟨w6,w7,rfl⟩;obtain ⟨hi,rfl⟩:=zge hx;refine ⟨_,rfl,?_⟩;unfold zhv;simp only[W,V];refine zls (by lia) (fun r hr=>by have:=hs r hr;lia) ?_;rw[← zbbe hs];generalize hd:dueL l=due;have e:∀xs:List D,(s++[O.lst xs])[s.length]?=some (O.lst xs):=fun xs=>by simp
  have e1 : bIsinst [D.ref s.length, D.ty "list"] (s ++ [O.lst (due.map .int)]) = .ok (.bl true) (s ++ [O.lst (due.map .int)]) := by
   unfold bIsinst tyName;dsimp only;rw[e]
   rfl
  refine WP.of e1 ⟨true,rfl,?_⟩;rw[if_neg (by decide)];refine WP.of (zbaa (e _)) ?_;simp only[W,V,M];refine ⟨s.length,_,rfl,e _,_,_,rfl,e _,?_⟩;have hlen:due.length<=25:=by
   rw[← hd];unfold dueL
   rw[xbd];exact xbb (xjd _ _) (by simp)
  refine ⟨by rw[xgi];simp;lia,?_⟩;have e2:(s++[O.lst (due.map .int)]).set s.length (.lst (due.map .int++[.int 99]))=s++[O.lst (due.map .int++[.int 99])]:=by simp
  rw[e2];have e3:∀σ:DS,σ[7]?=some (some (.ref s.length))->eRev (eVar 7) σ (s++[O.lst (due.map D.int++[D.int 99])])=.ok .non ((s++[O.lst (due.map D.int++[D.int 99])]).set s.length (.lst (due.map D.int++[D.int 99]).reverse)):=fun σ h=>by
   unfold eRev eVar;rw[h]
   show (match (s++[O.lst (due.map D.int++[D.int 99])])[s.length]? with
    | some (.lst xs)=>Res.ok D.non ((s++[O.lst (due.map D.int++[D.int 99])]).set s.length (.lst xs.reverse))
    | _=>Res.stuck)=_
   rw[e]
  refine WP.of (e3 _ rfl) ?_;simp only[L];exact ⟨_,_,rfl⟩
 ·rintro σ s ⟨w6,w7,rfl⟩;exact k _ _ _
theorem zro {w8 w9 w6 w7:Option D} (hl:l.length<=40) (hs:∀r∈l,0<=r.sum/\r.sum<=24) {xs:List Int} {Q:Fl->Store->Prop}
  (k:∀w8 w9 s,Q (.nx [S,v1,v2,v3,some (sumD l),some (.lst ((dueL l).map .int)),w6,w7,w8,w9]) s) :
  WP (forF (gN 8) zhu (xs.map .int) [S,v1,v2,v3,some (sumD l),some (.lst ((dueL l).map .int)),w6,w7,w8,w9] st) Q:=by
 refine zmo (fun i σ s=>∃w8 w9:Option D,σ=[S,v1,v2,v3,some (sumD l),some (.lst ((dueL l).map .int)),w6,w7,w8,w9]) ⟨_,_,rfl⟩ ?_ ?_
 ·rintro i x σ s hx ⟨w8,w9,rfl⟩;rw[xcl] at hx;obtain ⟨d,hd,rfl⟩:=xdg.mp hx;refine ⟨_,rfl,?_⟩;unfold zhu;simp only[W,V];refine zrd (by lia) ?_;refine WP.of (show bIsinst [sumD (l.filter fun r => decide (r.sum = d)), D.ty "tuple"] s = .ok (.bl true) s from rfl) ⟨true, rfl, ?_⟩
  rw[if_neg (by decide)];refine ⟨rowsD l,rfl,by rw[zn];exact small _ (by lia),zrt ?_⟩;refine WP.of (zvg _ _) ?_;rw[xdb rfl];simp only[W,L,xet,Bool.not_true];rw[if_neg (by decide)];exact ⟨_,_,rfl⟩
 ·rintro σ s ⟨w8,w9,rfl⟩;exact k _ _ _
theorem znu (ns:List Int) (hl:ns.length<=63):∃st',zbcp [.scr (ns.map .int)] []=.ok (.bl true) st':=by
 have key:WP (zbcp [.scr (ns.map .int)] []) (fun v _=>v=.bl true):=by
  refine zth rfl ?_;simp only[W,V];have hle:((ns.map D.int).length:Int)<=63:=by rw[xbd];lia
  have hge:(0:Int)<=((ns.map D.int).length:Int):=by lia
  generalize ((ns.map D.int).length:Int)=len at hle hge;refine ⟨_,rfl,rngN (by split<;>lia) (by split<;>lia),?_⟩;refine zmo (fun i σ s=>∃v1 v2 v3 v4 v5 v6 v7 v8 v9:Option D,σ=[some (.scr (ns.map .int)),v1,v2,v3,v4,v5,v6,v7,v8,v9]) ⟨_,_,_,_,_,_,_,_,_,rfl⟩ ?_ ?_
  ·rintro i x σ s0 hx ⟨v1,v2,v3,v4,v5,v6,v7,v8,v9,rfl⟩;obtain ⟨hi,rfl⟩:=zge hx;have hi2:i<=10:=by split at hi<;>lia
   refine ⟨_,rfl,?_⟩;unfold zmk;simp only[W,V];rw[xjk];refine zbcd hl (by lia) fun g hb=>?_
   try simp only[W,V]
   refine zdc hb (by lia) (by lia) fun N0 s1 n1 n2 d1=>?_
   try simp only[W,V]
   have hN1:1<=1+N0:=by lia
   have hN2:1+N0<=10:=by lia
   generalize 1+N0=N at hN1 hN2 ⊢;refine zgr d1.bag hN1 (by lia) fun l s2 o1 o2 o3 d2=>?_
   have hs:∀r∈l,0<=r.sum/\r.sum<=24:=fun r hr=>⟨sumP (o2.pos r hr),by have:=o3 r hr;split at this<;>lia⟩
   simp only[W,V,Dd.N];refine ⟨rngN (by lia) (by lia),by simp[rng,xgi],?_⟩;refine zwi o1 ⟨rngN (by lia) (by lia),?_⟩;refine znt o1 hs fun w6 w7 s3=>?_
   simp only[W,V];refine WP.of zrk ?_;have top:=ztq (d:=0) (B:=24) (by lia) (by lia) (zwh (l:=l));generalize topI 0 (dueL l)=tp at top;simp only[W,V];have e1:bListR [.int (tp+2)] s3=.ok (.lst ((cntTo (tp+2).toNat).map .int)) s3:=by
    unfold bListR;dsimp only;rw[if_pos ⟨by lia,by lia⟩]
   refine WP.of e1 ?_;refine ⟨by decide,small _ (by simp),?_⟩;have e2:[D.int ((10:Int) ^ (39:Int).toNat)]=[(10:Int) ^ 39].map D.int:=rfl;rw[e2];refine WP.of (zyq (small _ (by simp[cntTo];lia))) ?_;rw[← xgc];refine ⟨_,rfl,?_⟩;refine zro o1 hs fun w8 w9 s4=>?_
   simp only[L];exact ⟨_,_,_,_,_,_,_,_,_,rfl⟩
  ·rintro σ s ⟨v1,v2,v3,v4,v5,v6,v7,v8,v9,rfl⟩;simp only[W,V]
 obtain ⟨a,st',e,rfl⟩:=key.get;exact ⟨st',e⟩
end
end Dd
namespace K04
theorem holds:∀ns:List Int,ns.length<=63->∃st',Dd.zbcp [.scr (ns.map .int)] []=.ok (.bl true) st':=fun ns hl=>Dd.znu ns hl
end K04
namespace K04
open PySem L2 Dd
def top (i:Nat):Stmt:=PySem.Challenge.pw_raisedsums_k04_degrees.main.body.getD i (.Pass ⟨0,0,0,0⟩)
abbrev zdu:Stmt:=top 4
abbrev zcw:Stmt:=top 5
abbrev zdt:Stmt:=top 7
abbrev zy:Stmt:=top 6
abbrev zbh:Stmt:=top 8
abbrev zfh:Stmt:=top 1
abbrev zcv:Stmt:=top 2
abbrev ztc:Stmt:=top 9
section
variable {P:Program} {w:World} {K:Fg} {mg:Str->Option Value} {base h:Heap}
theorem zer : FnScope ["_law_script", "_law_at", "_law_cell", "_law_mix", "_law_k"] ["_law_script", "_law_at"] (defScope zdu) := ⟨rfl, rfl, rfl, by decide +kernel, rfl, by decide +kernel, by decide +kernel⟩
theorem zjm (T : TopF K "_law_bag" zdu) (XX : K.In h) (G : h.Ns mainGlobals mg) (z_len : mg "len" = none) (z_abs : mg "abs" = none) (z_min : mg "min" = none) (z_range : mg "range" = none) : CalD P w K mg base "_law_bag" 1 ["_law_script", "_law_at"] zcl :=
 have nd:=zer.nd
 zcq (k:=0) T XX G zer (fun _ _ _ _ _ _ us hl=>len2 us hl fun _ _=>rfl) fun f cdv A outer s H E hr=>(ze (zr (i:=2) nd rfl (Or.inl rfl) zi)
 (ze (zho (zbm (zrc hr.units0) zrf (zc (pv 1)) (zq zbx zov rfl z_len zor (za (zc (pv 0)) zd)) (nomark _)) (zv (zr (i:=2) nd rfl (Or.inl rfl) (zq zss zbck rfl z_abs zbcb (za (zml (zc (pv 0)) (zc (pv 1)) (fun _ _=>rfl)) zd)))) zea)
 (ze (zr (i:=3) nd rfl (Or.inl rfl) (zbz zbi zco (zbz zjj (oI_D fun _ _ _ _=>.int _) zi (zc (pv 1))) zi))
 (ze (zey xgd rfl (zbj rfl z_range (za (zq (ziv rfl) zbcl rfl z_min zxr (za (zq zbx zov rfl z_len zor (za (zc (pv 0)) zd)) (za zi zd))) zd)) (zw (i:=4) nd rfl (Or.inl rfl))
 (zv (zr (i:=3) nd rfl (Or.inl rfl) (zbz zfk (oI_D fun _ _ _ _=>.int _) (zbz zbi zco (zbz zbi zco (zbz zjj (oI_D fun _ _ _ _=>.int _) (zc (pv 3)) zi) (zbz zfk (oI_D fun _ _ _ _=>.int _) (zml (zc (pv 0)) (zc (pv 4)) (fun _ _=>rfl)) zi)) (zc (pv 4))) zi))))
 (ze (zho (zbm (zrc hr.units0) zrf (zc (pv 2)) (zbz zuy (oI_D fun _ _ _ _=>.int _) zi zi) (nomark _)) (zv (zr (i:=2) nd rfl (Or.inl rfl) zi)) zea)
 (zv (zcf (zxa (za (zc (pv 2)) (za (zc (pv 3)) zd))))))))))
theorem zds : FnScope ["_law_bag_here", "_law_many", "_law_digit", "_law_number", "_law_room"] ["_law_bag_here", "_law_many"] (defScope zcw) := ⟨rfl, rfl, rfl, by decide +kernel, rfl, by decide +kernel, by decide +kernel⟩
theorem zhk (T : TopF K "_law_take" zcw) (XX : K.In h) (G : h.Ns mainGlobals mg)  : CalD P w K mg base "_law_take" 1 ["_law_bag_here", "_law_many"] zm :=
 have nd:=zds.nd
 zcq (k:=0) T XX G zds (fun _ _ _ _ _ _ us hl=>len2 us hl fun _ _=>rfl) fun f cdv A outer s H E hr=>(ze (zho (zbm zva (znj fun _ _ _ _=>.bl _) (zml (zc (pv 0)) zi (fun _ _=>rfl)) zi (nomark _)) (ze (zr (i:=2) nd rfl (Or.inl rfl) (zbz zfk (oI_D fun _ _ _ _=>.int _) (zml (zc (pv 0)) zi (fun _ _=>rfl)) (zc (pv 1))))
 (ze (zdm (zbz zks (oI_D fun _ _ _ _=>.int _) (zml (zc (pv 0)) zi (fun _ _=>rfl)) (zc (pv 1))) (zc (pv 0)) zi)
 (zv (zcf (zc (pv 2)))))) zea)
 (ze (zr (i:=3) nd rfl (Or.inl rfl) zi)
 (ze (zr (i:=4) nd rfl (Or.inl rfl) zi)
 (ze (zod xgd (zbm (zrc hr.units0) zrf (zc (pv 4)) (zc (pv 1)) (nomark _)) (ze (zdm (zbz zfk (oI_D fun _ _ _ _=>.int _) (zbz zbi zco (zbz zjj (oI_D fun _ _ _ _=>.int _) (zml (zc (pv 0)) zi (fun _ _=>rfl)) zi) zi) zi) (zc (pv 0)) zi)
 (ze (zr (i:=3) nd rfl (Or.inl rfl) (zbz zbi zco (zbz zjj (oI_D fun _ _ _ _=>.int _) (zc (pv 3)) zi) (zbz zfk (oI_D fun _ _ _ _=>.int _) (zbz zjj (oI_D fun _ _ _ _=>.int _) (zbz zks (oI_D fun _ _ _ _=>.int _) (zml (zc (pv 0)) zi (fun _ _=>rfl)) zi) zi) zi)))
 (zv (zr (i:=4) nd rfl (Or.inl rfl) (zbz zjj (oI_D fun _ _ _ _=>.int _) (zc (pv 4)) zi))))))
 (zv (zcf (zbz zfk (oI_D fun _ _ _ _=>.int _) (zc (pv 3)) (zc (pv 1)))))))))
theorem zeq : FnScope ["_law_products", "_law_often", "_law_product"] ["_law_products"] (defScope zdt) := ⟨rfl, rfl, rfl, by decide +kernel, rfl, by decide +kernel, by decide +kernel⟩
theorem zjl (T : TopF K "_law_odd" zdt) (XX : K.In h) (G : h.Ns mainGlobals mg) (z_sorted : mg "sorted" = none) (z_tuple : mg "tuple" = none) : CalD P w K mg base "_law_odd" 1 ["_law_products"] zbp :=
 have nd:=zeq.nd
 zcq (k:=0) T XX G zeq (fun _ _ _ _ _ _ us hl=>len1 us hl fun _=>rfl) fun f cdv A outer s H E hr=>(ze (zr (i:=1) nd rfl (Or.inr rfl) zxb)
 (ze (zey xgd rfl (zde (zc (pv 0))) (zw (i:=2) nd rfl (Or.inl rfl))
 (zv (zsa (zbar hr) (zc (pv 1)) (zc (pv 2)) (zbz zbi zco (zsh (zbar hr) (zc (pv 1)) (zc (pv 2)) zi ⟨rfl,rfl,rfl,rfl⟩) zi) rfl)))
 (zv (zcf (zcj zbo zfv rfl z_tuple zeh (za (zq (zhs rfl hr.units) zou rfl z_sorted zix (za (zez rfl (zsd (zc (pv 1))) (fun _ _ _ _ _ => (zw (i := 0) (show (["_law_product", "_law_often"] : List Str).Nodup from by decide +kernel) rfl (Or.inl rfl))) (fun _ _ _ _ _ => (zed (zbm (zjk hr.units) zpe (zbz zfk (oI_D fun _ _ _ _ => .int _) (zxc (zbar hr) (zc (pv 1)) (zc (pv 0)) (fun _ _ => rfl)) zi) zi (nomark _)))) (fun _ _ _ _ _ => (zc (pv 0))) (N := ["_law_product", "_law_often"]) (k := 1) (is := [1]) (zcs (by rfl))) zd)) zd))))))
theorem zbe : FnScope ["_law_bag_here", "_law_n", "_law_most", "_law_left", "_law_start", "_law_exponents", "_law_k", "_law_e"] ["_law_bag_here", "_law_n", "_law_most"] (defScope zy) := ⟨rfl, rfl, rfl, by decide +kernel, rfl, by decide +kernel, by decide +kernel⟩
theorem zcm (T : TopF K "_law_drawn_product" zy) (XX : K.In h) (G : h.Ns mainGlobals mg) (z_range : mg "range" = none) (z_tuple : mg "tuple" = none) (c__law_take : CalD P w K mg base "_law_take" 1 ["_law_bag_here", "_law_many"] zm) : CalD P w K mg base "_law_drawn_product" 2 ["_law_bag_here", "_law_n", "_law_most"] zj :=
  have nd := zbe.nd
  zcq (k := 1) T XX G zbe (fun _ _ _ _ _ _ us hl => len3 us hl fun _ _ _ => rfl) fun f cdv A outer s H E hr => (ze (zr (i := 3) nd rfl (Or.inl rfl) (zbn c__law_take (fun _ _ _ _ h => zbl h) (hr.mono (by decide)) rfl (za (zc (pv 0)) (za (zbz zbi zco (zc (pv 2)) zi) zd))))
  (ze (zr (i := 4) nd rfl (Or.inl rfl) (zbn c__law_take (fun _ _ _ _ h => zbl h) (hr.mono (by decide)) rfl (za (zc (pv 0)) (za (zc (pv 1)) zd))))
  (ze (zoe (i := 5) rfl nd rfl (Or.inl rfl) (zbj rfl z_range (za (zc (pv 1)) zd)) (fun _ _ _ _ _ => (zw (i := 0) (show (["_law_letter"] : List Str).Nodup from by decide +kernel) rfl (Or.inl rfl))) (fun _ _ _ _ _ => zee) (fun _ _ _ _ _ => zi) (N := ["_law_letter"]) (k := 1) (is := []) (zcs (by rfl)))
  (ze (zey xgd rfl (zbj rfl z_range (za (zbz zng (znj fun _ _ _ _ => .int _) (zc (pv 1)) zi) zd)) (zw (i := 6) nd rfl (Or.inl rfl))
  (ze (zr (i := 7) nd rfl (Or.inl rfl) (zbn c__law_take (fun _ _ _ _ h => zbl h) (hr.mono (by decide)) rfl (za (zc (pv 0)) (za (zbz zbi zco (zc (pv 3)) zi) zd))))
  (ze (zdm (zc (pv 7)) (zc (pv 5)) (zbz zfk (oI_D fun _ _ _ _ => .int _) (zbz zbi zco (zc (pv 4)) (zc (pv 6))) (zc (pv 1))))
  (zv (zr (i := 3) nd rfl (Or.inl rfl) (zbz zng (znj fun _ _ _ _ => .int _) (zc (pv 3)) (zc (pv 7))))))))
  (ze (zdm (zc (pv 3)) (zc (pv 5)) (zbz zfk (oI_D fun _ _ _ _ => .int _) (zbz zng (znj fun _ _ _ _ => .int _) (zbz zbi zco (zc (pv 4)) (zc (pv 1))) zi) (zc (pv 1))))
  (zv (zcf (zcj zbo zfv rfl z_tuple zeh (za (zc (pv 5)) zd)))))))))
theorem zby : FnScope ["_law_bag_here", "_law_n", "_law_most", "_law_many", "_law_products", "_law_degree"] ["_law_bag_here", "_law_n"] (defScope zbh) := ⟨rfl, rfl, rfl, by decide +kernel, rfl, by decide +kernel, by decide +kernel⟩
theorem zdh (T : TopF K "_law_drawn_sum" zbh) (XX : K.In h) (G : h.Ns mainGlobals mg) (z_int : mg "int" = none) (z_range : mg "range" = none) (z_sum : mg "sum" = none) (z_max : mg "max" = none) (c__law_take : CalD P w K mg base "_law_take" 1 ["_law_bag_here", "_law_many"] zm) (c__law_drawn_product : CalD P w K mg base "_law_drawn_product" 2 ["_law_bag_here", "_law_n", "_law_most"] zj) (c__law_odd : CalD P w K mg base "_law_odd" 1 ["_law_products"] zbp) : CalD P w K mg base "_law_drawn_sum" 3 ["_law_bag_here", "_law_n"] zx :=
  have nd := zby.nd
  zcq (k := 2) T XX G zby (fun _ _ _ _ _ _ us hl => len2 us hl fun _ _ => rfl) fun f cdv A outer s H E hr => (ze (zr (i := 2) nd rfl (Or.inr rfl) (zml (zsf (za zi (za zi zd))) (zcj ziw zxy rfl z_int zxt (za (zxf zva (znj fun _ _ _ _ => .bl _) (zc (pv 1)) zi (nomark _)) zd)) (fun _ _ => rfl)))
  (ze (zr (i := 3) nd rfl (Or.inl rfl) (zbn c__law_take (fun _ _ _ _ h => zbl h) (hr.mono (by decide)) rfl (za (zc (pv 0)) (za zi zd))))
  (ze (zho (zbm (zjk hr.units) zpe (zbn c__law_take (fun _ _ _ _ h => zbl h) (hr.mono (by decide)) rfl (za (zc (pv 0)) (za zi zd))) zi (nomark _)) (zv (zr (i := 3) nd rfl (Or.inl rfl) (zbn c__law_take (fun _ _ _ _ h => zbl h) (hr.mono (by decide)) rfl (za (zc (pv 0)) (za (zml (zsf (za zi (za zi zd))) (zcj ziw zxy rfl z_int zxt (za (zxf zva (znj fun _ _ _ _ => .bl _) (zc (pv 1)) zi (nomark _)) zd)) (fun _ _ => rfl)) zd))))) zea)
  (ze (zlq (i := 4) rfl nd rfl (Or.inl rfl) (zbj rfl z_range (za (zc (pv 3)) zd)) (fun _ _ _ _ _ => (zw (i := 0) (show (["_law_k", "_law_bag_here", "_law_n", "_law_most"] : List Str).Nodup from by decide +kernel) rfl (Or.inl rfl))) (fun _ _ _ _ _ => zee) (fun _ _ _ _ _ => (zbn c__law_drawn_product (fun _ _ _ _ h => zbl h) (hr.mono (by decide)) rfl (za (zc (pv 1)) (za (zc (pv 2)) (za (zc (pv 3)) zd))))) (N := ["_law_k", "_law_bag_here", "_law_n", "_law_most"]) (k := 1) (is := [0, 1, 2]) (zcs (by rfl)))
  (ze (zho (JW.pt (zwg (zbm (zjk hr.units) zpe (zbn c__law_take (fun _ _ _ _ h => zbl h) (hr.mono (by decide)) rfl (za (zc (pv 0)) (za zi zd))) zi (nomark _)) (zlp (zbm zva (znj fun _ _ _ _ => .bl _) (zc (pv 3)) zi (nomark _)) (by first | exact Or.inl rfl | exact Or.inr rfl)))) (ze (zr (i := 5) nd rfl (Or.inr rfl) (zq (zop rfl) zxz rfl z_max zxs (za (zez rfl (zde (zc (pv 4))) (fun _ _ _ _ _ => (zw (i := 0) (show (["_law_product"] : List Str).Nodup from by decide +kernel) rfl (Or.inl rfl))) (fun _ _ _ _ _ => zee) (fun _ _ _ _ _ => (zq (zck rfl) zjx rfl z_sum zjw (za (zc (pv 0)) zd))) (N := ["_law_product"]) (k := 1) (is := []) (zcs (by rfl))) zd)))
  (zv (zlq (i := 4) rfl nd rfl (Or.inl rfl) (zde (zc (pv 4))) (fun _ _ _ _ _ => (zw (i := 0) (show (["_law_product", "_law_degree"] : List Str).Nodup from by decide +kernel) rfl (Or.inl rfl))) (fun _ _ _ _ _ => zee) (fun _ _ _ _ _ => (zbz zbi zco (zber (zc (pv 0)) zsc (zsb (zwy zi))) (zbbq (za (zbz zng (znj fun _ _ _ _ => .int _) (zbz zbi zco (zml (zc (pv 0)) (zwy zi) (fun _ _ => rfl)) (zc (pv 1))) (zq (zck rfl) zjx rfl z_sum zjw (za (zc (pv 0)) zd))) zd)))) (N := ["_law_product", "_law_degree"]) (k := 1) (is := [5]) (zcs (by rfl))))) zea)
  (zv (zcf (zbn c__law_odd (fun _ _ _ _ h => zbl h) (hr.mono (by decide)) rfl (za (zc (pv 4)) zd)))))))))
theorem zgd : FnScope ["some"] ["some"] (defScope zfh) := ⟨rfl, rfl, rfl, by decide +kernel, rfl, by decide +kernel, by decide +kernel⟩
theorem zku (T : TopF K "degrees" zfh) (XX : K.In h) (G : h.Ns mainGlobals mg) (z_sum : mg "sum" = none) (z_sorted : mg "sorted" = none) (z_set : mg "set" = none) : CalD P w K mg base "degrees" 1 ["some"] zct :=
 have nd:=zgd.nd
 zcq (k := 0) T XX G zgd (fun _ _ _ _ _ _ us hl => len1 us hl fun _ => rfl) fun f cdv A outer s H E hr => (zv (zcf (zbeq rfl zjy rfl z_sorted zix rfl z_set zbca (za (zez rfl (zde (zc (pv 0))) (fun _ _ _ _ _ => (zw (i := 0) (show (["product"] : List Str).Nodup from by decide +kernel) rfl (Or.inl rfl))) (fun _ _ _ _ _ => zee) (fun _ _ _ _ _ => (zq (zck rfl) zjx rfl z_sum zjw (za (zc (pv 0)) zd))) (N := ["product"]) (k := 1) (is := []) (zcs (by rfl))) zd))))
theorem zdr : FnScope ["some", "d"] ["some", "d"] (defScope zcv) := ⟨rfl, rfl, rfl, by decide +kernel, rfl, by decide +kernel, by decide +kernel⟩
theorem zhj (T : TopF K "of_degree" zcv) (XX : K.In h) (G : h.Ns mainGlobals mg) (z_sum : mg "sum" = none) (z_tuple : mg "tuple" = none) : CalD P w K mg base "of_degree" 1 ["some", "d"] zbu :=
 have nd:=zdr.nd
 zcq (k := 0) T XX G zdr (fun _ _ _ _ _ _ us hl => len2 us hl fun _ _ => rfl) fun f cdv A outer s H E hr => (zv (zcf (zcj zbo zfv rfl z_tuple zeh (za (zez rfl (zde (zc (pv 0))) (fun _ _ _ _ _ => (zw (i := 0) (show (["product", "d"] : List Str).Nodup from by decide +kernel) rfl (Or.inl rfl))) (fun _ _ _ _ _ => (zed (zbm (zjk hr.units) zpe (zq (zck rfl) zjx rfl z_sum zjw (za (zc (pv 0)) zd)) (zc (pv 1)) (nomark _)))) (fun _ _ _ _ _ => (zc (pv 0))) (N := ["product", "d"]) (k := 1) (is := [1]) (zcs (by rfl))) zd))))
theorem ztx : FnScope ["_law_script", "_law_at", "_law_bag_here", "_law_n", "_law_some", "_law_due", "_law_turn", "_law_found", "_law_d", "_law_part"] ["_law_script"] (defScope ztc) := ⟨rfl, rfl, rfl, by decide +kernel, rfl, by decide +kernel, by decide +kernel⟩
theorem zzu {f : Addr} {fd : FuncData} (F : Fun K "law" "law" ztc f fd) (z_len : mg "len" = none) (z_min : mg "min" = none) (z_max : mg "max" = none) (z_range : mg "range" = none) (z_sum : mg "sum" = none) (z_list : mg "list" = none) (z_isinstance : mg "isinstance" = none) (z_tuple : mg "tuple" = none) (c__law_bag : CalD P w K mg base "_law_bag" 1 ["_law_script", "_law_at"] zcl) (c__law_take : CalD P w K mg base "_law_take" 1 ["_law_bag_here", "_law_many"] zm) (c__law_drawn_sum : CalD P w K mg base "_law_drawn_sum" 3 ["_law_bag_here", "_law_n"] zx) (c_degrees : CalD P w K mg base "degrees" 1 ["some"] zct) (c_of_degree : CalD P w K mg base "of_degree" 1 ["some", "d"] zbu) : FnOk P w K mg base CX0 4 f fd ["_law_script"] (spLaw K) :=
  have nd := ztx.nd
  zvr (k := 3) F ztx rfl (fun cdv A outer s H E hr => (ze (zey xgd rfl (zbj rfl z_range (za (zq (zoq rfl) zbcl rfl z_max zxs (za zi (za (zq (ziv rfl) zbcl rfl z_min zxr (za zi (za (zq zbx zov rfl z_len zor (za (zc (pv 0)) zd)) zd))) zd))) zd)) (zw (i := 1) nd rfl (Or.inl rfl))
  (ze (zr (i := 2) nd rfl (Or.inl rfl) (zbn c__law_bag (fun _ _ _ _ h => zbl h) (hr.mono (by decide)) rfl (za (zc (pv 0)) (za (zc (pv 1)) zd))))
  (ze (zr (i := 3) nd rfl (Or.inl rfl) (zbz zbi zco zi (zbn c__law_take (fun _ _ _ _ h => zbl h) (hr.mono (by decide)) rfl (za (zc (pv 2)) (za zi zd)))))
  (ze (zr (i := 4) nd rfl (Or.inr rfl) (zbn c__law_drawn_sum (fun _ _ _ _ h => zbl h) (hr.mono (by decide)) rfl (za (zc (pv 2)) (za (zc (pv 3)) zd))))
  (ze (zof (i := 5) rfl nd rfl (Or.inl rfl) (zbj rfl z_range (za zi zd)) (fun _ _ _ _ _ => (zw (i := 0) (show (["_law_d", "_law_some"] : List Str).Nodup from by decide +kernel) rfl (Or.inr rfl))) (fun _ _ _ _ _ => (zed (zbm zva (znj fun _ _ _ _ => .bl _) (zq zbx zov rfl z_len zor (za (zez rfl (zde (zc (pv 1))) (fun _ _ _ _ _ => (zw (i := 0) (show (["_law_product", "_law_d"] : List Str).Nodup from by decide +kernel) rfl (Or.inl rfl))) (fun _ _ _ _ _ => (zed (zbm (zjk hr.units) zpe (zq (zck rfl) zjx rfl z_sum zjw (za (zc (pv 0)) zd)) (zc (pv 1)) (nomark _)))) (fun _ _ _ _ _ => (zc (pv 0))) (N := ["_law_product", "_law_d"]) (k := 1) (is := [0]) (zcs (by rfl))) zd)) zi (nomark _)))) (fun _ _ _ _ _ => (zc (pv 0))) (N := ["_law_d", "_law_some"]) (k := 1) (is := [4]) (zsp (d := "_law_d") (by rfl) (fun _ _ => rfl) (fun _ => rfl)))
  (ze (zey xgd rfl (zbj rfl z_range (za zi zd)) (zw (i := 6) nd rfl (Or.inl rfl))
  (ze (zr (i := 7) nd rfl (Or.inl rfl) (zbn c_degrees (fun _ _ _ _ h => zbl h) (hr.mono (by decide)) rfl (za (zc (pv 4)) zd)))
  (ze (zho (JW.pt (zwf (zpt (zps (zq zfb zjc rfl z_isinstance zdf (za (zc (pv 7)) (za (zxe (zpc (v := .ty "list") rfl z_list zpz rfl) (fun _ _ => .ty _)) zd))))) (zlp (zbm (zuz hr.units) zpe (zc (pv 7)) (zc (pv 5)) (nomark _)) (by first | exact Or.inl rfl | exact Or.inr rfl)))) (zv (zcf zbby)) zea)
  (ze (zlr (zok (zc (pv 7)) (za zi zd)))
  (zv (zlr (zlu (zc (pv 7)))))))))
  (zv (zey xgd rfl (zde (zbz zbi zco (zsg rfl rfl z_list zpz rfl z_range zst (za (zbz zbi zco (zwz rfl rfl z_max (za (zc (pv 5)) zd)) zi) zd)) (zsf (za (zbz zuy (oI_D fun _ _ _ _ => .int _) zi zi) zd)))) (zw (i := 8) nd rfl (Or.inr rfl))
  (ze (zr (i := 9) nd rfl (Or.inl rfl) (zbn c_of_degree (fun _ _ _ _ h => zbl h) (hr.mono (by decide)) rfl (za (zc (pv 4)) (za (zc (pv 8)) zd))))
  (zv (zho (JW.pt (zwf (zpt (zps (zq zfb zjc rfl z_isinstance zdf (za (zc (pv 9)) (za (zxe (zpc (v := .ty "tuple") rfl z_tuple zeh rfl) (fun _ _ => .ty _)) zd))))) (zlp (zbm (zuz hr.units) zpe (zc (pv 9)) (zcj zbo zfv rfl z_tuple zeh (za (zez rfl (zde (zc (pv 4))) (fun _ _ _ _ _ => (zw (i := 0) (show (["_law_product", "_law_d"] : List Str).Nodup from by decide +kernel) rfl (Or.inl rfl))) (fun _ _ _ _ _ => (zed (zbm (zjk hr.units) zpe (zq (zck rfl) zjx rfl z_sum zjw (za (zc (pv 0)) zd)) (zc (pv 1)) (nomark _)))) (fun _ _ _ _ _ => (zc (pv 0))) (N := ["_law_product", "_law_d"]) (k := 1) (is := [8]) (zcs (by rfl))) zd)) (nomark _)) (by first | exact Or.inl rfl | exact Or.inr rfl)))) (zv (zcf zbby)) zea)))))))))))
  (zv (zcf zbby)))) K04.holds
end
theorem all_mk {l : PySem.W.OpenLaw} {w : World} {K : Fg} {h : Heap} {mg : Str -> Option Value} {fa : Addr} (X : K.In h) (G : h.Ns mainGlobals mg) (hfa : mg "law" = some (.ref fa))
  (t1 : TopF K "_law_bag" zdu) (t2 : TopF K "_law_take" zcw) (t3 : TopF K "_law_odd" zdt) (t4 : TopF K "_law_drawn_product" zy) (t5 : TopF K "_law_drawn_sum" zbh) (t6 : TopF K "degrees" zfh) (t7 : TopF K "of_degree" zcv) (t8 : TopF K "law" ztc) (z0 : PySem.W.nsIn K mainGlobals "len" = some none) (z1 : PySem.W.nsIn K mainGlobals "abs" = some none) (z2 : PySem.W.nsIn K mainGlobals "min" = some none) (z3 : PySem.W.nsIn K mainGlobals "range" = some none) (z4 : PySem.W.nsIn K mainGlobals "sorted" = some none) (z5 : PySem.W.nsIn K mainGlobals "tuple" = some none) (z6 : PySem.W.nsIn K mainGlobals "int" = some none) (z7 : PySem.W.nsIn K mainGlobals "sum" = some none) (z8 : PySem.W.nsIn K mainGlobals "max" = some none) (z9 : PySem.W.nsIn K mainGlobals "set" = some none) (z10 : PySem.W.nsIn K mainGlobals "list" = some none) (z11 : PySem.W.nsIn K mainGlobals "isinstance" = some none)   :
  ∃ fd : FuncData, (∀ (s : Shared) (v : Value), BindsTo s fd ⟨[v], []⟩ [("_law_script", v)]) /\ ∀ base : Heap, K.In base -> base.Ns mainGlobals mg -> FnOk l.prog w K mg base CX0 4 fa fd ["_law_script"] (spLaw K) := by
 have x0:=xdh X G z0;have x1:=xdh X G z1;have x2:=xdh X G z2;have x3:=xdh X G z3;have x4:=xdh X G z4;have x5:=xdh X G z5;have x6:=xdh X G z6;have x7:=xdh X G z7;have x8:=xdh X G z8;have x9:=xdh X G z9;have x10:=xdh X G z10;have x11:=xdh X G z11;obtain ⟨f,fd,a,F⟩:=t8;have e:=hfa.symm.trans (PySem.W.mg_of X G a);cases e;obtain ⟨oc,od,kV,doc,pm,an,cdv,ct,osl,rfl,lk,hcd⟩:=id F.ex;refine ⟨PySem.W.fnOf "law" "law" (defArgs ztc) (defBody ztc) (defScope ztc) .none kV doc pm an cdv ct, fun s v => .of_eq rfl, fun base _ _ => ?_⟩
 have k__law_bag:CalD l.prog w K mg base _ _ _ _:=zjm t1 X G x0 x1 x2 x3
 have k__law_take:CalD l.prog w K mg base _ _ _ _:=zhk t2 X G 
 have k__law_odd:CalD l.prog w K mg base _ _ _ _:=zjl t3 X G x4 x5
 have k__law_drawn_product:CalD l.prog w K mg base _ _ _ _:=zcm t4 X G x3 x5 k__law_take
 have k__law_drawn_sum:CalD l.prog w K mg base _ _ _ _:=zdh t5 X G x6 x3 x7 x8 k__law_take k__law_drawn_product k__law_odd
 have k_degrees:CalD l.prog w K mg base _ _ _ _:=zku t6 X G x7 x4 x9
 have k_of_degree:CalD l.prog w K mg base _ _ _ _:=zhj t7 X G x7 x5
 exact zzu F x0 x2 x8 x3 x7 x10 x11 x5 k__law_bag k__law_take k__law_drawn_sum k_degrees k_of_degree
end K04
open PySem PySem.W PyProof.Rows
set_option maxRecDepth 100000 in
set_option maxHeartbeats 0 in
theorem PySem.Challenge.cw_raisedsums_k04_degrees_holds : PySem.Challenge.rw_raisedsums_k04_degrees.Holds := by
  w_on; o_law; k_head; (case hw => w_witness2)
  k_fill
  refine L2.ztj (l := PySem.Challenge.rw_raisedsums_k04_degrees) (n := 63) (k := 4) (x := "_law_script") (CX := fun _ => L2.CX0) (sp := fun w => Dd.spLaw _) rfl (by decide) rfl ⟨rfl, by decide, by decide⟩ (fun w h Y => PySem.W.kIn_of Y) ?F (fun _ _ a ns hl _ hS => ⟨a, ns, rfl, hS, hl, fun _ => rfl⟩) (fun _ _ _ _ _ z => z)
  case F =>
    intro w mg fa h KX G hmg
    refine' K04.all_mk KX G hmg ?t1 ?t2 ?t3 ?t4 ?t5 ?t6 ?t7 ?t8 ?z0 ?z1 ?z2 ?z3 ?z4 ?z5 ?z6 ?z7 ?z8 ?z9 ?z10 ?z11  
    all_goals first|k_is|kernel_rfl|(refine' L2.zfy ?a ?l ?c ?k;(case a=>k_is);(case l=>k_is);(case c=>k_is);(case k=>k_is))
#print axioms PySem.Challenge.cw_raisedsums_k04_degrees_holds
