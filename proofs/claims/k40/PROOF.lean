import PyProof.Rows.All
import Wide.All
import OpenK.AllK
import Wide.FinOn
import PyProof.EqAt
import PyProof.EqKinds
import PyProof.TupleCall
import PySem.Challenge.RW_raisedsums_k40_counts_multiplied
set_option Elab.async false
set_option linter.all false
set_option maxRecDepth 100000
set_option genSizeOfSpec false
set_option genInjectivity false
local macro_rules | `(tactic| omega)=>`(tactic| first | with_reducible assumption | with_reducible exact Nat.le_of_lt (by assumption) | with_reducible exact Int.le_of_lt (by assumption) | with_reducible exact Nat.lt_of_lt_of_le (by assumption) (by assumption) | with_reducible exact Nat.lt_of_le_of_lt (by assumption) (by assumption) | with_reducible exact Nat.le_trans (by assumption) (by assumption) | with_reducible exact Int.le_trans (by assumption) (by assumption) | lia)
namespace L2
open PySem PySem.Spec PyProof.Rows
noncomputable abbrev Key:=Sum Int Str
noncomputable def keyIs:Key→Value→Bool
 | .inl k,v=>Value.isInt k v
 | .inr x,v=>Value.isStrOf x v
noncomputable def keyH (w:World):Key→Int
 | .inl k=>hashInt k
 | .inr x=>hashStr w x
theorem zbj:∀{k:Key} {v:Value},keyIs k v=true→(∃i t,k=Sum.inl i∧v=Value.int i t)∨(∃x t,k=Sum.inr x∧v=Value.str x t)
 | .inl i,v,h=>by
  obtain ⟨t,e⟩:=Value.isInt_shape (k:=i) (v:=v) h
  exact .inl ⟨i,t,rfl,e⟩
 | .inr x,v,h=>by
  obtain ⟨t,e⟩:=Value.isStrOf_shape (x:=x) (v:=v) h
  exact .inr ⟨x,t,rfl,e⟩
theorem zqo (i:Int) (t:Tok):keyIs (.inl i) (.int i t)=true:=by simp[keyIs,Value.isInt]
theorem zqn (x:Str) (t:Tok):keyIs (.inr x) (.str x t)=true:=by simp[keyIs,Value.isStrOf]
theorem key_ll (a b:Int):decide ((Sum.inl a:Key)=Sum.inl b)=(a == b):=by
 by_cases e:a=b
 ·subst e;simp
 ·have h:¬ (Sum.inl a:Key)=Sum.inl b:=fun q=>e (Sum.inl.inj q)
  rw[decide_eq_false h]
  exact (beq_eq_false_iff_ne.mpr e).symm
theorem key_rr (a b:Str):decide ((Sum.inr a:Key)=Sum.inr b)=decide (a=b):=by
 by_cases e:a=b
 ·subst e;simp
 ·have h:¬ (Sum.inr a:Key)=Sum.inr b:=fun q=>e (Sum.inr.inj q)
  rw[decide_eq_false h,decide_eq_false e]
theorem key_lr (a:Int) (b:Str):decide ((Sum.inl a:Key)=Sum.inr b)=false:=decide_eq_false (fun q=>nomatch q)
theorem key_rl (a:Str) (b:Int):decide ((Sum.inr a:Key)=Sum.inl b)=false:=decide_eq_false (fun q=>nomatch q)
noncomputable def mixKind (prog:Program) (w:World):PySem.KeyKind prog w Key where
 is:=keyIs
 hash:=keyH w
 inj:=fun v a b ha hb=>by
  rcases zbj ha with ⟨i,t,rfl,rfl⟩ | ⟨x,t,rfl,rfl⟩
  ·rcases zbj hb with ⟨j,u,rfl,e⟩ | ⟨y,u,rfl,e⟩
   ·injection e with e1 _;rw[e1]
   ·exact nomatch e
  ·rcases zbj hb with ⟨j,u,rfl,e⟩ | ⟨y,u,rfl,e⟩
   ·exact nomatch e
   ·injection e with e1 _;rw[e1]
 byValue:=fun k v h=>by
  rcases zbj h with ⟨i,t,rfl,rfl⟩ | ⟨x,t,rfl,rfl⟩<;>rfl
 pyHash:=fun hv h=>by
  rcases zbj hv with ⟨i,t,rfl,rfl⟩ | ⟨x,t,rfl,rfl⟩
  ·exact wpAny_pyHash_int h
  ·exact wpAny_pyHash_str h
 eqBool:=fun hu hv h=>by
  rcases zbj hu with ⟨i,t,rfl,rfl⟩ | ⟨x,t,rfl,rfl⟩
  ·rcases zbj hv with ⟨j,u,rfl,rfl⟩ | ⟨y,u,rfl,rfl⟩
   ·rw[key_ll] at h;exact wpAny_eqBool_int h
   ·rw[key_lr] at h;exact SeqAt.EqAt.int_str i t y u _ _ _ _ h
  ·rcases zbj hv with ⟨j,u,rfl,rfl⟩ | ⟨y,u,rfl,rfl⟩
   ·rw[key_rl] at h;exact SeqAt.EqAt.str_int x t j u _ _ _ _ h
   ·rw[key_rr] at h;exact wpAny_eqBool_str h
 «strs»:=fun k x t v h=>by
  rcases zbj h with ⟨i,u,rfl,e⟩ | ⟨y,u,rfl,e⟩
  ·exact nomatch e
  ·injection e with e1 _
   subst e1
   cases v<;>rfl
theorem zmn (prog:Program) (w:World) (i:Int) (t:Tok):(mixKind prog w).is (.inl i) (.int i t)=true:=zqo i t
theorem zmm (prog:Program) (w:World) (x:Str) (t:Tok):(mixKind prog w).is (.inr x) (.str x t)=true:=zqn x t
end L2
namespace L2
open PySem PySem.Spec PyProof.Rows
set_option genInjectivity true in
inductive V where
 | non | bl (b:Bool) | int (i:Int) | str (x:Str) | byt (b:Array UInt8) | flt (b:UInt64) | ref (a:Addr) | ty (n:String)
 deriving DecidableEq
noncomputable def RelV:V→Value→Prop
 | .non,u=>u=Value.none
 | .bl b,u=>u=Value.bool b
 | .int i,u=>∃t,u=Value.int i t
 | .str x,u=>∃t,u=Value.str x t
 | .byt b,u=>∃t,u=Value.bytes b t
 | .flt b,u=>∃t,u=Value.float b t
 | .ref a,u=>u=Value.ref a
 | .ty n,u=>u=Value.type n
noncomputable abbrev Vals:List V→List Value→Prop:=Paired RelV
theorem Vals.length {xs:List V} {us:List Value} (r:Vals xs us):xs.length=us.length:=Paired.length r
theorem Vals.get:∀{xs:List V} {us:List Value} {i:Nat} {x:V},Vals xs us→xs[i]?=some x→∃u,us[i]?=some u∧RelV x u
 | _,_,_,_,.nil,e=>by simp at e
 | _,_,0,_,.cons r _,e=>by simp at e;subst e;exact ⟨_,rfl,r⟩
 | _,_,i+1,x,.cons _ t,e=>by
  obtain ⟨u,h1,h2⟩:=Vals.get (i:=i) (x:=x) t (by simpa using e)
  exact ⟨u,by simpa using h1,h2⟩
theorem Vals.set {x:V} {u:Value} (r:RelV x u):∀{xs:List V} {us:List Value} (i:Nat),Vals xs us→Vals (xs.set i x) (us.set i u)
 | _,_,_,.nil=>.nil
 | _,_,0,.cons _ t=>.cons r t
 | _,_,i+1,.cons q t=>.cons q (Vals.set r i t)
theorem Vals.append:∀{xs ys:List V} {us ws:List Value},Vals xs us→Vals ys ws→Vals (xs++ys) (us++ws)
 | _,_,_,_,.nil,s=>s
 | _,_,_,_,.cons r t,s=>.cons r (Vals.append t s)
theorem Vals.take:∀{xs:List V} {us:List Value} (n:Nat),Vals xs us→Vals (xs.take n) (us.take n)
 | _,_,0,_=>.nil
 | _,_,_+1,.nil=>.nil
 | _,_,n+1,.cons r t=>.cons r (Vals.take n t)
theorem Vals.drop:∀{xs:List V} {us:List Value} (n:Nat),Vals xs us→Vals (xs.drop n) (us.drop n)
 | _,_,0,r=>r
 | _,_,_+1,.nil=>.nil
 | _,_,n+1,.cons _ t=>Vals.drop n t
noncomputable def RelO:Option V→Option Value→Prop
 | some v,some u=>RelV v u
 | none,none=>True
 | _,_=>False
noncomputable def KV {κ:Type}:List (κ × V)→List (κ × Value)→Prop:=Paired fun (p:κ × V) (q:κ × Value)=>p.1=q.1∧RelV p.2 q.2
noncomputable def kV:Key→V
 | .inl i=>.int i
 | .inr x=>.str x
set_option genInjectivity true in
inductive HO where
 /-- a list -/
 | lst (xs:List V)
 /-- a tuple (never changes) -/
 | tup (xs:List V)
 /-- a dict whose keys are ints and texts;one whose keys are tuples of ints and texts (the empty one is both) -/
 | dK (kvs:List (Key × V)) | dT (kvs:List (List Key × V))
 /-- a set of ints: its members,its size -/
 | set (S:Int→Bool) (n:Nat)
 /-- an instance of the class at C,its dict at dx,its attributes -/
 | ins (C dx:Addr) (fs:List (Str × V))
 /-- the dict of the instance at x -/
 | own (x:Addr)
 /-- the dict of an exception -/
 | xd (fs:List (Str × V))
 /-- a bound method,f of x -/
 | met (f x:Addr)
 /-- a range object lo,lo+1,.. below hi -/
 | rng (lo hi:Int)
 /-- a thing that is known to the object (the script;a dict while a loop walks it): read,never written while it is so -/
 | frz (o:Obj) (u:HO)
 /-- a code object's table -/
 | tbl (ps:Array Value)
 /-- any other thing,by what is true of its one object (a def of one's own: SetO a S n:=HO.ext fun h=>..) -/
 | ext (φ:Heap→Prop)
noncomputable abbrev Hp:=Addr→Option HO
noncomputable def upd (H:Hp) (a:Addr) (o:HO):Hp:=fun b=>if b=a then some o else H b
theorem zr {H:Hp} {a:Addr} {o:HO}:upd H a o a=some o:=by unfold upd;rw[if_pos rfl]
theorem upd_ne {H:Hp} {a b:Addr} {o:HO} (h:b≠a):upd H a o b=H b:=by unfold upd;rw[if_neg h]
theorem ne_of {H:Hp} {a b:Addr} {o u:HO} (h:H a=some o) (h':H b=some u) (d:o≠u):a≠b:=by
 intro e;subst e;rw[h] at h';exact d (Option.some.inj h')
theorem zg {H:Hp} {a b:Addr} {o:HO} (h:H a=some o) (h':H b=none):a≠b:=by
 intro e;subst e;rw[h] at h';cases h'
section
variable (P:Program) (w:World)
noncomputable def ObjOk (H:Hp) (h:Heap) (a:Addr):HO→Prop
 | .lst xs => xs.length ≤ sizeLine ∧ ∃ (its : List Value) (n : Nat), Vals xs its ∧ h.get? a = some { cls := .type "list", data := .seq its.toArray n }
 | .tup xs=>xs.length≤sizeLine∧∃its:List Value,Vals xs its∧IsTup h a its.toArray
 | .dK kvs=>kvs.length≤sizeLine∧(a == sysModules)=false∧∃vs,KV kvs vs∧h.DictOf (mixKind P w) a vs
 | .dT kvs=>kvs.length≤sizeLine∧(a == sysModules)=false∧∃xs:List (List Key × Addr × Value),
  Paired (fun (p:List Key × V) (q:List Key × Addr × Value)=>p.1=q.1∧H q.2.1=some (.tup (p.1.map kV))∧RelV p.2 q.2.2) kvs xs ∧
  ∃o es ep,h.get? a=some o∧o.ExactDict∧o.data=.dict es ep∧es.toList=xs.map (entryOfKey (tupleKind (mixKind P w)))∧(xs.map (·.1)).Nodup
 | .set S n=>h.SetOf (intKind P w) a S n
 | .ins C dx fs=>H dx=some (.own a)∧fs.length≤1000∧dx≠a∧h.get? a=some (PySem.W.instObj C dx) ∧
  ∃mA,h.Ns1 dx mA∧(∀f,RelO (fs.lookup f) (mA f))∧PySem.Within mA (fs.map (·.1))
 | .own _=>∃o,h.get? a=some o
 | .xd fs=>∃mA,h.Ns1 a mA∧∀f,RelO (fs.lookup f) (mA f)
 | .rng lo hi => ∃ t u v, h.get? a = some { cls := .type "range", data := .fields #[.int lo t, .int hi u, .int 1 v] }
 | .frz o u=>h.get? a=some o∧ObjOk H h a u
 | .tbl ps=>h.get? a=some {cls:=.none,data:=.fields ps}
 | .met f x=>h.get? a=some (PySem.W.methodObj (.ref f) (.ref x))
 | .ext φ=>φ h∧(∃o,h.get? a=some o)∧∀h1 h2:Heap,φ h1→(∀o,h1.get? a=some o→h2.get? a=some o)→φ h2
noncomputable def HOk (H:Hp) (h:Heap):Prop:=∀a o,H a=some o→ObjOk P w H h a o
end
section
variable {P:Program} {w:World} {H H':Hp} {h h':Heap} {a:Addr} {o:HO}
theorem ObjOk.lt (x:ObjOk P w H h a o):a < h.objs.size:=by
 cases o with
 | lst xs=>obtain ⟨_,_,_,_,e⟩:=x;exact Heap.lt_size e
 | tup xs=>obtain ⟨_,_,_,p⟩:=x;exact p.lt
 | dK kvs=>obtain ⟨_,_,_,_,o,_,_,e,_⟩:=x;exact Heap.lt_size e
 | dT kvs=>obtain ⟨_,_,_,_,o,_,_,e,_⟩:=x;exact Heap.lt_size e
 | set S n=>obtain ⟨o,_,_,_,e,_⟩:=x;exact Heap.lt_size e
 | ins C dx fs=>obtain ⟨_,_,_,e,_⟩:=x;exact Heap.lt_size e
 | own y=>obtain ⟨_,e⟩:=x;exact Heap.lt_size e
 | xd fs=>obtain ⟨_,⟨_,_,_,e,_⟩,_⟩:=x;exact Heap.lt_size e
 | rng lo hi=>obtain ⟨_,_,_,e⟩:=x;exact Heap.lt_size e
 | frz ob u=>obtain ⟨e,_⟩:=x;exact Heap.lt_size e
 | tbl ps=>exact Heap.lt_size (show h.get? a=some _ from x)
 | met f y=>exact Heap.lt_size (show h.get? a=some _ from x)
 | ext φ=>obtain ⟨_,⟨_,e⟩,_⟩:=x;exact Heap.lt_size e
theorem Paired.mapP {α β:Type} {F G:α→β→Prop}:∀{l₁:List α} {l₂:List β},Paired F l₁ l₂→(∀a b,F a b→G a b)→Paired G l₁ l₂
 | _,_,.nil,_=>.nil
 | _,_,.cons r t,f=>.cons (f _ _ r) (Paired.mapP t f)
theorem ObjOk.stay (x:ObjOk P w H h a o) (k:∀b u,(b=a∨H b=some (.own a))→h.get? b=some u→h'.get? b=some u)
  (ho:∀b,H b=some (.own a)→H' b=some (.own a)) (ht:∀b xs,H b=some (.tup xs)→H' b=some (.tup xs)):ObjOk P w H' h' a o:=by
 induction o with
 | lst xs=>obtain ⟨z,its,n,r,e⟩:=x;exact ⟨z,its,n,r,k _ _ (.inl rfl) e⟩
 | tup xs=>obtain ⟨z,its,r,ob,e,c⟩:=x;exact ⟨z,its,r,ob,k _ _ (.inl rfl) e,c⟩
 | dK kvs=>obtain ⟨z,y,vs,r,ob,es,ep,e,c⟩:=x;exact ⟨z,y,vs,r,ob,es,ep,k _ _ (.inl rfl) e,c⟩
 | dT kvs =>
  obtain ⟨z,y,xs,r,ob,es,ep,e,c⟩:=x
  exact ⟨z,y,xs,Paired.mapP r fun p q z=>⟨z.1,ht _ _ z.2.1,z.2.2⟩,ob,es,ep,k _ _ (.inl rfl) e,c⟩
 | set S n=>obtain ⟨ob,es,ep,t,e,c⟩:=x;exact ⟨ob,es,ep,t,k _ _ (.inl rfl) e,c⟩
 | ins C dx fs =>
  obtain ⟨d,z,ne,e,mA,⟨od,es,ep,e2,c⟩,r⟩:=x
  exact ⟨ho _ d,z,ne,k _ _ (.inl rfl) e,mA,⟨od,es,ep,k _ _ (.inr d) e2,c⟩,r⟩
 | own y=>obtain ⟨ob,e⟩:=x;exact ⟨ob,k _ _ (.inl rfl) e⟩
 | xd fs=>obtain ⟨mA,⟨od,es,ep,e,c⟩,r⟩:=x;exact ⟨mA,⟨od,es,ep,k _ _ (.inl rfl) e,c⟩,r⟩
 | rng lo hi=>obtain ⟨t,u,v,e⟩:=x;exact ⟨t,u,v,k _ _ (.inl rfl) e⟩
 | frz ob u ih=>obtain ⟨e,q⟩:=x;exact ⟨k _ _ (.inl rfl) e,ih q⟩
 | tbl ps =>
  have e:h.get? a=some {cls:=.none,data:=.fields ps}:=x
  show h'.get? a=some {cls:=.none,data:=.fields ps}
  exact k a _ (.inl rfl) e
 | met f y =>
  have e:h.get? a=some (PySem.W.methodObj (.ref f) (.ref y)):=x
  show h'.get? a=some (PySem.W.methodObj (.ref f) (.ref y))
  exact k a _ (.inl rfl) e
 | ext φ=>obtain ⟨p,⟨o,e⟩,st⟩:=x;exact ⟨st _ _ p fun o q=>k _ _ (.inl rfl) q,⟨o,k _ _ (.inl rfl) e⟩,st⟩
theorem HOk.lt (x:HOk P w H h) (e:H a=some o):a < h.objs.size:=(x a o e).lt
theorem HOk.fresh (x:HOk P w H h) (e:h.objs.size≤a):H a=none:=by
 cases q:H a with
 | none=>rfl
 | some u=>exact absurd (Nat.lt_of_lt_of_le (x.lt q) e) (Nat.lt_irrefl _)
theorem HOk.kept (x:HOk P w H h) (k:∀b u,h.get? b=some u→h'.get? b=some u):HOk P w H h':=fun a o e =>
 (x a o e).stay (fun b u _ q=>k b u q) (fun _ q=>q) fun _ _ q=>q
theorem HOk.laid (x:HOk P w H h) (k:∀b u,h.get? b=some u→h'.get? b=some u) (hp:h.objs.size≤a) (new:ObjOk P w (upd H a o) h' a o):HOk P w (upd H a o) h':=fun b u e=>by
 have hn:=x.fresh hp
 by_cases hb:b=a
 ·subst hb;rw[zr] at e;cases e;exact new
 ·rw[upd_ne hb] at e
  exact (x b u e).stay (fun c v _ q=>k c v q) (fun c q=>by rw[upd_ne (zg q hn)];exact q) fun c xs q=>by rw[upd_ne (zg q hn)];exact q
end
noncomputable def Rd (H:Hp) (a:Addr) (u:HO):Prop:=H a=some u∨∃o,H a=some (.frz o u)
theorem Rd.ok {P:Program} {w:World} {H:Hp} {h:Heap} {a:Addr} {u:HO} (r:Rd H a u) (x:HOk P w H h):ObjOk P w H h a u:=by
 rcases r with r | ⟨o,r⟩
 ·exact x a u r
 ·obtain ⟨_,q⟩:=x a _ r
  exact q
noncomputable def Mut:Option HO→Prop
 | some (.lst _)=>True
 | some (.dK _)=>True
 | some (.dT _)=>True
 | some (.set _ _)=>True
 | some (.ins _ _ _)=>True
 | some (.ext _)=>True
 | _=>False
section
variable {P:Program} {w:World} {H:Hp} {h h':Heap} {x e:Addr} {o':HO}
theorem HOk.write (ok:HOk P w H h) (mu:Mut (H x)) (he:e=x∨H e=some (.own x)) (k:∀b u,b≠e→h.get? b=some u→h'.get? b=some u) (heo:∃u,h'.get? e=some u)
  (new:ObjOk P w (upd H x o') h' x o'):HOk P w (upd H x o') h':=fun b u q=>by
 have nown:∀c y,H c=some (.own y)→c≠x:=fun c y r z=>by subst z;rw[r] at mu;exact mu
 have ntup:∀c xs,H c=some (.tup xs)→c≠x:=fun c xs r z=>by subst z;rw[r] at mu;exact mu
 by_cases hb:b=x
 ·subst hb;rw[zr] at q;cases q;exact new
 ·rw[upd_ne hb] at q
  by_cases hbe:b=e
  ·have q':H b=some (.own x):=by
    rcases he with z | z
    ·exact absurd (hbe.trans z) hb
    ·rw[hbe];exact z
   rw[q] at q';cases q'
   obtain ⟨v,hv⟩:=heo
   exact ⟨v,by rw[hbe];exact hv⟩
  ·refine (ok b u q).stay (fun c v hc r=>k c v ?_ r) (fun c r=>by rw[upd_ne (nown c b r)];exact r) fun c xs r=>by rw[upd_ne (ntup c xs r)];exact r
   rcases hc with rfl | hc
   ·exact hbe
   ·rintro rfl
    rcases he with z | z
    ·exact nown c b hc z
    ·rw[hc] at z;cases z;exact hb rfl
end
structure Un (fs ex:List Addr) (H H':Hp) (h h':Heap):Prop where
 keep:∀b o,h.get? b=some o→H b=none→b∉fs→b∉ex→h'.get? b=some o
 slot:∀b o,h.get? b=some o→H b=none→b∈fs→b∉ex→∃sl,h'.get? b=some {o with slots:=sl}
 free:∀b o,h.get? b=some o→H b=none→b∉ex→H' b=none
 there:∀b o,h.get? b=some o→b∉ex→∃o',h'.get? b=some o'
 tups:∀b xs,H b=some (.tup xs)→H' b=some (.tup xs)
 frzs:∀b o u,H b=some (.frz o u)→H' b=some (.frz o u)
 tbls:∀b ps,H b=some (.tbl ps)→∃more,H' b=some (.tbl (ps++more))
section
variable {fs fs' ex ex':List Addr} {H H1 H2:Hp} {h h1 h2 h':Heap} {a x e:Addr} {o:HO}
theorem Un.any (u:Un fs ex H H1 h h1) {b:Addr} {ob:Obj} (q:h.get? b=some ob) (n:H b=none) (hx:b∉ex):∃sl,h1.get? b=some {ob with slots:=sl}:=by
 by_cases hb:b∈fs
 ·exact u.slot b ob q n hb hx
 ·exact ⟨ob.slots,u.keep b ob q n hb hx⟩
theorem Un.kept (k:∀b u,h.get? b=some u→h'.get? b=some u):Un fs ex H H h h' :=
 ⟨fun b ob q _ _ _=>k b ob q,fun b ob q _ _ _=>⟨ob.slots,k b ob q⟩,fun _ _ _ n _=>n,fun b ob q _=>⟨ob,k b ob q⟩,fun _ _ q=>q,fun _ _ _ q=>q,fun _ ps q=>⟨#[],by rw[q];simp⟩⟩
theorem Un.refl:Un fs ex H H h h:=Un.kept fun _ _ q=>q
theorem Un.laid (k:∀b u,h.get? b=some u→h'.get? b=some u) (hp:h.objs.size≤a) (hn:H a=none):Un fs ex H (upd H a o) h h' where
 keep:=fun b u q _ _ _=>k b u q
 slot:=fun b u q _ _ _=>⟨u.slots,k b u q⟩
 free:=fun b u q n _=>by rw[upd_ne (Nat.ne_of_lt (Nat.lt_of_lt_of_le (Heap.lt_size q) hp))];exact n
 there:=fun b u q _=>⟨u,k b u q⟩
 tups:=fun b xs q=>by rw[upd_ne (zg q hn)];exact q
 frzs:=fun b u xs q=>by rw[upd_ne (zg q hn)];exact q
 tbls:=fun b ps q=>⟨#[],by rw[upd_ne (zg q hn),q];simp⟩
theorem Un.write (mu:Mut (H x)) (he:e=x∨H e=some (.own x)) (k:∀b u,b≠e→h.get? b=some u→h'.get? b=some u) (heo:∃u,h'.get? e=some u):Un fs ex H (upd H x o) h h':=by
 have hx:∀b,H b=none→b≠x:=fun b n z=>by subst z;rw[n] at mu;exact mu
 have hb:∀b,H b=none→b≠e:=fun b n z=>by
  subst z
  rcases he with r | r
  ·exact hx b n r
  ·rw[n] at r;cases r
 have hm:∀b u,H b=some u→¬ Mut (some u)→b≠x:=fun b u q nm z=>by subst z;rw[q] at mu;exact nm mu
 refine ⟨fun b u q n _ _=>k b u (hb b n) q,fun b u q n _ _=>⟨u.slots,k b u (hb b n) q⟩,fun b u q n _=>by rw[upd_ne (hx b n)];exact n,fun b u q _=>?_,
  fun b xs q=>by rw[upd_ne (hm b _ q fun z=>z)];exact q,fun b u xs q=>by rw[upd_ne (hm b _ q fun z=>z)];exact q,fun b ps q=>⟨#[],by rw[upd_ne (hm b _ q fun z=>z),q];simp⟩⟩
 by_cases hbe:b=e
 ·subst hbe;exact heo
 ·exact ⟨u,k b u hbe q⟩
end
noncomputable def trk (h:Heap) (H:Hp):List Addr:=(List.range h.objs.size).filter fun a=>(H a).isSome
noncomputable def hidT (h:Heap) (H:Hp):Heap:=PySem.W.hideAll h (trk h H)
theorem zqr (h:Heap) (H:Hp):(hidT h H).objs.size=h.objs.size:=PySem.W.hideAll_size _ _
theorem zuh {h:Heap} {H:Hp} {b:Addr} {o:Obj} (e:h.get? b=some o) (n:H b=none):(hidT h H).get? b=some o :=
 PySem.W.hideAll_get _ e fun hm=>by
  have q:(H b).isSome=true:=(List.mem_filter.mp hm).2
  rw[n] at q;simp at q
theorem zwv {h:Heap} {H:Hp} {b:Addr} {o:Obj} (e:(hidT h H).get? b=some o):h.get? b=some o∧H b=none:=by
 have e':h.get? b=some o:=PySem.W.of_hideAll (trk h H) e
 refine ⟨e',?_⟩
 cases q:H b with
 | none=>rfl
 | some x =>
  have hm:b∈trk h H:=List.mem_filter.mpr ⟨List.mem_range.mpr (Heap.lt_size e'),by simp[q]⟩
  have z:(hidT h H).get? b=none:=PySem.W.hideAll_none (trk h H) hm
  rw[z] at e;cases e
end L2
namespace L2
open PySem PySem.Spec PyProof.Rows
structure Mod (K:PySem.W.Frag) (mg:Str→Option Value) (base:Heap):Prop where
 kin:K.In base
 glob:base.Ns mainGlobals mg
 blt : ∃ mb, base.Ns builtinsNs mb ∧ ∀ x : Str, x ≠ "__name__" → mb x = bootBuiltins x
 nolimit:base.NoLimit
structure Cx where
 prog:Program
 w:World
 K:PySem.W.Frag
 mg:Str→Option Value
 base:Heap
 A:Around
 N:List Str
 s₀:Shared
 H₀:Hp
 env:Env
 outer:List Env
 stack:List Env
 ex:List Addr
 fn:Str→Bool
 calm:Bool
 pn:List (Addr × Obj)
 xe:Value→Shared→Prop
noncomputable def frs (l:List Env):List Addr:=l.filterMap (·.frame)
noncomputable abbrev Cx.fs (X:Cx):List Addr:=frs X.outer
noncomputable def Vis (sc:Scope) (x:Str):Prop:=sc.names.lookup x=some .local∨sc.names.lookup x=some .cell∨sc.names.lookup x=some .free
noncomputable def Loc (sc:Scope) (x:Str):Prop:=sc.names.lookup x=some .local∨sc.names.lookup x=some .cell
noncomputable def Look (env:Env) (h:Heap) (m:Str→Option Value) (x:Str) (u:Value):Prop :=
 (env.kindOf x=some .local∧m x=some u)∨((env.kindOf x=some .cell∨env.kindOf x=some .free)∧∃c,env.cells.lookup x=some c∧h.IsCell c (some u))
structure Cx.Ok (X:Cx):Prop where
 mod:Mod X.K X.mg X.base
 kind:X.env.scope.kind=.function
 glob:X.env.globals=mainGlobals
 blt:X.env.builtins=builtinsNs
 above:X.s₀.heap.objs.size≤X.env.locals
 inj:∀x y c,X.env.cells.lookup x=some c→X.env.cells.lookup y=some c→x=y
 has:∀x,(X.env.kindOf x=some .cell∨X.env.kindOf x=some .free)→∃c,X.env.cells.lookup x=some c
 cab:∀x c,X.fn x=true→X.env.cells.lookup x=some c→X.s₀.heap.objs.size≤c
 hd:X.calm=true→X.A.handled=none
 frames:X.A.frames=some X.stack
 stk:X.stack=X.outer∨(X.stack=X.env::X.outer∧X.env.frame=some X.env.locals)
 exf:∀b∈X.ex,b≠X.env.locals∧∀x c,X.env.cells.lookup x=some c→c≠b
 bs:∀b o,X.base.get? b=some o→X.s₀.heap.get? b=some o∧X.H₀ b=none
 bsz:X.base.objs.size≤X.s₀.heap.objs.size
 noex:∀b o,X.base.get? b=some o→b∉X.ex
 exfs:∀b∈X.ex,b∉X.fs
 funs:X.s₀.heap.FunFrames X.base X.outer
 frf:∀b∈X.fs,X.H₀ b=none
structure Inv (X:Cx) (pins:List (Addr × Obj)) (σ:List (Option V)) (H:Hp) (s:Shared):Prop where
 ok:X.Ok
 os:s.os=X.s₀.os
 bare:AllBare s.gens
 base:Un X.fs X.ex X.H₀ H X.s₀.heap s.heap
 loc:∃m,s.heap.Ns X.env.locals m∧∀(i:Nat) (x:Str) (v:V),X.N[i]?=some x→σ[i]?=some (some v)→Vis X.env.scope x→∃u,RelV v u∧Look X.env s.heap m x u
 cell:∀x c,X.env.cells.lookup x=some c→∃v,s.heap.IsCell c v
 free:H X.env.locals=none
 freeC:∀x c,X.env.cells.lookup x=some c→H c=none
 pin:∀p∈X.pn++pins,s.heap.get? p.1=some p.2∧H p.1=none∧p.1≠X.env.locals∧p.1∉X.fs∧∀v,p.2.data≠.cell v
 hok:HOk X.prog X.w H s.heap
 len:σ.length=X.N.length
section
variable {X:Cx} {pins:List (Addr × Obj)} {σ:List (Option V)} {H H':Hp} {s:Shared} {h':Heap}
theorem Cx.Ok.nofr (ok:X.Ok) {b:Addr} {o:Obj} (e:X.base.get? b=some o):b∉X.fs:=fun hb=>by
 have:=(ok.funs.mem hb).1
 rw[e] at this;cases this
theorem Inv.bs (I:Inv X pins σ H s):∀b o,X.base.get? b=some o→s.heap.get? b=some o∧H b=none:=fun b o e =>
 ⟨I.base.keep b o (I.ok.bs b o e).1 (I.ok.bs b o e).2 (I.ok.nofr e) (I.ok.noex b o e),I.base.free b o (I.ok.bs b o e).1 (I.ok.bs b o e).2 (I.ok.noex b o e)⟩
theorem Inv.bk (I:Inv X pins σ H s):∀b o,X.base.get? b=some o→s.heap.get? b=some o:=fun b o e=>(I.bs b o e).1
theorem Inv.mod (I:Inv X pins σ H s):Mod X.K X.mg X.base:=I.ok.mod
theorem Inv.kIn (I:Inv X pins σ H s):X.K.In s.heap:=I.ok.mod.kin.keeps I.bk
theorem Inv.lt (I:Inv X pins σ H s):X.env.locals < s.heap.objs.size:=let ⟨_,hn,_⟩:=I.loc;hn.lt
theorem Inv.sz (I:Inv X pins σ H s):X.s₀.heap.objs.size≤s.heap.objs.size:=Nat.le_trans I.ok.above (Nat.le_of_lt I.lt)
theorem Inv.nofs (I:Inv X pins σ H s) {a:Addr} (h:s.heap.objs.size≤a):a∉X.fs:=fun hb=>by
 obtain ⟨_,o,ho,_⟩:=I.ok.funs.mem hb
 exact absurd (Nat.lt_of_lt_of_le (Heap.lt_size ho) (Nat.le_trans I.sz h)) (Nat.lt_irrefl _)
theorem Inv.cne (I:Inv X pins σ H s):∀x c,X.env.cells.lookup x=some c→c≠X.env.locals:=fun x c e z=>by
 obtain ⟨v,o,ho,hd⟩:=I.cell x c e
 obtain ⟨m,⟨o',es,ep,ho',hd',_⟩,_⟩:=I.loc
 rw[z,ho'] at ho;cases ho;rw[hd'] at hd;cases hd
theorem Inv.funs (I:Inv X pins σ H s):s.heap.FunFrames X.base X.outer:=by
 have all:∀(l:List Env),(∀b∈frs l,b∈X.fs)→X.s₀.heap.FunFrames X.base l→s.heap.FunFrames X.base l:=by
  intro l
  induction l with
  | nil=>intro _ _;trivial
  | cons env r ih =>
   intro hs hl
   obtain ⟨hk,⟨L,o,hf,hn,ho,hd⟩,hr⟩:=hl
   have hL:L∈X.fs:=hs L (by unfold frs;rw[List.filterMap_cons,hf];exact List.mem_cons_self)
   obtain ⟨sl,e⟩:=I.base.slot L o ho (I.ok.frf L hL) hL fun z=>I.ok.exfs L z hL
   exact ⟨hk,⟨L,_,hf,hn,e,hd⟩,ih (fun b hb=>hs b (by unfold frs;rw[List.filterMap_cons,hf];exact List.mem_cons_of_mem _ hb)) hr⟩
 exact all X.outer (fun _ hb=>hb) I.ok.funs
theorem Inv.stack (I:Inv X pins σ H s):s.heap.FunFrames X.base X.stack:=by
 rcases I.ok.stk with e | ⟨e,hf⟩
 ·rw[e];exact I.funs
 ·rw[e]
  obtain ⟨m,hn,_⟩:=I.loc
  refine .cons (by rw[I.ok.kind];decide) hf hn ?_ I.funs
  exact Heap.get?_none_of_le (Nat.le_trans I.ok.bsz I.ok.above)
theorem Inv.stkSub (I:Inv X pins σ H s):∀b∈frs X.stack,b∈X.env.locals::X.fs:=fun b hb=>by
 rcases I.ok.stk with e | ⟨e,hf⟩
 ·rw[e] at hb;exact List.mem_cons_of_mem _ hb
 ·rw[e] at hb
  unfold frs at hb
  rw[List.filterMap_cons,hf] at hb
  exact hb
theorem Inv.stkFree (I:Inv X pins σ H s):∀b∈frs X.stack,H b=none:=fun b hb=>by
 rcases List.mem_cons.mp (I.stkSub b hb) with e | hb
 ·rw[e];exact I.free
 ·obtain ⟨_,o,ho,_⟩:=I.ok.funs.mem hb
  exact I.base.free b o ho (I.ok.frf b hb) fun z=>I.ok.exfs b z hb
theorem Inv.step {g':Array GenState} {t':Nat} {d':Drawn} {ch:List Addr} (I:Inv X pins σ H s)
  (hch:∀b∈ch,(b∈X.ex∨X.s₀.heap.objs.size≤b)∧b≠X.env.locals∧(∀x c,X.env.cells.lookup x=some c→c≠b)∧∀p∈X.pn++pins,p.1≠b)
  (keep:∀b o,b≠X.env.locals→b∉X.fs→b∉ch→s.heap.get? b=some o→H b=none→h'.get? b=some o)
  (slot:∀b o,b≠X.env.locals→b∈X.fs→b∉ch→s.heap.get? b=some o→H b=none→∃sl,h'.get? b=some {o with slots:=sl}) (free:∀b o,b∉ch→s.heap.get? b=some o→H b=none→H' b=none)
  (there:∀b o,b∉ch→s.heap.get? b=some o→∃o',h'.get? b=some o')
  (tups:∀b xs,H b=some (.tup xs)→H' b=some (.tup xs)) (frzs:∀b o u,H b=some (.frz o u)→H' b=some (.frz o u)) (tbls:∀b ps,H b=some (.tbl ps)→∃more,H' b=some (.tbl (ps++more)))
  (ns:∀m,s.heap.Ns X.env.locals m→h'.Ns X.env.locals m) (hok:HOk X.prog X.w H' h') (hg:AllBare g') :
  Inv X pins σ H' {s with heap:=h',gens:=g',drawn:=d',toks:=t'}:=by
 have neL:∀b o,X.s₀.heap.get? b=some o→b≠X.env.locals:=fun b o e=>Nat.ne_of_lt (Nat.lt_of_lt_of_le (Heap.lt_size e) I.ok.above)
 have neC:∀b o,X.s₀.heap.get? b=some o→b∉X.ex→b∉ch:=fun b o e hx hb=>by
  rcases (hch b hb).1 with z | z
  ·exact hx z
  ·exact absurd (Nat.lt_of_lt_of_le (Heap.lt_size e) z) (Nat.lt_irrefl _)
 have cellK:∀x c,X.env.cells.lookup x=some c→∀v,s.heap.IsCell c v→h'.IsCell c v:=fun x c e v hq0=>by
  obtain ⟨o,ho,hd⟩:=hq0
  have nch:c∉ch:=fun z=>(hch c z).2.2.1 x c e rfl
  by_cases hc:c∈X.fs
  ·obtain ⟨sl,q⟩:=slot c o (I.cne x c e) hc nch ho (I.freeC x c e)
   exact ⟨_,q,hd⟩
  ·exact ⟨o,keep c o (I.cne x c e) hc nch ho (I.freeC x c e),hd⟩
 refine ⟨I.ok,I.os,hg,⟨fun b o e n hb hx=>?_,fun b o e n hb hx=>?_,fun b o e n hx=>?_,fun b o e hx=>?_,fun b xs e=>tups b xs (I.base.tups b xs e),fun b o xs e=>frzs b o xs (I.base.frzs b o xs e),fun b ps e=>?_⟩,?_,fun x c e=>?_,?_,fun x c e=>?_,fun p hp=>?_,hok,I.len⟩
 ·exact keep b o (neL b o e) hb (neC b o e hx) (I.base.keep b o e n hb hx) (I.base.free b o e n hx)
 ·obtain ⟨sl,e1⟩:=I.base.slot b o e n hb hx
  obtain ⟨sl',e2⟩:=slot b _ (neL b o e) hb (neC b o e hx) e1 (I.base.free b o e n hx)
  exact ⟨sl',e2⟩
 ·obtain ⟨o',e1⟩:=I.base.there b o e hx
  exact free b o' (neC b o e hx) e1 (I.base.free b o e n hx)
 ·obtain ⟨o',e1⟩:=I.base.there b o e hx
  exact there b o' (neC b o e hx) e1
 ·obtain ⟨m1,e1⟩:=I.base.tbls b ps e
  obtain ⟨m2,e2⟩:=tbls b _ e1
  exact ⟨m1++m2,by rw[e2,Array.append_assoc]⟩
 ·obtain ⟨m,hn,hl⟩:=I.loc
  refine ⟨m,ns m hn,fun i x v e1 e2 e3=>?_⟩
  obtain ⟨u,r,l⟩:=hl i x v e1 e2 e3
  refine ⟨u,r,?_⟩
  rcases l with l | ⟨k,c,e,z⟩
  ·exact .inl l
  ·exact .inr ⟨k,c,e,cellK x c e _ z⟩
 ·obtain ⟨v,z⟩:=I.cell x c e
  exact ⟨v,cellK x c e v z⟩
 ·obtain ⟨m,⟨o,_,_,ho,_⟩,_⟩:=I.loc
  exact free _ o (fun z=>(hch _ z).2.1 rfl) ho I.free
 ·obtain ⟨v,o,ho,hd⟩:=I.cell x c e
  exact free c o (fun z=>(hch c z).2.2.1 x c e rfl) ho (I.freeC x c e)
 ·obtain ⟨e,n,ne,nf,d⟩:=I.pin p hp
  have nch:p.1∉ch:=fun z=>(hch p.1 z).2.2.2 p hp rfl
  exact ⟨keep p.1 p.2 ne nf nch e n,free p.1 p.2 nch e n,ne,nf,d⟩
theorem Inv.un {t':Nat} (I:Inv X pins σ H s) (u:Un X.fs [] H H' s.heap h') (hok:HOk X.prog X.w H' h'):Inv X pins σ H' {s with heap:=h',toks:=t'}:=by
 obtain ⟨m,⟨o,es,ep,ho,r⟩,_⟩:=id I.loc
 obtain ⟨sl,hL⟩:=u.any ho I.free (by simp)
 exact I.step (g':=s.gens) (d':=s.drawn) (ch:=[]) (fun _ z=>nomatch z) (fun b o _ hb _ e n=>u.keep b o e n hb (by simp)) (fun b o _ hb _ e n=>u.slot b o e n hb (by simp)) (fun b o _ e n=>u.free b o e n (by simp)) (fun b o _ e=>u.there b o e (by simp)) u.tups u.frzs u.tbls (fun m' hm=>by
  obtain ⟨o',es',ep',ho',r'⟩:=hm
  rw[ho] at ho';cases ho'
  exact ⟨_,es',ep',hL,r'⟩) hok I.bare
theorem Inv.call {g':Array GenState} {t':Nat} {d':Drawn} {ch:List Addr} (I:Inv X pins σ H s) (u:Un (frs X.stack) ch H H' s.heap h') (hok:HOk X.prog X.w H' h') (hg:AllBare g')
  (hch:∀b∈ch,(b∈X.ex∨X.s₀.heap.objs.size≤b)∧b≠X.env.locals∧(∀x c,X.env.cells.lookup x=some c→c≠b)∧∀p∈X.pn++pins,p.1≠b) :
  Inv X pins σ H' {s with heap:=h',gens:=g',drawn:=d',toks:=t'}:=by
 obtain ⟨m,⟨o,es,ep,ho,r⟩,_⟩:=id I.loc
 obtain ⟨sl,hL⟩:=u.any ho I.free fun z=>(hch _ z).2.1 rfl
 exact I.step (ch:=ch) hch (fun b o hL hb hc e n=>u.keep b o e n (fun z=>(List.mem_cons.mp (I.stkSub b z)).elim hL hb) hc) (fun b o _ _ hc e n=>u.any e n hc) (fun b o hc e n=>u.free b o e n hc) (fun b o hc e=>u.there b o e hc) u.tups u.frzs u.tbls (fun m' hm=>by
  obtain ⟨o',es',ep',ho',r'⟩:=hm
  rw[ho] at ho';cases ho'
  exact ⟨_,es',ep',hL,r'⟩) hok hg
theorem Inv.turned {t':Nat} {it:Addr} (I:Inv X pins σ H s) (k:∀b o,b≠it→s.heap.get? b=some o→h'.get? b=some o) (hn:H it=none) (hL:it≠X.env.locals)
  (h1:it∈X.ex∨X.s₀.heap.objs.size≤it) (h2:∀x c,X.env.cells.lookup x=some c→c≠it) (h3:∀p∈X.pn++pins,p.1≠it):Inv X pins σ H {s with heap:=h',toks:=t'}:=by
 have nit:∀b u,H b=some u→b≠it:=fun b u e z=>by rw[z,hn] at e;cases e
 refine I.step (g':=s.gens) (d':=s.drawn) (ch:=[it]) (fun b hb=>?_) (fun b o _ _ hc e _=>k b o (fun z=>hc (by simp[z])) e) (fun b o _ _ hc e _=>⟨o.slots,k b o (fun z=>hc (by simp[z])) e⟩) (fun _ _ _ _ n=>n)
  (fun b o hc e=>⟨o,k b o (fun z=>hc (by simp[z])) e⟩) (fun _ _ e=>e) (fun _ _ _ e=>e) (fun b ps e=>⟨#[],by rw[e];simp⟩) (fun m hm=>?_) (fun b u e=>?_) I.bare
 ·have e:b=it:=by simpa using hb
  subst e
  exact ⟨h1,hL,h2,h3⟩
 ·obtain ⟨o,es,ep,ho,r⟩:=hm
  exact ⟨o,es,ep,k _ o (Ne.symm hL) ho,r⟩
 ·refine (I.hok b u e).stay (fun c v hc q=>k c v ?_ q) (fun _ q=>q) fun _ _ q=>q
  rcases hc with z | z
  ·rw[z];exact nit b u e
  ·exact nit c _ z
theorem Inv.tok (I:Inv X pins σ H s) (t:Nat):Inv X pins σ H {s with toks:=t}:=I.un (h':=s.heap) (t':=t) Un.refl I.hok
theorem Inv.kept {t':Nat} (I:Inv X pins σ H s) (k:∀b u,s.heap.get? b=some u→h'.get? b=some u):Inv X pins σ H {s with heap:=h',toks:=t'}:=I.un (Un.kept k) (I.hok.kept k)
theorem Inv.laid {a:Addr} {o:HO} {t':Nat} (I:Inv X pins σ H s) (k:∀b u,s.heap.get? b=some u→h'.get? b=some u) (hp:s.heap.objs.size≤a) (new:ObjOk X.prog X.w (upd H a o) h' a o) :
 Inv X pins σ (upd H a o) {s with heap:=h',toks:=t'}:=I.un (Un.laid k hp (I.hok.fresh hp)) (I.hok.laid k hp new)
theorem Inv.write {x e:Addr} {o:HO} {t':Nat} (I:Inv X pins σ H s) (mu:Mut (H x)) (he:e=x∨H e=some (.own x)) (k:∀b u,b≠e→s.heap.get? b=some u→h'.get? b=some u) (heo:∃u,h'.get? e=some u)
 (new:ObjOk X.prog X.w (upd H x o) h' x o):Inv X pins σ (upd H x o) {s with heap:=h',toks:=t'}:=I.un (Un.write mu he k heo) (I.hok.write mu he k heo new)
theorem Inv.pins_of {pins':List (Addr × Obj)} (I:Inv X pins σ H s) (h:∀p∈pins',s.heap.get? p.1=some p.2∧H p.1=none∧p.1≠X.env.locals∧p.1∉X.fs∧∀v,p.2.data≠.cell v):Inv X pins' σ H s :=
 ⟨I.ok,I.os,I.bare,I.base,I.loc,I.cell,I.free,I.freeC,fun p hp=>(List.mem_append.mp hp).elim (fun z=>I.pin p (List.mem_append_left _ z)) (h p),I.hok,I.len⟩
theorem znu {N:List Str} (hN:N.Nodup) {i j:Nat} {x:Str} (a:N[i]?=some x) (b:N[j]?=some x):i=j:=by
 obtain ⟨h1,e1⟩:=List.getElem?_eq_some_iff.mp a
 obtain ⟨h2,e2⟩:=List.getElem?_eq_some_iff.mp b
 exact (List.getElem_inj hN).mp (e1.trans e2.symm)
theorem zkx {M:Model} {A:Around} {E:Value→Shared→Prop} {i:Nat} {x:Str} {v:V} {u:Value} {Q:Unit→Shared→Prop} (I:Inv X pins σ H s) (hN:X.N.Nodup) (hi:X.N[i]?=some x) (hx:Loc X.env.scope x) (r:RelV v u)
  (h:∀s',Inv X pins (σ.set i (some v)) H s'→(∃a,Heap.SameBut a s.heap s'.heap∧(a=X.env.locals∨X.env.cells.lookup x=some a))→Q () s') (hf:X.fn x=true∨X.env.scope.names.lookup x=some .local:=by first | exact .inl rfl | exact .inr rfl | assumption):wpAny M A (storeName X.env x u) Q E s:=by
 obtain ⟨m,hn,hl⟩:=id I.loc
 have hcls:(X.env.scope.kind == .class || (X.env.scope.kind == .module && X.env.locals != X.env.globals))=false:=by rw[I.ok.kind];rfl
 have hiσ:i < σ.length:=by rw[I.len];exact (List.getElem?_eq_some_iff.mp hi).1
 have cne:=I.cne
 have tracked:∀{a:Addr} {h':Heap},(∃o,s.heap.get? a=some o∧H a=none)→Heap.SameBut a s.heap h'→HOk X.prog X.w H h':=fun {a h'} ha hs b ob e=>by
  obtain ⟨_,_,hfree⟩:=ha
  refine (I.hok b ob e).stay (fun c w' hc q=>(hs.2 c ?_).trans q) (fun _ q=>q) fun _ _ q=>q
  rintro rfl
  rcases hc with rfl | hc
  ·rw[hfree] at e;cases e
  ·rw[hfree] at hc;cases hc
 rcases hx with hk | hk
 ·refine wpAny_storeName_local hk hn (fun h' hn' hs=>?_) hcls
  obtain ⟨oL,_,_,hoL,_⟩:=id hn
  refine h _ ⟨I.ok,I.os,I.bare,⟨fun b o e n hb hx=>?_,fun b o e n hb hx=>?_,I.base.free,fun b o e hx=>?_,I.base.tups,I.base.frzs,I.base.tbls⟩,⟨_,hn',fun j y v' e1 e2 e3=>?_⟩,fun y c e=>?_,I.free,I.freeC,fun p hp=>?_,tracked ⟨oL,hoL,I.free⟩ hs,by simpa using I.len⟩ ⟨_,hs,.inl rfl⟩
  ·exact (hs.2 b (Nat.ne_of_lt (Nat.lt_of_lt_of_le (Heap.lt_size e) I.ok.above))).trans (I.base.keep b o e n hb hx)
  ·obtain ⟨sl,e1⟩:=I.base.slot b o e n hb hx
   exact ⟨sl,(hs.2 b (Nat.ne_of_lt (Nat.lt_of_lt_of_le (Heap.lt_size e) I.ok.above))).trans e1⟩
  ·obtain ⟨o',e1⟩:=I.base.there b o e hx
   exact ⟨o',(hs.2 b (Nat.ne_of_lt (Nat.lt_of_lt_of_le (Heap.lt_size e) I.ok.above))).trans e1⟩
  ·by_cases hj:j=i
   ·subst hj
    rw[hi] at e1;cases e1
    rw[List.getElem?_set_self hiσ] at e2
    cases e2
    exact ⟨u,r,.inl ⟨hk,by simp⟩⟩
   ·rw[List.getElem?_set_ne (Ne.symm hj)] at e2
    obtain ⟨u',r',q⟩:=hl j y v' e1 e2 e3
    refine ⟨u',r',?_⟩
    rcases q with ⟨k,e⟩ | ⟨k,c,e,z⟩
    ·refine .inl ⟨k,?_⟩
     have:y≠x:=fun e=>hj (znu hN e1 (e ▸ hi))
     simp[this,e]
    ·exact .inr ⟨k,c,e,z.sameBut hs (cne y c e)⟩
  ·obtain ⟨w',z⟩:=I.cell y c e
   exact ⟨w',z.sameBut hs (cne y c e)⟩
  ·obtain ⟨e,n,ne,nf,d⟩:=I.pin p hp
   exact ⟨(hs.2 p.1 ne).trans e,n,ne,nf,d⟩
 ·have hfn:X.fn x=true:=by
   rcases hf with z | z
   ·exact z
   ·rw[z] at hk;cases hk
  obtain ⟨c,hc⟩:=I.ok.has x (.inl hk)
  obtain ⟨w',z⟩:=I.cell x c hc
  refine wpAny_storeName_cell I.ok.kind hk hc z (fun h' hc' hs=>?_)
  obtain ⟨oc,hoc,hocd⟩:=id z
  refine h {s with heap:=h'} ⟨I.ok,I.os,I.bare,⟨fun b o e n hb hx=>?_,fun b o e n hb hx=>?_,I.base.free,fun b o e hx=>?_,I.base.tups,I.base.frzs,I.base.tbls⟩,⟨m,hn.sameBut hs (Ne.symm (cne x c hc)),fun j y v' e1 e2 e3=>?_⟩,fun y c' e=>?_,I.free,I.freeC,fun p hp=>?_,tracked ⟨oc,hoc,I.freeC x c hc⟩ hs,by simpa using I.len⟩ ⟨c,hs,.inr hc⟩
  ·exact (hs.2 b (Nat.ne_of_lt (Nat.lt_of_lt_of_le (Heap.lt_size e) (I.ok.cab x c hfn hc)))).trans (I.base.keep b o e n hb hx)
  ·obtain ⟨sl,e1⟩:=I.base.slot b o e n hb hx
   exact ⟨sl,(hs.2 b (Nat.ne_of_lt (Nat.lt_of_lt_of_le (Heap.lt_size e) (I.ok.cab x c hfn hc)))).trans e1⟩
  ·obtain ⟨o',e1⟩:=I.base.there b o e hx
   exact ⟨o',(hs.2 b (Nat.ne_of_lt (Nat.lt_of_lt_of_le (Heap.lt_size e) (I.ok.cab x c hfn hc)))).trans e1⟩
  ·by_cases hj:j=i
   ·subst hj
    rw[hi] at e1;cases e1
    rw[List.getElem?_set_self hiσ] at e2
    cases e2
    exact ⟨u,r,.inr ⟨.inl hk,c,hc,hc'⟩⟩
   ·rw[List.getElem?_set_ne (Ne.symm hj)] at e2
    obtain ⟨u',r',q⟩:=hl j y v' e1 e2 e3
    refine ⟨u',r',?_⟩
    rcases q with q | ⟨k,c',e,z'⟩
    ·exact .inl q
    ·refine .inr ⟨k,c',e,z'.sameBut hs ?_⟩
     rintro rfl
     exact hj (znu hN e1 (I.ok.inj _ _ _ e hc ▸ hi))
  ·by_cases hcc:c'=c
   ·subst hcc;exact ⟨_,hc'⟩
   ·obtain ⟨w2,z2⟩:=I.cell y c' e
    exact ⟨w2,z2.sameBut hs hcc⟩
  ·obtain ⟨e,n,ne,nf,d⟩:=I.pin p hp
   refine ⟨(hs.2 p.1 ?_).trans e,n,ne,nf,d⟩
   intro q
   rw[q,hoc] at e
   have q':oc=p.2:=Option.some.inj e
   exact d w' (by rw[← q'];exact hocd)
theorem zjq {M:Model} {A:Around} {E:Value→Shared→Prop} {i:Nat} {x:Str} {v:V} {u:Value} {Q:Unit→Shared→Prop} (I:Inv X pins σ H s) (hN:X.N.Nodup) (hi:X.N[i]?=some x) (hx:Loc X.env.scope x) (r:RelV v u)
  (h:∀s',Inv X pins (σ.set i (some v)) H s'→Q () s') (hf:X.fn x=true∨X.env.scope.names.lookup x=some .local:=by first | exact .inl rfl | exact .inr rfl | assumption):wpAny M A (storeName X.env x u) Q E s :=
 zkx I hN hi hx r (fun s' I' _=>h s' I') hf
theorem Inv.call' {s':Shared} {ch:List Addr} (I:Inv X pins σ H s) (ho:s'.os=s.os) (u:Un (frs X.stack) ch H H' s.heap s'.heap) (hok:HOk X.prog X.w H' s'.heap) (hg:AllBare s'.gens)
  (hch:∀b∈ch,(b∈X.ex∨X.s₀.heap.objs.size≤b)∧b≠X.env.locals∧(∀x c,X.env.cells.lookup x=some c→c≠b)∧∀p∈X.pn++pins,p.1≠b):Inv X pins σ H' s':=by
 obtain ⟨h',g',d',t',o'⟩:=s'
 have e:o'=s.os:=ho
 subst e
 exact I.call (g':=g') (t':=t') (d':=d') u hok hg hch
end
noncomputable abbrev XK:=Value→Option Addr→Hp→Prop
noncomputable abbrev St:=List (Option V)
noncomputable abbrev VK:=V→Hp→Prop
noncomputable abbrev TE:=St→Hp→VK→Prop
noncomputable abbrev TT:=St→Hp→(Bool→Hp→Prop)→Prop
noncomputable abbrev TA:=St→Hp→(List V→Hp→Prop)→Prop
structure Ends where
 nx:St→Hp→Prop
 rt:VK
 bk:St→Hp→Prop:=fun _ _=>False
 ct:St→Hp→Prop:=fun _ _=>False
noncomputable abbrev TS:=Ends→St→Hp→Prop
noncomputable def EP (X:Cx) (pins:List (Addr × Obj)) (σ:St) (Q:VK) (u:Value) (s':Shared):Prop:=∃v H',Inv X pins σ H' s'∧RelV v u∧Q v H'
noncomputable def TP (X:Cx) (pins:List (Addr × Obj)) (σ:St) (Q:Bool→Hp→Prop) (b:Bool) (s':Shared):Prop:=∃H',Inv X pins σ H' s'∧Q b H'
noncomputable def AP (X:Cx) (pins:List (Addr × Obj)) (σ:St) (Q:List V→Hp→Prop) (us:List Value) (s':Shared):Prop:=∃vs H',Inv X pins σ H' s'∧Vals vs us∧Q vs H'
noncomputable def SP (X:Cx) (pins:List (Addr × Obj)) (D:Ends) (f:Flow) (s':Shared):Prop :=
 match f with
 | .next=>∃σ' H',Inv X pins σ' H' s'∧D.nx σ' H'
 | .brk=>∃σ' H',Inv X pins σ' H' s'∧D.bk σ' H'
 | .cont=>∃σ' H',Inv X pins σ' H' s'∧D.ct σ' H'
 | .ret u=>∃v σ' H',Inv X pins σ' H' s'∧RelV v u∧D.rt v H'
noncomputable def PE (X:Cx) (e:Expr) (t:TE):Prop :=
 ∀(pins:List (Addr × Obj)) (s:Shared) (σ:St) (H:Hp) (Q:VK),Inv X pins σ H s→t σ H Q→wpAny (model X.prog X.w) X.A (eval e X.env) (EP X pins σ Q) X.xe s
noncomputable def PT (X:Cx) (e:Expr) (t:TT):Prop :=
 ∀(pins:List (Addr × Obj)) (s:Shared) (σ:St) (H:Hp) (Q:Bool→Hp→Prop),Inv X pins σ H s→t σ H Q→wpAny (model X.prog X.w) X.A (isTrue e X.env (eval e X.env)) (TP X pins σ Q) X.xe s
noncomputable def PW (X:Cx) (e:Expr) (t:TT):Prop :=
 ∀(whole:Sem Value) (pins:List (Addr × Obj)) (s:Shared) (σ:St) (H:Hp) (Q:Bool→Hp→Prop),Inv X pins σ H s→t σ H Q→wpAny (model X.prog X.w) X.A (isTrue e X.env whole) (TP X pins σ Q) X.xe s
theorem PW.pt {X:Cx} {e:Expr} {t:TT} (h:PW X e t):PT X e t:=h _
noncomputable def PA (X:Cx) (es:List Expr) (t:TA):Prop :=
 ∀(pos:Pos) (pins:List (Addr × Obj)) (s:Shared) (σ:St) (H:Hp) (Q:List V→Hp→Prop),Inv X pins σ H s→t σ H Q→wpAny (model X.prog X.w) X.A (spliced (backTo pos (starEach es X.env))) (AP X pins σ Q) X.xe s
noncomputable def PS (X:Cx) (st:Stmt) (t:TS):Prop :=
 ∀(pins:List (Addr × Obj)) (s:Shared) (σ:St) (H:Hp) (D:Ends),Inv X pins σ H s→t D σ H→wpAny (model X.prog X.w) X.A (exec st X.env) (SP X pins D) X.xe s
noncomputable def PSs (X:Cx) (st:List Stmt) (t:TS):Prop :=
 ∀(pins:List (Addr × Obj)) (s:Shared) (σ:St) (H:Hp) (D:Ends),Inv X pins σ H s→t D σ H→wpAny (model X.prog X.w) X.A (execs st X.env) (SP X pins D) X.xe s
theorem thn {α:Type} {t:Sem α} {Q Q':α→Shared→Prop} {M:Model} {A:Around} {E:Value→Shared→Prop} {s:Shared} (h:wpAny M A t Q E s) (hQ:∀a s,Q a s→Q' a s):wpAny M A t Q' E s:=wpAny_mono h hQ fun _ _ x=>x
end L2
namespace L2
open PySem PySem.Spec PyProof.Rows
section
variable {X:Cx}
noncomputable def tVar (i:Nat):TE:=fun σ H Q=>∃v,σ[i]?=some (some v)∧Q v H
noncomputable def tC (v:V):TE:=fun _ H Q=>Q v H
theorem pe_var {i : Nat} {x : Str} {pos : Pos} (hN : X.N[i]? = some x) (hv : Vis X.env.scope x) (hd : (x == ("__debug__" : Str)) = false := by decide) (hcd : (x == ("__classdict__" : Str)) = false := by decide) : PE X (.Name x pos) (tVar i) := by
 intro pins s σ H Q I h
 obtain ⟨v,e,h⟩:=h
 obtain ⟨m,hn,hl⟩:=I.loc
 obtain ⟨u,r,l⟩:=hl i x v hN e hv
 have fin:EP X pins σ Q u s:=⟨v,H,I,r,h⟩
 rcases l with ⟨hk,hm⟩ | ⟨hk,c,hc,hcell⟩
 ·exact wpAny_Name (wpAny_loadName_local I.ok.kind hk hn hm fin) hd
 ·rcases hk with hk | hk
  ·exact wpAny_Name (wpAny_loadName_cell I.ok.kind hk hc hcell fin) hd
  ·exact wpAny_Name (wpAny_loadName_free I.ok.kind hk hc hcell fin hcd) hd
theorem pe_int {i j pos}:PE X (.Constant (.int i) j pos) (tC (.int i)):=fun _ _ _ H _ I h=>wpAny_Constant_int ⟨.int i,H,I.tok _,⟨_,rfl⟩,h⟩
theorem pe_bl {b j pos}:PE X (.Constant (.bool b) j pos) (tC (.bl b)):=fun _ _ _ H _ I h=>Constant_bool ⟨.bl b,H,I,rfl,h⟩
theorem pe_non {j pos}:PE X (.Constant .none j pos) (tC .non):=fun _ _ _ H _ I h=>Constant_none ⟨.non,H,I,rfl,h⟩
noncomputable def Gl (X:Cx) (x:Str):Prop:=X.env.kindOf x=some .globalImplicit
theorem zrz {E:Value→Shared→Prop} {pins:List (Addr × Obj)} {s:Shared} {σ:St} {H:Hp} {x:Str} {u:Value} {pos:Pos} {Q:Value→Shared→Prop} (I:Inv X pins σ H s) (hg:Gl X x) (hm:X.mg x=some u) (h:Q u s)
  (hd : (x == ("__debug__" : Str)) = false := by decide) : wpAny (model X.prog X.w) X.A (eval (.Name x pos) X.env) Q E s :=
 Calls.Name_function_global I.ok.kind hg (Calls.loadGlobal_global (by rw[I.ok.glob];exact I.mod.glob.keeps I.bk) hm h) hd
theorem ld_blt {E:Value→Shared→Prop} {pins:List (Addr × Obj)} {s:Shared} {σ:St} {H:Hp} {x:Str} {u:Value} {pos:Pos} {Q:Value→Shared→Prop} (I:Inv X pins σ H s) (hg:Gl X x) (hm:X.mg x=none) (hv:bootBuiltins x=some u) (h:Q u s)
  (hn : x ≠ "__name__" := by decide) (hd : (x == ("__debug__" : Str)) = false := by decide) : wpAny (model X.prog X.w) X.A (eval (.Name x pos) X.env) Q E s := by
 obtain ⟨mb,h1,h2⟩:=I.mod.blt
 exact Calls.Name_function_global I.ok.kind hg (Calls.loadGlobal_builtin (by rw[I.ok.glob];exact I.mod.glob.keeps I.bk) hm (by rw[I.ok.blt];exact h1.keeps I.bk) ((h2 x hn).trans hv) h) hd
theorem zwh {x : Str} {v : V} {u : Value} {pos : Pos} (hg : Gl X x) (hm : X.mg x = some u) (r : RelV v u) (hd : (x == ("__debug__" : Str)) = false := by decide) : PE X (.Name x pos) (tC v) :=
 fun _ _ _ H _ I h=>zrz I hg hm ⟨v,H,I,r,h⟩ hd
theorem zlb {x : Str} {v : V} {u : Value} {pos : Pos} (hg : Gl X x) (hm : X.mg x = none) (hv : bootBuiltins x = some u) (r : RelV v u) (hn : x ≠ "__name__" := by decide) (hd : (x == ("__debug__" : Str)) = false := by decide) : PE X (.Name x pos) (tC v) :=
 fun _ _ _ H _ I h=>ld_blt I hg hm hv ⟨v,H,I,r,h⟩ hn hd
variable {a b:Expr} {ta tb:TE} {pos:Pos}
noncomputable def PC (X:Cx) (op:CmpOp) (a b:Expr) (t:TE):Prop :=
 ∀(pins:List (Addr × Obj)) (s:Shared) (σ:St) (H:Hp) (Q:VK),Inv X pins σ H s→t σ H Q →
  wpAny (model X.prog X.w) X.A (eval a X.env) (fun v s₁=>wpAny (model X.prog X.w) X.A (eval b X.env) (fun u s₂=>wpAny (model X.prog X.w) X.A (compareOp op v u) (EP X pins σ Q) X.xe s₂) X.xe s₁) X.xe s
noncomputable def tB (t:TE):TT:=fun σ H Q=>t σ H fun x H1=>∃c,x=.bl c∧Q c H1
theorem pt_cmp {op:CmpOp} {t:TE} (h:PC X op a b t) (h1:behindInMarks op b=false:=by first | exact nobehind _ (by decide) (by decide) | rfl):PT X (.Compare a [op] [b] pos) (tB t):=by
 intro pins s σ H Q I hw
 refine wpAny_isTrue_Compare1 (thn (h pins s σ H _ I hw) fun v s1 h1=>thn h1 fun u s2 h2=>thn h2 fun c s3 ⟨x,H1,I1,r1,q1⟩=>?_) h1
 obtain ⟨d,rfl,q⟩:=q1
 cases r1
 exact wpAny_truthy_bool ⟨H1,I1,q⟩
variable {tA tB':TT} {rest:List Expr}
noncomputable def tAnd (t u:TT):TT:=fun σ H Q=>t σ H fun c H1=>if c=true then u σ H1 Q else Q false H1
noncomputable def tOr (t u:TT):TT:=fun σ H Q=>t σ H fun c H1=>if c=true then Q true H1 else u σ H1 Q
noncomputable def tNot (t:TT):TT:=fun σ H Q=>t σ H fun c H1=>Q (!c) H1
theorem pw_and1 (ha:PT X a tA):PW X (.BoolOp .And [a] pos) tA:=by
 intro wh pins s σ H Q I h
 refine isTrue_and (thn (ha pins s σ H Q I h) fun c s1 e=>?_)
 cases c with
 | true=>exact isTrue_and_nil e
 | false=>exact e
theorem pw_or1 (ha:PT X a tA):PW X (.BoolOp .Or [a] pos) tA:=by
 intro wh pins s σ H Q I h
 refine isTrue_or (thn (ha pins s σ H Q I h) fun c s1 e=>?_)
 cases c with
 | false=>exact isTrue_or_nil e
 | true=>exact e
theorem pw_and (ha:PT X a tA) (hb:PW X (.BoolOp .And (b::rest) pos) tB'):PW X (.BoolOp .And (a::b::rest) pos) (tAnd tA tB'):=by
 intro wh pins s σ H Q I h
 refine isTrue_and (thn (ha pins s σ H _ I h) fun c s1 ⟨H1,I1,q1⟩=>?_)
 cases c with
 | true=>exact hb wh pins s1 σ H1 Q I1 q1
 | false=>exact ⟨H1,I1,q1⟩
theorem pw_or (ha:PT X a tA) (hb:PW X (.BoolOp .Or (b::rest) pos) tB'):PW X (.BoolOp .Or (a::b::rest) pos) (tOr tA tB'):=by
 intro wh pins s σ H Q I h
 refine isTrue_or (thn (ha pins s σ H _ I h) fun c s1 ⟨H1,I1,q1⟩=>?_)
 cases c with
 | true=>exact ⟨H1,I1,q1⟩
 | false=>exact hb wh pins s1 σ H1 Q I1 q1
theorem pt_not (ha:PT X a tA):PT X (.UnaryOp .Not a pos) (tNot tA):=by
 intro pins s σ H Q I h
 exact isTrue_not (ha pins s σ H (fun c H1=>Q (!c) H1) I h)
noncomputable def tOrV (ta tb:TE):TE:=fun σ H Q=>ta σ H fun x H1=>∃c,x=.bl c∧if c=true then Q (.bl true) H1 else tb σ H1 Q
noncomputable def tNotV (ta:TE):TE:=fun σ H Q=>ta σ H fun x H1=>∃c,x=.bl c∧Q (.bl (!c)) H1
theorem pe_one {op} {t:TE} (h:PE X a t):PE X (.BoolOp op [a] pos) t:=fun pins s σ H Q I hw=>BoolOp_one (h pins s σ H Q I hw)
theorem pe_or (ha:PE X a ta) (hb:PE X (.BoolOp .Or (b::rest) pos) tb):PE X (.BoolOp .Or (a::b::rest) pos) (tOrV ta tb):=by
 intro pins s σ H Q I h
 refine BoolOp_or (thn (ha pins s σ H _ I h) fun v s1 hq0=>?_)
 obtain ⟨x,H1,I1,r1,q1⟩:=hq0
 obtain ⟨c,rfl,q1⟩:=q1
 cases r1
 refine wpAny_truthy_bool ?_
 cases c with
 | false=>exact hb pins s1 σ H1 Q I1 q1
 | true=>exact ⟨.bl true,H1,I1,rfl,q1⟩
theorem pe_not (ha:PE X a ta):PE X (.UnaryOp .Not a pos) (tNotV ta):=by
 intro pins s σ H Q I h
 refine UnaryOp_ (thn (ha pins s σ H _ I h) fun v s1 hq0=>?_)
 obtain ⟨x,H1,I1,r1,q1⟩:=hq0
 obtain ⟨c,rfl,q1⟩:=q1
 cases r1
 exact not_of (wpAny_truthy_bool ⟨.bl (!c),H1,I1,rfl,q1⟩)
end
end L2
namespace L2
open PySem PySem.Spec PyProof.Rows
noncomputable def SqL (K:PySem.W.Frag) (H:Hp) (a:Addr) (xs:List V):Prop :=
 Rd H a (.lst xs) ∨
  ∃ (o : Obj) (its : Array Value) (n : Nat), K.lookup a = some o ∧ o.cls = .type "list" ∧ o.dict = none ∧ o.data = .seq its n ∧ its.size ≤ sizeLine ∧ Vals xs its.toList
noncomputable def SqT (K:PySem.W.Frag) (H:Hp) (a:Addr) (xs:List V):Prop :=
 Rd H a (.tup xs) ∨
  ∃ (o : Obj) (its : Array Value) (n : Nat), K.lookup a = some o ∧ o.cls = .type "tuple" ∧ o.data = .seq its n ∧ its.size ≤ sizeLine ∧ Vals xs its.toList
noncomputable def absV:Value→Option V
 | .none=>some .non
 | .bool b=>some (.bl b)
 | .int i _=>some (.int i)
 | .str x _=>some (.str x)
 | .bytes b _=>some (.byt b)
 | .float b _=>some (.flt b)
 | .ref a=>some (.ref a)
 | .type n=>some (.ty n)
 | _=>none
theorem RelV.abs {x:V} {u:Value} (r:RelV x u):absV u=some x:=by
 cases x with
 | non=>cases r;rfl
 | bl _=>cases r;rfl
 | int _=>obtain ⟨t,rfl⟩:=r;rfl
 | str _=>obtain ⟨t,rfl⟩:=r;rfl
 | byt _=>obtain ⟨t,rfl⟩:=r;rfl
 | flt _=>obtain ⟨t,rfl⟩:=r;rfl
 | ref _=>cases r;rfl
 | ty _=>cases r;rfl
theorem RelV.inj {x y:V} {u:Value} (r:RelV x u) (q:RelV y u):x=y:=Option.some.inj (r.abs.symm.trans q.abs)
theorem Vals.inj:∀{xs ys:List V} {us:List Value},Vals xs us→Vals ys us→xs=ys
 | _,_,_,.nil,.nil=>rfl
 | _,_,_,.cons r t,.cons r' t'=>by rw[r.inj r',Vals.inj t t']
section
variable {X:Cx} {pins:List (Addr × Obj)} {σ:St} {H:Hp} {s:Shared} {a:Addr} {xs ys:List V}
theorem SqL.of {K:PySem.W.Frag} (h:H a=some (.lst xs)):SqL K H a xs:=.inl (.inl h)
theorem SqT.of {K:PySem.W.Frag} (h:H a=some (.tup xs)):SqT K H a xs:=.inl (.inl h)
theorem Inv.list (I:Inv X pins σ H s) (h:SqL X.K H a xs):∃its:List Value,Vals xs its∧PlainL s.heap a its.toArray∧xs.length≤sizeLine:=by
 rcases h with h | ⟨o,its,n,hk,hc,hd,hs,hz,r⟩
 ·obtain ⟨z,its,n,r,e⟩:=h.ok I.hok
  exact ⟨its,r,⟨_,n,e,rfl,rfl,rfl⟩,z⟩
 ·refine ⟨its.toList,r,⟨o,n,I.kIn a o hk,hc,hd,by simpa using hs⟩,?_⟩
  have e:=r.length
  simp only[Array.length_toList] at e
  omega
theorem Inv.tuple (I:Inv X pins σ H s) (h:SqT X.K H a xs):∃its:List Value,Vals xs its∧IsTup s.heap a its.toArray∧xs.length≤sizeLine:=by
 rcases h with h | ⟨o,its,n,hk,hc,hs,hz,r⟩
 ·obtain ⟨z,its,r,p⟩:=h.ok I.hok
  exact ⟨its,r,p,z⟩
 ·refine ⟨its.toList,r,⟨o,I.kIn a o hk,hc,n,by simpa using hs⟩,?_⟩
  have e:=r.length
  simp only[Array.length_toList] at e
  omega
theorem Inv.list_inj (I:Inv X pins σ H s) (h:SqL X.K H a xs) (h':SqL X.K H a ys):xs=ys:=by
 obtain ⟨its,r,⟨o,n,e,_,_,d⟩,_⟩:=I.list h
 obtain ⟨its',r',⟨o',n',e',_,_,d'⟩,_⟩:=I.list h'
 rw[e] at e';cases e'
 rw[d] at d'
 injection d' with d1 _
 have:its=its':=by simpa using congrArg Array.toList d1
 subst this
 exact r.inj r'
theorem Inv.tuple_inj (I:Inv X pins σ H s) (h:SqT X.K H a xs) (h':SqT X.K H a ys):xs=ys:=by
 obtain ⟨its,r,⟨o,e,_,n,d⟩,_⟩:=I.tuple h
 obtain ⟨its',r',⟨o',e',_,n',d'⟩,_⟩:=I.tuple h'
 rw[e] at e';cases e'
 rw[d] at d'
 injection d' with d1 _
 have:its=its':=by simpa using congrArg Array.toList d1
 subst this
 exact r.inj r'
end
noncomputable abbrev Cx.wish (X:Cx) (E:Value→Shared→Prop):Cx:={X with xe:=E}
noncomputable abbrev Cx.nox (X:Cx):Cx:=X.wish fun _ _=>False
theorem Cx.Ok.wish {X:Cx} (ok:X.Ok) (E:Value→Shared→Prop):(X.wish E).Ok :=
 ⟨ok.mod,ok.kind,ok.glob,ok.blt,ok.above,ok.inj,ok.has,ok.cab,ok.hd,ok.frames,ok.stk,ok.exf,ok.bs,ok.bsz,ok.noex,ok.exfs,ok.funs,ok.frf⟩
theorem Cx.Ok.unwish {X:Cx} {E:Value→Shared→Prop} (ok:(X.wish E).Ok):X.Ok :=
 ⟨ok.mod,ok.kind,ok.glob,ok.blt,ok.above,ok.inj,ok.has,ok.cab,ok.hd,ok.frames,ok.stk,ok.exf,ok.bs,ok.bsz,ok.noex,ok.exfs,ok.funs,ok.frf⟩
section
variable {X:Cx} {pins:List (Addr × Obj)} {σ:St} {H:Hp} {s:Shared} {E:Value→Shared→Prop}
theorem Inv.wish (I:Inv X pins σ H s) (E:Value→Shared→Prop):Inv (X.wish E) pins σ H s:=⟨I.ok.wish E,I.os,I.bare,I.base,I.loc,I.cell,I.free,I.freeC,I.pin,I.hok,I.len⟩
theorem Inv.unwish (I:Inv (X.wish E) pins σ H s):Inv X pins σ H s:=⟨I.ok.unwish,I.os,I.bare,I.base,I.loc,I.cell,I.free,I.freeC,I.pin,I.hok,I.len⟩
theorem SP.unwish {D:Ends} {f:Flow} {s':Shared} (h:SP (X.wish E) pins D f s'):SP X pins D f s':=by
 cases f with
 | next=>obtain ⟨σ',H',I,q⟩:=h;exact ⟨σ',H',I.unwish,q⟩
 | brk=>obtain ⟨σ',H',I,q⟩:=h;exact ⟨σ',H',I.unwish,q⟩
 | cont=>obtain ⟨σ',H',I,q⟩:=h;exact ⟨σ',H',I.unwish,q⟩
 | ret u=>obtain ⟨v,σ',H',I,r,q⟩:=h;exact ⟨v,σ',H',I.unwish,r,q⟩
theorem PSs.nox {st:List Stmt} {t:TS} (h:PSs X.nox st t):PSs X st t:=fun pins s σ H D I hw =>
 wpAny_mono (h pins s σ H D (I.wish _) hw) (fun _ _ q=>q.unwish) fun _ _ z=>False.elim z
end
section
variable {X:Cx} {st:Stmt} {rest:List Stmt} {t u:TS} {e:Expr} {te:TE} {pos:Pos}
noncomputable def tNext:TS:=fun D σ H=>D.nx σ H
noncomputable def tSeq (t u:TS):TS:=fun D σ H=>t {D with nx:=u D} σ H
theorem zvu:PSs X [] tNext:=fun _ _ σ H _ I h=>wpAny_execs_nil ⟨σ,H,I,h⟩
theorem ztd (h1:PS X st t) (h2:PSs X rest u):PSs X (st::rest) (tSeq t u):=by
 intro pins s σ H D I h
 refine wpAny_execs_cons (thn (h1 pins s σ H {D with nx:=u D} I h) fun f s1 q=>?_)
 cases f with
 | next =>
  obtain ⟨σ',H',I',q⟩:=q
  exact h2 pins s1 σ' H' D I' q
 | ret v=>exact q
 | brk=>exact q
 | cont=>exact q
theorem zvt (h1:PS X st t):PSs X [st] t:=by
 intro pins s σ H D I h
 refine wpAny_execs_cons (thn (h1 pins s σ H D I h) fun f s1 q=>?_)
 cases f with
 | next=>exact wpAny_execs_nil q
 | ret v=>exact q
 | brk=>exact q
 | cont=>exact q
theorem Inv.quiet {pins:List (Addr × Obj)} {σ:St} {H:Hp} {s:Shared} (I:Inv X pins σ H s):interactive X.env=false:=by simp[interactive,I.ok.kind]
noncomputable def tDrop (te:TE):TS:=fun D σ H=>te σ H fun _ H1=>D.nx σ H1
theorem zvw (he:PE X e te) (hs:swapsWith e none pos.line X.env=pure false:=by rfl):PS X (.Expr e pos) (tDrop te):=by
 intro pins s σ H D I h
 exact wpAny_Expr_any (thn (he pins s σ H _ I h) fun v s1 ⟨x,H1,I1,r1,q1⟩=>⟨σ,H1,I1,q1⟩) I.quiet hs
noncomputable def tRet (te:TE):TS:=fun D σ H=>te σ H D.rt
theorem ps_ret (he:PE X e te):PS X (.Return (some e) pos) (tRet te):=by
 intro pins s σ H D I h
 exact wpAny_Return_some (thn (he pins s σ H _ I h) fun v s1 ⟨x,H1,I1,r1,q1⟩=>⟨x,σ,H1,I1,r1,q1⟩)
noncomputable def tIfS (c:TT) (t u:TS):TS:=fun D σ H=>c σ H fun b H1=>if b=true then t D σ H1 else u D σ H1
theorem ps_if {c:Expr} {a b:List Stmt} {tc:TT} (hc:PT X c tc) (ha:PSs X a t) (hb:PSs X b u):PS X (.If c a b pos) (tIfS tc t u):=by
 intro pins s σ H D I h
 refine wpAny_If (thn (hc pins s σ H _ I h) fun d s1 ⟨H1,I1,q1⟩=>?_)
 cases d with
 | true=>exact ha pins s1 σ H1 D I1 q1
 | false=>exact hb pins s1 σ H1 D I1 q1
end
noncomputable abbrev TG:=V→St→Hp→(St→Hp→Prop)→Prop
noncomputable abbrev TGs:=List V→St→Hp→(St→Hp→Prop)→Prop
noncomputable def PG (X:Cx) (target:Expr) (t:TG):Prop :=
 ∀(pins:List (Addr × Obj)) (s:Shared) (σ:St) (H:Hp) (v:V) (u:Value) (Q:St→Hp→Prop),Inv X pins σ H s→RelV v u→t v σ H Q →
  wpAny (model X.prog X.w) X.A (assign target X.env u) (fun _ s'=>∃σ' H',Inv X pins σ' H' s'∧Q σ' H') X.xe s
noncomputable def PGs (X:Cx) (ts:List Expr) (t:TGs):Prop :=
 ∀(pins:List (Addr × Obj)) (s:Shared) (σ:St) (H:Hp) (vs:List V) (us:List Value) (Q:St→Hp→Prop),Inv X pins σ H s→Vals vs us→t vs σ H Q →
  wpAny (model X.prog X.w) X.A (assignInOrder ((assignEach ts X.env).map (·.2)) us) (fun _ s'=>∃σ' H',Inv X pins σ' H' s'∧Q σ' H') X.xe s
noncomputable abbrev TSet:=V→V→V→Hp→(Hp→Prop)→Prop
noncomputable def PSet (X:Cx) (t:TSet):Prop :=
 ∀(pins:List (Addr × Obj)) (s:Shared) (σ:St) (H:Hp) (o i v:V) (ov iv u:Value) (Q:Hp→Prop),Inv X pins σ H s→RelV o ov→RelV i iv→RelV v u→t o i v H Q →
  wpAny (model X.prog X.w) X.A (setItem ov iv u) (fun _ s'=>∃H',Inv X pins σ H' s'∧Q H') X.xe s
noncomputable abbrev TIp:=V→V→Hp→VK→Prop
noncomputable def PIp (X:Cx) (op:Operator) (t:TIp):Prop :=
 ∀(pins:List (Addr × Obj)) (s:Shared) (σ:St) (H:Hp) (x y:V) (v u:Value) (Q:VK),Inv X pins σ H s→RelV x v→RelV y u→t x y H Q →
  wpAny (model X.prog X.w) X.A (inplaceOp op v u) (EP X pins σ Q) X.xe s
section
variable {X:Cx} {pos:Pos}
noncomputable def gName (i:Nat):TG:=fun v σ H Q=>Q (σ.set i (some v)) H
theorem zwg {i:Nat} {x:Str} (hN:X.N.Nodup) (hi:X.N[i]?=some x) (hx:Loc X.env.scope x) (hf:X.fn x=true∨X.env.scope.names.lookup x=some .local:=by first | exact .inl rfl | exact .inr rfl | assumption):PG X (.Name x pos) (gName i):=by
 intro pins s σ H v u Q I r h
 exact wpAny_assign_Name (zjq I hN hi hx r (fun s' I'=>⟨_,H,I',h⟩) hf)
noncomputable def gNil:TGs:=fun vs σ H Q=>vs=[]∧Q σ H
noncomputable def gCons (t:TG) (u:TGs):TGs:=fun vs σ H Q=>∃v r,vs=v::r∧t v σ H fun σ' H'=>u r σ' H' Q
theorem zwf:PGs X [] gNil:=by
 intro pins s σ H vs us Q I r h
 obtain ⟨e,h⟩:=h
 subst e
 cases r
 exact assignInOrder_nil ⟨σ,H,I,h⟩
theorem ztj {e:Expr} {es:List Expr} {t:TG} {u:TGs} (h1:PG X e t) (h2:PGs X es u)
  (hs:(assignEach (e::es) X.env).map (·.2)=assign e X.env::(assignEach es X.env).map (·.2):=by rfl):PGs X (e::es) (gCons t u):=by
 intro pins s σ H vs us Q I r h
 obtain ⟨v,vr,e1,h⟩:=h
 subst e1
 cases r with
 | cons r rr =>
  rw[hs]
  refine assignInOrder_cons (thn (h1 pins s σ H _ _ _ I r h) fun _ s1 hq0=>?_)
  obtain ⟨σ1,H1,I1,q1⟩:=hq0
  exact h2 pins s1 σ1 H1 _ _ Q I1 rr q1
noncomputable def gTup (K:PySem.W.Frag) (n:Nat) (t:TGs):TG:=fun v σ H Q=>∃a xs,v=.ref a∧SqT K H a xs∧xs.length=n∧t xs σ H Q
theorem pg_tup {es:List Expr} {k:Nat} {t:TGs} {n:Nat} (hc:X.calm=true) (h:PGs X es t)
  (hn:(assignEach es X.env).length=n:=by rfl) (hst:(assignEach es X.env).findIdx? (·.1)=none:=by rfl):PG X (.Tuple es k pos) (gTup X.K n t):=by
 intro pins s σ H v u Q I r hw
 obtain ⟨a,xs,e1,hq,hl,hw⟩:=hw
 subst e1
 cases r
 obtain ⟨its,rv,ht,hz⟩:=I.tuple hq
 refine assign_Tuple_tuple (I.ok.hd hc) ht (by simp[hn,← hl,rv.length]) hst fun h' hx=>?_
 have I1:Inv X pins σ H {s with heap:=h'}:=I.kept (t':=s.toks) fun b o e=>hx b o (Nat.ne_of_lt (Heap.lt_size e)) e
 exact h pins _ σ H xs _ Q I1 (by simpa using rv) hw
noncomputable def gSub (to ti:TE) (t:TSet):TG:=fun v σ H Q=>to σ H fun o H1=>ti σ H1 fun i H2=>t o i v H2 fun H3=>Q σ H3
theorem pg_sub {o i:Expr} {to ti:TE} {t:TSet} (ho:PE X o to) (hi:PE X i ti) (hs:PSet X t)
  (ha:∀v,assign (.Subscript o i pos) X.env v=(do
   let ov ← holding [v] (eval o X.env)
   let iv ← holding [v,ov] (eval i X.env)
   standAt pos
   holding [v,ov,iv] (setItem ov iv v)
   release [v,ov,iv] []):=by intro _;rfl):PG X (.Subscript o i pos) (gSub to ti t):=by
 intro pins s σ H v u Q I r h
 rw[ha]
 refine wpAny_bind (wpAny_holding (thn (ho pins s σ H _ I h) fun ov s1 hq0=>?_))
 obtain ⟨x,H1,I1,r1,q1⟩:=hq0
 refine wpAny_bind (wpAny_holding (thn (hi pins s1 σ H1 _ I1 q1) fun iv s2 hq0=>?_))
 obtain ⟨y,H2,I2,r2,q2⟩:=hq0
 refine wpAny_bind (wpAny_standAt (wpAny_bind (wpAny_holding (thn (hs pins s2 σ H2 x y v ov iv u _ I2 r1 r2 r q2) fun _ s3 hq0=>?_))))
 obtain ⟨H3,I3,q3⟩:=hq0
 exact wpAny_release ⟨σ,H3,I3,q3⟩
noncomputable def tAsg (te:TE) (g:TG):TS:=fun D σ H=>te σ H fun x H1=>g x σ H1 D.nx
theorem ps_asg {tg e:Expr} {te:TE} {g:TG} (he:PE X e te) (hg:PG X tg g) (hs:swapsWithSole [tg] e pos.line X.env=pure false:=by rfl) (hw:swappedStores [tg] e X.env=pure none:=by rfl)
  (h1:(assignEach [tg] X.env).map (·.2)=[assign tg X.env]:=by rfl):PS X (.Assign [tg] e pos) (tAsg te g):=by
 intro pins s σ H D I h
 refine wpAny_Assign_stores (thn (he pins s σ H _ I h) fun v s1 hq0=>?_) hs hw
 obtain ⟨x,H1,I1,r1,q1⟩:=hq0
 rw[h1]
 exact thn (hg pins s1 σ H1 x v _ I1 r1 q1) fun _ s2 q=>q
theorem ps_set {i:Nat} {x:Str} {e:Expr} {te:TE} {pos':Pos} (hN:X.N.Nodup) (hi:X.N[i]?=some x) (hx:Loc X.env.scope x) (he:PE X e te) (hs:swapsWith e (some (.Name x pos')) pos.line X.env=pure false:=by rfl) (hf:X.fn x=true∨X.env.scope.names.lookup x=some .local:=by first | exact .inl rfl | exact .inr rfl | assumption) :
  PS X (.Assign [.Name x pos'] e pos) (tAsg te (gName i)):=by
 intro pins s σ H D I h
 refine wpAny_Assign_Name (thn (he pins s σ H _ I h) fun v s1 hq0=>?_) hs
 obtain ⟨y,H1,I1,r1,q1⟩:=hq0
 exact zjq I1 hN hi hx r1 (fun s2 I2=>⟨_,H1,I2,q1⟩) hf
noncomputable def tAug (i:Nat) (te:TE) (ti:TIp):TS:=fun D σ H=>∃x,σ[i]?=some (some x)∧te σ H fun y H1=>ti x y H1 fun z H2=>D.nx (σ.set i (some z)) H2
theorem ps_aug {i:Nat} {x:Str} {e:Expr} {te:TE} {op:Operator} {ti:TIp} {pos':Pos} (hN:X.N.Nodup) (hi:X.N[i]?=some x) (hx:Loc X.env.scope x) (he:PE X e te) (ho:PIp X op ti) (hf:X.fn x=true∨X.env.scope.names.lookup x=some .local:=by first | exact .inl rfl | exact .inr rfl | assumption) :
  PS X (.AugAssign (.Name x pos') op e pos) (tAug i te ti):=by
 intro pins s σ H D I h
 obtain ⟨v,e1,h⟩:=h
 obtain ⟨m,hn,hl⟩:=I.loc
 have vis:Vis X.env.scope x:=by rcases hx with k | k;exact .inl k;exact .inr (.inl k)
 obtain ⟨u,r,l⟩:=hl i x v hi e1 vis
 refine wpAny_AugAssign_Name ?_
 have go:wpAny (model X.prog X.w) X.A (eval e X.env) (fun w s₂=>wpAny (model X.prog X.w) X.A (inplaceOp op u w) (fun r s₃=>wpAny (model X.prog X.w) X.A (storeName X.env x r) (fun _=>SP X pins D .next) X.xe s₃) X.xe s₂) X.xe s:=by
  refine thn (he pins s σ H _ I h) fun w s1 hq0=>?_
  obtain ⟨y,H1,I1,r1,q1⟩:=hq0
  refine thn (ho pins s1 σ H1 v y u w _ I1 r r1 q1) fun z s2 hq0=>?_
  obtain ⟨zv,H2,I2,r2,q2⟩:=hq0
  exact zjq I2 hN hi hx r2 (fun s3 I3=>⟨_,H2,I3,q2⟩) hf
 rcases l with ⟨hk,hm⟩ | ⟨hk,c,hc,hcell⟩
 ·exact wpAny_loadName_local I.ok.kind hk hn hm go
 ·rcases hk with hk | hk
  ·exact wpAny_loadName_cell I.ok.kind hk hc hcell go
  ·rcases hx with k | k
   ·have:X.env.scope.names.lookup x=some .free:=hk
    rw[k] at this;cases this
   ·have:X.env.scope.names.lookup x=some .free:=hk
    rw[k] at this;cases this
noncomputable def ipI (f:Int→Int→Int):TIp:=fun x y H Q=>∃i j,x=.int i∧y=.int j∧Q (.int (f i j)) H
theorem ip_add:PIp X .Add (ipI fun i j=>i+j):=by
 intro pins s σ H x y v u Q I r1 r2 h
 obtain ⟨i,j,e1,e2,q⟩:=h
 subst e1;subst e2
 obtain ⟨t,rfl⟩:=r1
 obtain ⟨t',rfl⟩:=r2
 exact iadd_int ⟨.int _,H,I.tok _,⟨_,rfl⟩,q⟩
noncomputable def tWhile (c:TT) (tb:TS):TS:=fun D σ H=>∃W:Nat→St→Hp→Prop,(∃m,W m σ H)∧∀m σ H,W m σ H →
 c σ H fun b H1=>if b=true then ∃N:St→Hp→Prop,(∀σ' H',N σ' H'→∃m',m' < m∧W m' σ' H')∧tb {D with nx:=N,ct:=N,bk:=D.nx} σ H1 else D.nx σ H1
theorem zte {c:Expr} {body:List Stmt} {tc:TT} {tb:TS} (hp:PassesOwn (model X.prog X.w) X.A X.env X.xe) (hc:PT X c tc) (hb:PSs X body tb):PS X (.While c body [] pos) (tWhile tc tb):=by
 intro pins s σ H D I h
 obtain ⟨W,⟨m0,w0⟩,turn⟩:=h
 refine wpAny_While (codeAny_whileLoop (fun n s'=>∃σ' H',Inv X pins σ' H' s'∧W n σ' H') ?_ m0 ⟨σ,H,I,w0⟩)
 rintro n s1 ⟨σ1,H1,I1,w1⟩
 refine wpAny_passesOwn hp (thn (hc pins s1 σ1 H1 _ I1 (turn n σ1 H1 w1)) fun b s2 ⟨H2,I2,q2⟩=>?_)
 cases b with
 | true =>
  obtain ⟨N,hN,q2⟩:=q2
  rw[if_pos rfl]
  refine wpAny_passesOwn hp (thn (hb pins s2 σ1 H2 _ I2 q2) fun f s3 q3=>?_)
  cases f with
  | next =>
   obtain ⟨σ3,H3,I3,n3⟩:=q3
   obtain ⟨m',hm,w3⟩:=hN σ3 H3 n3
   exact ⟨m',hm,σ3,H3,I3,w3⟩
  | cont =>
   obtain ⟨σ3,H3,I3,n3⟩:=q3
   obtain ⟨m',hm,w3⟩:=hN σ3 H3 n3
   exact ⟨m',hm,σ3,H3,I3,w3⟩
  | brk=>exact q3
  | ret v=>exact q3
 | false =>
  rw[if_neg Bool.false_ne_true]
  exact wpAny_execs_nil ⟨σ1,H2,I2,q2⟩
end
structure It where
 go:Nat→Hp→Prop
 yld:Nat→Hp→V→Hp→Prop
 stop:Nat→Hp→Prop
noncomputable def FpOk (X:Cx) (pins:List (Addr × Obj)) (H:Hp) (b:Addr):Prop :=
 H b=none∧b≠X.env.locals∧b∉X.fs∧(b∈X.ex∨X.s₀.heap.objs.size≤b)∧(∀x c,X.env.cells.lookup x=some c→c≠b)∧∀p∈X.pn++pins,p.1≠b
theorem Inv.fpOk {X:Cx} {pins:List (Addr × Obj)} {σ:St} {H H':Hp} {s:Shared} {b:Addr} (I:Inv X pins σ H s) (hb:s.heap.objs.size≤b) (hn:H' b=none):FpOk X pins H' b:=by
 refine ⟨hn,Nat.ne_of_gt (Nat.lt_of_lt_of_le I.lt hb),I.nofs hb,.inr (Nat.le_trans I.sz hb),fun x c e z=>?_,fun p hp z=>?_⟩
 ·obtain ⟨v,q⟩:=I.cell x c e
  exact absurd (Nat.lt_of_lt_of_le q.lt (by rw[z];exact hb)) (Nat.lt_irrefl _)
 ·exact absurd (Nat.lt_of_lt_of_le (Heap.lt_size (I.pin p hp).1) (by rw[z];exact hb)) (Nat.lt_irrefl _)
structure Turn (P:Program) (w:World) (K:PySem.W.Frag) (tg:Expr) (J:It) (fp:List Addr) (it:Addr) (tn:Nat→Heap→Prop):Prop where
 mem:it∈fp
 obj:∀i h,tn i h→∀b∈fp,∃o,h.get? b=some o∧∀v,o.data≠.cell v
 keep:∀i h h',tn i h→(∀b∈fp,∀o,h.get? b=some o→h'.get? b=some o)→tn i h'
 item:∀(X:Cx),X.prog=P→X.w=w→X.K=K→X.calm=true→∀(i:Nat) (pins:List (Addr × Obj)) (s:Shared) (σ:St) (H:Hp) (E:Value→Shared→Prop),Inv X pins σ H s→(∀b∈fp,FpOk X pins H b)→tn i s.heap→J.go i H →
  wpAny (model P w) X.A (pyNext (.ref it)) (fun r s1=>∃u,r=some u ∧
   wpAny (model P w) X.A (letOwnedTupleGo tg (.ref it) u) (fun _ s2=>∃x H',Inv X pins σ H' s2∧RelV x u∧J.yld i H x H'∧tn (i+1) s2.heap∧∀b∈fp,H' b=none) E s1) E s
 done:∀(X:Cx),X.prog=P→X.w=w→X.K=K→X.calm=true→∀(i:Nat) (pins:List (Addr × Obj)) (s:Shared) (σ:St) (H:Hp) (E:Value→Shared→Prop),Inv X pins σ H s→(∀b∈fp,FpOk X pins H b)→tn i s.heap→J.stop i H →
  wpAny (model P w) X.A (pyNext (.ref it)) (fun r s1=>r=none∧Inv X pins σ H s1) E s
 self:∀(A:Around) (i:Nat) (s:Shared) (Q:Value→Shared→Prop) (E:Value→Shared→Prop),tn i s.heap→Q (.ref it) s→wpAny (model P w) A (pyIter (.ref it)) Q E s
noncomputable abbrev TI:=St→Hp→(It→Hp→Prop)→Prop
noncomputable def PIE (X:Cx) (pins:List (Addr × Obj)) (σ:St) (tg:Expr) (R:It→Hp→Prop) (itv:Value) (s2:Shared):Prop :=
 ∃(it:Addr) (fp:List Addr) (tn:Nat→Heap→Prop) (J:It) (H':Hp),itv=.ref it∧Inv X pins σ H' s2∧Turn X.prog X.w X.K tg J fp it tn∧tn 0 s2.heap∧(∀b∈fp,FpOk X pins H' b)∧R J H'
noncomputable def PI (X:Cx) (tg iter:Expr) (wi:TI):Prop :=
 ∀(pins:List (Addr × Obj)) (s:Shared) (σ:St) (H:Hp) (R:It→Hp→Prop),Inv X pins σ H s→wi σ H R →
  wpAny (model X.prog X.w) X.A (eval iter X.env) (fun v s1=>wpAny (model X.prog X.w) X.A (pyIter v) (PIE X pins σ tg R) X.xe s1) X.xe s
theorem go_of {M : Model} {A : Around} {E : Value → Shared → Prop} {s : Shared} {tg : Expr} {it : Addr} {u : Value} {o : Obj} {n : String} {vs : Array Value} {Q : Unit → Shared → Prop} (ho : s.heap.get? it = some o) (hc : o.cls = .type n) (hd : o.data = .fields vs)
    (hn : ["enumerate", "zip", "dict_itemiterator", "dict_reverseitemiterator", "odict_iterator", "itertools.zip_longest", "itertools.pairwise"].contains n = false) (hQ : Q () s) : wpAny M A (letOwnedTupleGo tg (.ref it) u) Q E s := by
  unfold letOwnedTupleGo
  cases tg <;> first
    | exact wpAny_pure hQ
    | (cases u <;> first
        | exact wpAny_pure hQ
        | (refine wpAny_bind (wpAny_load ho ?_)
           rw [hc, hd]
           show wpAny M A (if (["enumerate", "zip", "dict_itemiterator", "dict_reverseitemiterator", "odict_iterator", "itertools.zip_longest", "itertools.pairwise"].contains n && vs[0]? == some (rawInt _)) = true then _ else _) Q E s
           rw [if_neg (by intro h; rw [hn, Bool.false_and] at h; cases h)]
           exact wpAny_pure hQ))
noncomputable def Itl (K:PySem.W.Frag) (a:Addr):It :=
 ⟨fun i H=>∃xs x,SqL K H a xs∧xs[i]?=some x,fun i H x H'=>H'=H∧∀xs,SqL K H a xs→xs[i]?=some x,fun i H=>∃xs,SqL K H a xs∧xs.length≤i⟩
noncomputable def Itt (K:PySem.W.Frag) (a:Addr):It :=
 ⟨fun i H=>∃xs x,SqT K H a xs∧xs[i]?=some x,fun i H x H'=>H'=H∧∀xs,SqT K H a xs→xs[i]?=some x,fun i H=>∃xs,SqT K H a xs∧xs.length≤i⟩
noncomputable def Itr (lo:Int) (n:Nat):It:=⟨fun i _=>i < n,fun i H x H'=>H'=H∧x=.int (lo+i),fun i _=>n≤i⟩
theorem zpm {P:Program} {w:World} {K:PySem.W.Frag} {tg:Expr} (a it:Addr):Turn P w K tg (Itl K a) [it] it (fun i h=>h.IsListIter it a i) where
 mem:=by simp
 obj:=fun i h st b hb=>by
  have e:b=it:=by simpa using hb
  subst e
  obtain ⟨o,e,c,d⟩:=st
  exact ⟨o,e,fun v z=>by rw[d] at z;cases z⟩
 keep:=fun i h h' st k=>st.at fun o e=>k it (by simp) o e
 item:=by
  intro X hP hw hK hc i pins s σ H E I hf st hg
  subst hP hw hK
  obtain ⟨xs,x,hq,hx⟩:=hg
  obtain ⟨its,rv,p,hz⟩:=I.list hq
  obtain ⟨u,hu,ru⟩:=rv.get hx
  obtain ⟨f0,f1,f2,f3,f4,f5⟩:=hf it (by simp)
  refine wpAny_pyNext_list_item st p.isList (x:=u) (by simpa using hu) fun h' st' sb=>?_
  have I1:Inv X pins σ H {s with heap:=h'}:=I.turned (t':=s.toks) (fun b o hb e=>(sb.2 b hb).trans e) f0 f1 f3 f4 f5
  obtain ⟨o,e,c,d⟩:=id st'
  exact ⟨u,rfl,go_of (s:={s with heap:=h'}) e c d (by decide) ⟨x,H,I1,ru,⟨rfl,fun ys hy=>by rw[I.list_inj hy hq];exact hx⟩,st',fun b hb=>(hf b hb).1⟩⟩
 done:=by
  intro X hP hw hK hc i pins s σ H E I hf st hg
  subst hP hw hK
  obtain ⟨xs,hq,hx⟩:=hg
  obtain ⟨its,rv,p,hz⟩:=I.list hq
  obtain ⟨f0,f1,f2,f3,f4,f5⟩:=hf it (by simp)
  have hl:=rv.length
  exact wpAny_pyNext_list_end (I.ok.hd hc) st p.isList (by simp;omega) fun h' eb=>⟨rfl,I.turned (t':=s.toks) (fun b o hb e=>eb b o hb e) f0 f1 f3 f4 f5⟩
 self:=fun _ _ _ _ _ st h=>wpAny_pyIter_listiter st h
theorem zmx {P:Program} {w:World} {K:PySem.W.Frag} {tg:Expr} (a it:Addr):Turn P w K tg (Itt K a) [it] it (fun i h=>h.IsTupleIter it a i) where
 mem:=by simp
 obj:=fun i h st b hb=>by
  have e:b=it:=by simpa using hb
  subst e
  obtain ⟨o,e,c,d⟩:=st
  exact ⟨o,e,fun v z=>by rw[d] at z;cases z⟩
 keep:=fun i h h' st k=>st.at fun o e=>k it (by simp) o e
 item:=by
  intro X hP hw hK hc i pins s σ H E I hf st hg
  subst hP hw hK
  obtain ⟨xs,x,hq,hx⟩:=hg
  obtain ⟨its,rv,p,hz⟩:=I.tuple hq
  obtain ⟨u,hu,ru⟩:=rv.get hx
  obtain ⟨f0,f1,f2,f3,f4,f5⟩:=hf it (by simp)
  refine wpAny_pyNext_tuple_item st (show s.heap.IsTuple a its.toArray from p) (x:=u) (by simpa using hu) fun h' st' sb=>?_
  have I1:Inv X pins σ H {s with heap:=h'}:=I.turned (t':=s.toks) (fun b o hb e=>(sb.2 b hb).trans e) f0 f1 f3 f4 f5
  obtain ⟨o,e,c,d⟩:=id st'
  exact ⟨u,rfl,go_of (s:={s with heap:=h'}) e c d (by decide) ⟨x,H,I1,ru,⟨rfl,fun ys hy=>by rw[I.tuple_inj hy hq];exact hx⟩,st',fun b hb=>(hf b hb).1⟩⟩
 done:=by
  intro X hP hw hK hc i pins s σ H E I hf st hg
  subst hP hw hK
  obtain ⟨xs,hq,hx⟩:=hg
  obtain ⟨its,rv,p,hz⟩:=I.tuple hq
  obtain ⟨f0,f1,f2,f3,f4,f5⟩:=hf it (by simp)
  have hl:=rv.length
  exact wpAny_pyNext_tuple_end (I.ok.hd hc) st (show s.heap.IsTuple a its.toArray from p) (by simp;omega) fun h' eb=>⟨rfl,I.turned (t':=s.toks) (fun b o hb e=>eb b o hb e) f0 f1 f3 f4 f5⟩
 self:=fun _ _ _ _ _ st h=>wpAny_pyIter_tupleiter st h
theorem zmy {P:Program} {w:World} {K:PySem.W.Frag} {tg:Expr} (it:Addr) (lo:Int) (n:Nat):Turn P w K tg (Itr lo n) [it] it (fun i h=>IsRangeIter h it (lo+(i:Nat) * 1) ((n:Int) - (i:Nat)) 1) where
 mem:=by simp
 obj:=fun i h st b hb=>by
  have e:b=it:=by simpa using hb
  subst e
  exact ⟨_,st,fun v z=>by
   have z':Data.fields _=Data.cell v:=z
   cases z'⟩
 keep:=fun i h h' st k=>k it (by simp) _ st
 item:=by
  intro X hP hw hK hc i pins s σ H E I hf st hg
  subst hP hw hK
  obtain ⟨f0,f1,f2,f3,f4,f5⟩:=hf it (by simp)
  have W:=Walks.range (prog:=X.prog) (w:=X.w) (I.ok.hd hc) it lo 1 n
  refine W.item i s _ _ hg st fun v h' tk hv st' kk=>?_
  obtain ⟨t,rfl⟩:=hv
  have I1:Inv X pins σ H {s with heap:=h',toks:=tk}:=I.turned (fun b o hb e=>kk b o (by simpa using hb) e) f0 f1 f3 f4 f5
  refine ⟨_, rfl, go_of (s := { s with heap := h', toks := tk }) (n := "range_iterator") st' rfl rfl (by decide) ⟨.int (lo + i), H, I1, ⟨t, ?_⟩, ⟨rfl, rfl⟩, st', fun b hb => (hf b hb).1⟩⟩
  rw[Int.mul_one]
 done:=by
  intro X hP hw hK hc i pins s σ H E I hf st hg
  subst hP hw hK
  obtain ⟨f0,f1,f2,f3,f4,f5⟩:=hf it (by simp)
  exact wpAny_pyNext_range_end (I.ok.hd hc) st (by have:n≤i:=hg;omega) fun h' eb=>⟨rfl,I.turned (t':=s.toks) (fun b o hb e=>eb b o hb e) f0 f1 f3 f4 f5⟩
 self:=fun _ _ _ _ _ st h=>wpAny_pyIter_rangeiter st h
end L2
namespace L2
open PySem PySem.Spec PyProof.Rows
section
variable {X:Cx} {tg:Expr}
noncomputable def iList (K:PySem.W.Frag) (tl:TE):TI:=fun σ H R=>tl σ H fun x H1=>∃a,x=.ref a∧(∃xs,SqL K H1 a xs)∧R (Itl K a) H1
noncomputable def iTup (K:PySem.W.Frag) (tl:TE):TI:=fun σ H R=>tl σ H fun x H1=>∃a,x=.ref a∧(∃xs,SqT K H1 a xs)∧R (Itt K a) H1
theorem zwd {l:Expr} {tl:TE} (hl:PE X l tl):PI X tg l (iList X.K tl):=by
 intro pins s σ H R I h
 refine thn (hl pins s σ H _ I h) fun v s1 hq0=>?_
 obtain ⟨x,H1,I1,r1,q1⟩:=hq0
 obtain ⟨a,e,⟨xs,hq⟩,q⟩:=q1
 subst e
 cases r1
 obtain ⟨its,rv,p,hz⟩:=I1.list hq
 refine wpAny_pyIter_list p.isList ?_
 refine ⟨s1.heap.objs.size,[s1.heap.objs.size],_,_,H1,rfl,I1.kept (t':=s1.toks) fun b o e=>Heap.get?_push_of_some _ e,zpm a _,⟨_,Heap.get?_push_size _ rfl,rfl,rfl⟩,fun b hb=>?_,q⟩
 have e:b=s1.heap.objs.size:=by simpa using hb
 subst e
 exact I1.fpOk (Nat.le_refl _) (I1.hok.fresh (Nat.le_refl _))
theorem pi_tup {l:Expr} {tl:TE} (hl:PE X l tl):PI X tg l (iTup X.K tl):=by
 intro pins s σ H R I h
 refine thn (hl pins s σ H _ I h) fun v s1 hq0=>?_
 obtain ⟨x,H1,I1,r1,q1⟩:=hq0
 obtain ⟨a,e,⟨xs,hq⟩,q⟩:=q1
 subst e
 cases r1
 obtain ⟨its,rv,p,hz⟩:=I1.tuple hq
 refine wpAny_pyIter_tuple (show s1.heap.IsTuple a its.toArray from p) ?_
 refine ⟨s1.heap.objs.size,[s1.heap.objs.size],_,_,H1,rfl,I1.kept (t':=s1.toks) fun b o e=>Heap.get?_push_of_some _ e,zmx a _,⟨_,Heap.get?_push_size _ rfl,rfl,rfl⟩,fun b hb=>?_,q⟩
 have e:b=s1.heap.objs.size:=by simpa using hb
 subst e
 exact I1.fpOk (Nat.le_refl _) (I1.hok.fresh (Nat.le_refl _))
theorem znl {pins:List (Addr × Obj)} {σ:St} {H:Hp} {s:Shared} {R:It→Hp→Prop} {E:Value→Shared→Prop} {lo hi:Int} {t u v:Tok} {tk:Nat} (I:Inv X pins σ H s) (h1:-(2 ^ 62)≤lo) (h2:lo < 2 ^ 62) (h3:-(2 ^ 62)≤hi) (h4:hi < 2 ^ 62)
  (q : R (Itr lo (hi - lo).toNat) H) : wpAny (model X.prog X.w) X.A (pyIter (.ref s.heap.objs.size)) (PIE X pins σ tg R) E { s with heap := s.heap.push { cls := .type "range", data := .fields #[.int lo t, .int hi u, .int 1 v] }, toks := tk } := by
 refine wpAny_pyIter_range (IsRange.new ..) (small_one h1 h2 h3 h4) ?_
 have I1 : Inv X pins σ H { s with heap := s.heap.push { cls := .type "range", data := .fields #[.int lo t, .int hi u, .int 1 v] }, toks := tk } := I.kept fun b o e => Heap.get?_push_of_some _ e
 refine ⟨(s.heap.push { cls := .type "range", data := .fields #[.int lo t, .int hi u, .int 1 v] }).objs.size, [(s.heap.push { cls := .type "range", data := .fields #[.int lo t, .int hi u, .int 1 v] }).objs.size], _, _, H, rfl,
  I1.kept (t':=tk) fun b o e=>Heap.get?_push_of_some _ e,zmy _ lo (hi - lo).toNat,?_,fun b hb=>?_,q⟩
 ·have e1:lo+((0:Nat):Int) * 1=lo:=by simp
  have e2:(((hi - lo).toNat:Nat):Int) - ((0:Nat):Int)=Builtin.Range.rangeSize lo hi 1:=by rw[rangeSize_one];split<;>omega
  show IsRangeIter _ _ (lo+((0:Nat):Int) * 1) ((((hi - lo).toNat:Nat):Int) - ((0:Nat):Int)) 1
  rw[e1,e2]
  exact Heap.get?_push_size _ rfl
 ·have e : b = (s.heap.push { cls := .type "range", data := .fields #[.int lo t, .int hi u, .int 1 v] }).objs.size := by simpa using hb
  subst e
  exact I1.fpOk (Nat.le_refl _) (I1.hok.fresh (Nat.le_refl _))
noncomputable def iRng1 (ta:TA):TI:=fun σ H R=>ta σ H fun vs H1=>∃j:Int,vs=[.int j]∧-(2 ^ 62)≤j∧j < 2 ^ 62∧R (Itr 0 j.toNat) H1
noncomputable def iRng2 (ta:TA):TI:=fun σ H R=>ta σ H fun vs H1=>∃i j:Int,vs=[.int i,.int j]∧(-(2 ^ 62)≤i∧i < 2 ^ 62∧-(2 ^ 62)≤j∧j < 2 ^ 62)∧R (Itr i (j - i).toNat) H1
theorem zqb {a : Expr} {ta : TA} {p pos : Pos} (hg : Gl X "range") (hm : X.mg "range" = none) (ha : PA X [a] ta) (hs : starEach [a] X.env = [(false, eval a X.env)] := by rfl) : PI X tg (.Call (.Name "range" p) [a] [] pos) (iRng1 ta) := by
 intro pins s σ H R I h
 refine Call_ (ld_blt I hg hm boot_range (PyProof.Rows.callWith_type1 (thn (ha pos pins s σ H _ I h) fun us s1 hq0=>?_) hs rfl))
 obtain ⟨vs,H1,I1,r1,q1⟩:=hq0
 obtain ⟨j,e,q1,q2,q⟩:=q1
 subst e
 cases r1 with
 | cons r rr =>
  cases rr
  obtain ⟨t,rfl⟩:=r
  exact call_range_1 (znl I1 (by omega) (by omega) q1 q2 (by simpa using q))
theorem zqa {a b : Expr} {ta : TA} {p pos : Pos} (hg : Gl X "range") (hm : X.mg "range" = none) (ha : PA X [a, b] ta) (hs : starEach [a, b] X.env = [(false, eval a X.env), (false, eval b X.env)] := by rfl) (hs2 : starEach [b] X.env = [(false, eval b X.env)] := by rfl) :
  PI X tg (.Call (.Name "range" p) [a, b] [] pos) (iRng2 ta) := by
 intro pins s σ H R I h
 refine Call_ (ld_blt I hg hm boot_range (PyProof.Rows.callWith_type1 (thn (ha pos pins s σ H _ I h) fun us s1 ⟨vs,H1,I1,r1,q1⟩=>?_) (by rw[hs,hs2]) (by rw[hs2];rfl)))
 obtain ⟨i,j,e,⟨q1,q2,q3,q4⟩,q⟩:=q1
 subst e
 cases r1 with
 | cons r rr =>
  cases rr with
  | cons r' rr =>
   cases rr
   obtain ⟨t,rfl⟩:=r
   obtain ⟨t',rfl⟩:=r'
   exact call_range_2 (znl I1 q1 q2 q3 q4 q)
noncomputable def tFor (wi:TI) (g:TG) (tb:TS):TS:=fun D σ H=>wi σ H fun J H1=>∃W:Nat→Nat→St→Hp→Prop,(∃m,W 0 m σ H1)∧∀i m σ H,W i m σ H →
 (J.stop i H∧D.nx σ H)∨(J.go i H∧∃N:St→Hp→Prop,(∀σ' H',N σ' H'→∃m',m' < m∧W (i+1) m' σ' H')∧∀x H',J.yld i H x H'→g x σ H' fun σ2 H2=>tb {D with nx:=N,ct:=N,bk:=D.nx} σ2 H2)
noncomputable def pinsAt (fp:List Addr) (h:Heap):List (Addr × Obj):=fp.filterMap fun b=>(h.get? b).map fun o=>(b,o)
theorem zew {fp:List Addr} {h:Heap} {b:Addr} {o:Obj} (hb:b∈fp) (e:h.get? b=some o):(b,o)∈pinsAt fp h:=List.mem_filterMap.mpr ⟨b,hb,by rw[e];rfl⟩
theorem zqe {fp:List Addr} {h:Heap} {p:Addr × Obj} (hp:p∈pinsAt fp h):p.1∈fp∧h.get? p.1=some p.2:=by
 obtain ⟨b,hb,e⟩:=List.mem_filterMap.mp hp
 cases q:h.get? b with
 | none=>rw[q] at e;cases e
 | some o =>
  rw[q] at e
  have e':(b,o)=p:=Option.some.inj e
  subst e'
  exact ⟨hb,q⟩
theorem Inv.pinned {pins:List (Addr × Obj)} {σ:St} {H:Hp} {s:Shared} {fp:List Addr} (I:Inv X pins σ H s) (hf:∀b∈fp,FpOk X pins H b) (ho:∀b∈fp,∃o,s.heap.get? b=some o∧∀v,o.data≠.cell v):Inv X (pins++pinsAt fp s.heap) σ H s :=
 I.pins_of fun p hp=>(List.mem_append.mp hp).elim (fun z=>I.pin p (List.mem_append_right _ z)) fun z=>by
  obtain ⟨hb,e⟩:=zqe z
  obtain ⟨f0,f1,f2,_⟩:=hf p.1 hb
  obtain ⟨o,e',d⟩:=ho p.1 hb
  rw[e] at e';cases e'
  exact ⟨e,f0,f1,f2,d⟩
theorem Inv.unpinned {pins pl:List (Addr × Obj)} {σ:St} {H:Hp} {s:Shared} (I:Inv X (pins++pl) σ H s):Inv X pins σ H s:=I.pins_of fun p hp=>I.pin p (List.mem_append_right _ (List.mem_append_left _ hp))
theorem ps_for {iter:Expr} {body:List Stmt} {wi:TI} {g:TG} {tb:TS} {pos:Pos} (hp:PassesOwn (model X.prog X.w) X.A X.env X.xe) (hc:X.calm=true) (hi:PI X tg iter wi) (hg:PG X tg g) (hb:PSs X body tb)
  (hs:∀x,foldedSetIterable iter X.env x=pure x:=by intro _;rfl):PS X (.For tg iter body [] pos) (tFor wi g tb):=by
 intro pins s σ H D I h
 refine wpAny_For (thn (hi pins s σ H _ I h) fun v s1 h1=>thn h1 fun itv s2 h2=>?_) hs
 obtain ⟨it,fp,tn,J,H2,e,I2,T,st2,f2,W,⟨m0,w0⟩,turn⟩:=h2
 subst e
 have stat:∀{H':Hp},(∀b∈fp,H' b=none)→∀b∈fp,FpOk X pins H' b:=fun hn b hb=>⟨hn b hb,(f2 b hb).2⟩
 refine codeAny_forLoop_any (fun n s'=>∃i σ' H',Inv X pins σ' H' s'∧tn i s'.heap∧(∀b∈fp,H' b=none)∧W i n σ' H') ?_ m0 ⟨0,σ,H2,I2,st2,fun b hb=>(f2 b hb).1,w0⟩
 rintro n s3 ⟨i,σ3,H3,I3,st3,fr3,w3⟩
 rcases turn i n σ3 H3 w3 with ⟨stop,qn⟩ | ⟨go,N,hN,step⟩
 ·refine wpAny_passesOwn hp (thn (T.done X rfl rfl rfl hc i pins s3 σ3 H3 X.xe I3 (stat fr3) st3 stop) fun r s4 ⟨hr,I4⟩=>?_)
  subst hr
  exact wpAny_execs_nil ⟨σ3,H3,I4,qn⟩
 ·refine wpAny_passesOwn hp (thn (T.item X rfl rfl rfl hc i pins s3 σ3 H3 X.xe I3 (stat fr3) st3 go) fun r s4 ⟨u,hr,h4⟩=>?_)
  subst hr
  refine wpAny_passesOwn hp (thn h4 fun _ s5 hq0=>?_)
  obtain ⟨x,H5,I5,r5,y5,st5,fr5⟩:=hq0
  have I5':=I5.pinned (stat fr5) (T.obj _ _ st5)
  refine wpAny_passesOwn hp (thn (hg _ s5 σ3 H5 x u _ I5' r5 (step x H5 y5)) fun _ s6 hq0=>?_)
  obtain ⟨σ6,H6,I6,q6⟩:=hq0
  refine wpAny_passesOwn hp (thn (hb _ s6 σ6 H6 _ I6 q6) fun f s7 q7=>?_)
  have again:∀{σ7:St} {H7:Hp},Inv X (pins++pinsAt fp s5.heap) σ7 H7 s7→N σ7 H7→∃m,m < n∧∃i σ' H',Inv X pins σ' H' s7∧tn i s7.heap∧(∀b∈fp,H' b=none)∧W i m σ' H':=fun {σ7 H7} I7 n7=>by
   obtain ⟨m',hm,w7⟩:=hN σ7 H7 n7
   refine ⟨m',hm,i+1,σ7,H7,I7.unpinned,T.keep _ _ _ st5 fun b hb o e=>(I7.pin (b,o) (List.mem_append_right _ (List.mem_append_right _ (zew hb e)))).1,fun b hb=>?_,w7⟩
   obtain ⟨o,e,d⟩:=T.obj _ _ st5 b hb
   exact (I7.pin (b,o) (List.mem_append_right _ (List.mem_append_right _ (zew hb e)))).2.1
  cases f with
  | next=>obtain ⟨σ7,H7,I7,n7⟩:=q7;exact again I7 n7
  | cont=>obtain ⟨σ7,H7,I7,n7⟩:=q7;exact again I7 n7
  | brk=>obtain ⟨σ7,H7,I7,q7⟩:=q7;exact ⟨σ7,H7,I7.unpinned,q7⟩
  | ret v=>obtain ⟨x7,σ7,H7,I7,r7,q7⟩:=q7;exact ⟨x7,σ7,H7,I7.unpinned,r7,q7⟩
end
end L2
namespace L2
open PySem PySem.Spec PyProof.Rows
noncomputable abbrev R2:=V→V→Hp→VK→Prop
noncomputable def OpR (X:Cx) (f:Value→Value→Sem Value) (r:R2):Prop :=
 ∀(pins:List (Addr × Obj)) (s:Shared) (σ:St) (H:Hp) (x y:V) (v u:Value) (Q:VK),Inv X pins σ H s→RelV x v→RelV y u→r x y H Q →
  wpAny (model X.prog X.w) X.A (f v u) (EP X pins σ Q) X.xe s
noncomputable def UnR (X:Cx) (f:Value→Sem Value) (r:V→Hp→VK→Prop):Prop :=
 ∀(pins:List (Addr × Obj)) (s:Shared) (σ:St) (H:Hp) (x:V) (v:Value) (Q:VK),Inv X pins σ H s→RelV x v→r x H Q →
  wpAny (model X.prog X.w) X.A (f v) (EP X pins σ Q) X.xe s
noncomputable def CallR (X:Cx) (f:Value) (r:List V→Hp→VK→Prop):Prop :=
 ∀(pins:List (Addr × Obj)) (s:Shared) (σ:St) (H:Hp) (xs:List V) (us:List Value) (Q:VK),Inv X pins σ H s→Vals xs us→r xs H Q →
  wpAny (model X.prog X.w) X.A (call f us) (EP X pins σ Q) X.xe s
noncomputable def TruR (X:Cx) (r:V→Hp→(Bool→Hp→Prop)→Prop):Prop :=
 ∀(pins:List (Addr × Obj)) (s:Shared) (σ:St) (H:Hp) (x:V) (v:Value) (Q:Bool→Hp→Prop),Inv X pins σ H s→RelV x v→r x H Q →
  wpAny (model X.prog X.w) X.A (truthy v) (TP X pins σ Q) X.xe s
noncomputable def tOp (r:R2) (ta tb:TE):TE:=fun σ H Q=>ta σ H fun x H1=>tb σ H1 fun y H2=>r x y H2 Q
noncomputable def tUn (r:V→Hp→VK→Prop) (ta:TE):TE:=fun σ H Q=>ta σ H fun x H1=>r x H1 Q
noncomputable def rI (C:Int→Int→Prop) (g:Int→Int→V):R2:=fun x y H Q=>∃i j,x=.int i∧y=.int j∧C i j∧Q (g i j) H
noncomputable def rI0 (g:Int→Int→V):R2:=fun x y H Q=>∃i j,x=.int i∧y=.int j∧Q (g i j) H
noncomputable def rU (g:Int→V):V→Hp→VK→Prop:=fun x H Q=>∃i,x=.int i∧Q (g i) H
section
variable {X:Cx} {a b c:Expr} {ta tb tc:TE} {pos:Pos}
theorem binT (ha:PE X a ta) (hb:PE X b tb) {pins:List (Addr × Obj)} {s:Shared} {σ:St} {H:Hp} {R:V→V→Hp→Prop} (I:Inv X pins σ H s)
  (h:ta σ H fun x H1=>tb σ H1 fun y H2=>R x y H2) {Q:Value→Shared→Prop} {f:Value→Value→Sem Value}
  (hf:∀v u s2 x y H2,Inv X pins σ H2 s2→RelV x v→RelV y u→R x y H2→wpAny (model X.prog X.w) X.A (f v u) Q X.xe s2) :
  wpAny (model X.prog X.w) X.A (eval a X.env) (fun v s₁=>wpAny (model X.prog X.w) X.A (eval b X.env) (fun u s₂=>wpAny (model X.prog X.w) X.A (f v u) Q X.xe s₂) X.xe s₁) X.xe s:=by
 refine thn (ha pins s σ H _ I h) fun v s1 hq0=>?_
 obtain ⟨x,H1,I1,r1,q1⟩:=hq0
 refine thn (hb pins s1 σ H1 _ I1 q1) fun u s2 hq0=>?_
 obtain ⟨y,H2,I2,r2,q2⟩:=hq0
 exact hf v u s2 x y H2 I2 r1 r2 q2
theorem pe_op {op:Operator} {r:R2} (ho:OpR X (binaryOp op) r) (ha:PE X a ta) (hb:PE X b tb):PE X (.BinOp a op b pos) (tOp r ta tb):=by
 intro pins s σ H Q I h
 exact wpAny_BinOp (binT ha hb I h fun v u s2 x y H2 I2 rx ry q=>ho pins s2 σ H2 x y v u Q I2 rx ry q)
theorem pe_un {op:UnaryOp} {r:V→Hp→VK→Prop} (ho:UnR X (unaryOp op) r) (ha:PE X a ta):PE X (.UnaryOp op a pos) (tUn r ta):=by
 intro pins s σ H Q I h
 exact UnaryOp_ (thn (ha pins s σ H _ I h) fun v s1 ⟨x,H1,I1,r1,q1⟩=>ho pins s1 σ H1 x v Q I1 r1 q1)
theorem opI {f:Value→Value→Sem Value} {C:Int→Int→Prop} {g:Int→Int→Int}
  (rule:∀(i j:Int) (t u:Tok) (s:Shared) (Q:Value→Shared→Prop) (E:Value→Shared→Prop),C i j→Q (.int (g i j) s.toks) {s with toks:=s.toks+1}→wpAny (model X.prog X.w) X.A (f (.int i t) (.int j u)) Q E s) :
  OpR X f (rI C fun i j=>.int (g i j)):=by
 intro pins s σ H x y v u Q I rx ry h
 obtain ⟨i,j,rfl,rfl,hc,q⟩:=h
 obtain ⟨t,rfl⟩:=rx
 obtain ⟨t',rfl⟩:=ry
 exact rule i j t t' s _ _ hc ⟨.int (g i j),H,I.tok _,⟨_,rfl⟩,q⟩
theorem opI0 {f:Value→Value→Sem Value} {g:Int→Int→Int}
  (rule:∀(i j:Int) (t u:Tok) (s:Shared) (Q:Value→Shared→Prop) (E:Value→Shared→Prop),Q (.int (g i j) s.toks) {s with toks:=s.toks+1}→wpAny (model X.prog X.w) X.A (f (.int i t) (.int j u)) Q E s) :
  OpR X f (rI0 fun i j=>.int (g i j)):=by
 intro pins s σ H x y v u Q I rx ry h
 obtain ⟨i,j,rfl,rfl,q⟩:=h
 obtain ⟨t,rfl⟩:=rx
 obtain ⟨t',rfl⟩:=ry
 exact rule i j t t' s _ _ ⟨.int (g i j),H,I.tok _,⟨_,rfl⟩,q⟩
theorem opB0 {f:Value→Value→Sem Value} {g:Int→Int→Bool}
  (rule:∀(i j:Int) (t u:Tok) (s:Shared) (Q:Value→Shared→Prop) (E:Value→Shared→Prop),Q (.bool (g i j)) s→wpAny (model X.prog X.w) X.A (f (.int i t) (.int j u)) Q E s) :
  OpR X f (rI0 fun i j=>.bl (g i j)):=by
 intro pins s σ H x y v u Q I rx ry h
 obtain ⟨i,j,rfl,rfl,q⟩:=h
 obtain ⟨t,rfl⟩:=rx
 obtain ⟨t',rfl⟩:=ry
 exact rule i j t t' s _ _ ⟨.bl (g i j),H,I,rfl,q⟩
noncomputable def CPow (i j:Int):Prop:=0≤j∧j≤1000000∧i.natAbs < 2 ^ 64
noncomputable def CMul (i j:Int):Prop:=(-(2 ^ 64) < i∧i < 2 ^ 64)∨(-(2 ^ 64) < j∧j < 2 ^ 64)
theorem CMul.ok {i j:Int} (h:CMul i j):IntMulOk i j:=by
 rcases h with ⟨h1,h2⟩ | ⟨h1,h2⟩
 ·exact .of_left (intBits_le_64 h1 h2)
 ·exact .of_right (intBits_le_64 h1 h2)
theorem zmw (k:Nat):(0:Int)≤2 ^ k:=by
 rw[two_pow_cast]
 exact Int.natCast_nonneg _
theorem op_add:OpR X (binaryOp .Add) (rI0 fun i j=>.int (i+j)):=opI0 fun _ _ _ _ _ _ _ q=>add_int q
theorem op_sub:OpR X (binaryOp .Sub) (rI0 fun i j=>.int (i - j)):=opI0 fun _ _ _ _ _ _ _ q=>sub_int q
theorem op_mul:OpR X (binaryOp .Mult) (rI CMul fun i j=>.int (i * j)):=opI fun _ _ _ _ _ _ _ hc q=>mul_int q hc.ok
theorem op_mod:OpR X (binaryOp .Mod) (rI (fun _ j=>0 < j) fun i j=>.int (i % j)):=opI fun i j _ _ _ _ _ hc q=>by
 have h1:(0:Int) < j:=hc
 exact mod_int' (by omega) (by rw[Int.fmod_eq_emod_of_nonneg i (by omega)];exact q)
theorem op_pow:OpR X (binaryOp .Pow) (rI CPow fun i j=>.int (i ^ j.toNat)):=opI fun _ _ _ _ _ _ _ hc q=>pow_int_small hc.1 hc.2.1 hc.2.2 q
theorem op_shl:OpR X (binaryOp .LShift) (rI CPow fun i j=>.int (i * 2 ^ j.toNat)):=opI fun _ _ _ _ _ _ _ hc q=>lshift_int_small hc.1 hc.2.1 hc.2.2 q
theorem op_shr:OpR X (binaryOp .RShift) (rI (fun _ j=>0≤j) fun i j=>.int (i / 2 ^ j.toNat)):=opI fun i j _ _ _ _ _ hc q =>
 rshift_int hc (by rw[Int.fdiv_eq_ediv_of_nonneg i (zmw _)];exact q)
theorem op_and:OpR X (binaryOp .BitAnd) (rI0 fun i j=>.int (Builtin.bitAnd i j)):=opI0 fun _ _ _ _ _ _ _ q=>and_int q
theorem op_or:OpR X (binaryOp .BitOr) (rI0 fun i j=>.int (Builtin.bitOr i j)):=opI0 fun _ _ _ _ _ _ _ q=>or_int q
theorem unI {f:Value→Sem Value} {g:Int→Int}
  (rule:∀(i:Int) (t:Tok) (s:Shared) (Q:Value→Shared→Prop) (E:Value→Shared→Prop),Q (.int (g i) s.toks) {s with toks:=s.toks+1}→wpAny (model X.prog X.w) X.A (f (.int i t)) Q E s) :
  UnR X f (rU fun i=>.int (g i)):=by
 intro pins s σ H x v Q I rx h
 obtain ⟨i,rfl,q⟩:=h
 obtain ⟨t,rfl⟩:=rx
 exact rule i t s _ _ ⟨.int (g i),H,I.tok _,⟨_,rfl⟩,q⟩
theorem un_neg:UnR X (unaryOp .USub) (rU fun i=>.int (-i)):=unI fun _ _ _ _ _ q=>neg_int q
theorem fin_bl {pins:List (Addr × Obj)} {σ:St} {H:Hp} {s:Shared} {Q:VK} {k k':Bool} (I:Inv X pins σ H s) (q:Q (.bl k) H) (e:k=k'):EP X pins σ Q (.bool k') s:=by
 subst e
 exact ⟨.bl k,H,I,rfl,q⟩
theorem op_lt:OpR X (compareOp .Lt) (rI0 fun i j=>.bl (decide (i < j))):=opB0 fun _ _ _ _ _ _ _ q=>lt_int q
theorem op_le:OpR X (compareOp .LtE) (rI0 fun i j=>.bl (decide (i≤j))):=opB0 fun _ _ _ _ _ _ _ q=>le_int q
theorem op_gt:OpR X (compareOp .Gt) (rI0 fun i j=>.bl (decide (j < i))):=opB0 fun _ _ _ _ _ _ _ q=>gt_int q
theorem zwr:OpR X (compareOp .IsNot) (fun x y H Q=>y=.non∧Q (.bl (!decide (x=.non))) H):=by
 intro pins s σ H x y v u Q I rx ry h
 obtain ⟨rfl,q⟩:=h
 cases ry
 refine isnot_none_gen (fin_bl I q ?_)
 cases x<;>first
  | (cases rx;rfl)
  | (obtain ⟨t,rfl⟩:=rx;rfl)
theorem OpR.or {f:Value→Value→Sem Value} {r r':R2} (h:OpR X f r) (h':OpR X f r'):OpR X f (fun x y H Q=>r x y H Q∨r' x y H Q):=by
 intro pins s σ H x y v u Q I rx ry q
 rcases q with q | q
 ·exact h pins s σ H x y v u Q I rx ry q
 ·exact h' pins s σ H x y v u Q I rx ry q
theorem nomark (b:Expr) {op:CmpOp} (h:op≠.In:=by decide) (h2:op≠.NotIn:=by decide):behindInMarks op b=false:=by
 have e1:(op == CmpOp.In)=false:=by cases op<;>first | rfl | exact absurd rfl h
 have e2:(op == CmpOp.NotIn)=false:=by cases op<;>first | rfl | exact absurd rfl h2
 cases b<;>simp[behindInMarks,e1,e2]
theorem zwk {op:CmpOp} {r:R2} (ho:OpR X (compareOp op) r) (ha:PE X a ta) (hb:PE X b tb) (hm:behindInMarks op b=false):PE X (.Compare a [op] [b] pos) (tOp r ta tb):=by
 intro pins s σ H Q I h
 exact wpAny_Compare1 (binT ha hb I h fun v u s2 x y H2 I2 rx ry q=>ho pins s2 σ H2 x y v u Q I2 rx ry q) hm
noncomputable def tTest (t:TE):TT:=fun σ H Q=>t σ H fun x H'=>∃k,x=.bl k∧Q k H'
theorem zvs {op:CmpOp} {r:R2} (ho:OpR X (compareOp op) r) (ha:PE X a ta) (hb:PE X b tb) (hm:behindInMarks op b=false):PT X (.Compare a [op] [b] pos) (tTest (tOp r ta tb)):=by
 intro pins s σ H Q I h
 refine wpAny_isTrue_Compare1 (thn (ha pins s σ H _ I h) fun v s1 ⟨x,H1,I1,r1,q1⟩=>thn (hb pins s1 σ H1 _ I1 q1) fun u s2 ⟨y,H2,I2,r2,q2⟩ =>
  thn (ho pins s2 σ H2 x y v u _ I2 r1 r2 q2) fun c s3 ⟨z,H3,I3,r3,k,e,q3⟩=>?_) hm
 subst e
 cases r3
 exact wpAny_truthy_bool ⟨H3,I3,q3⟩
noncomputable def tChain (r r':R2) (ta tb tc:TE):TE:=fun σ H Q=>ta σ H fun x H1=>tb σ H1 fun y H2=>r x y H2 fun z H3=>∃k,z=.bl k ∧
 (if k=true then tc σ H3 fun w' H4=>r' y w' H4 Q else Q (.bl false) H3)
theorem ztc {op op':CmpOp} {r r':R2} (ho:OpR X (compareOp op) r) (ho':OpR X (compareOp op') r') (ha:PE X a ta) (hb:PE X b tb) (hc:PE X c tc)
  (hm:lastMarks [op,op'] [b,c]=false:=by with_unfolding_all rfl):PT X (.Compare a [op,op'] [b,c] pos) (tTest (tChain r r' ta tb tc)):=by
 intro pins s σ H Q I h
 refine isTrue_chain (thn (ha pins s σ H _ I h) fun v s1 ⟨x,H1,I1,r1,q1⟩=>test_link (thn (hb pins s1 σ H1 _ I1 q1) fun u s2 ⟨y,H2,I2,r2,q2⟩ =>
  thn (ho pins s2 σ H2 x y v u _ I2 r1 r2 q2) fun d s3 ⟨z,H3,I3,r3,k,e,q3⟩=>?_)) hm
 subst e
 cases r3
 refine wpAny_truthy_bool ?_
 cases k with
 | false =>
  obtain ⟨k',e',q'⟩:=q3
  cases e'
  exact ite_ff ⟨H3,I3,q'⟩
 | true =>
  refine ite_tt (test_last (thn (hc pins s3 σ H3 _ I3 q3) fun w' s4 ⟨z',H4,I4,r4,q4⟩=>thn (ho' pins s4 σ H4 y z' u w' _ I4 r2 r4 q4) fun d' s5 hq0=>?_))
  obtain ⟨z2,H5,I5,r5,k2,e2,q5⟩:=hq0
  subst e2
  cases r5
  exact wpAny_truthy_bool ⟨H5,I5,q5⟩
noncomputable def TruV (K:PySem.W.Frag) (x:V) (H:Hp) (k:Bool):Prop :=
 match x with
 | .non=>k=false
 | .bl b=>k=b
 | .int i=>k=(i != 0)
 | .str y=>y.length≤sizeLine∧k=((y.length:Int) != 0)
 | .byt y=>y.size≤sizeLine∧k=((y.size:Int) != 0)
 | .ref p=>(∃xs,SqL K H p xs∧k=!xs.isEmpty)∨(∃xs,SqT K H p xs∧k=!xs.isEmpty)∨∃kvs,H p=some (.dK kvs)∧k=!kvs.isEmpty
 | _=>False
theorem zny {κ:Type} {kvs:List (κ × V)} {vs:List (κ × Value)} (r:KV kvs vs):(!vs.isEmpty)=!kvs.isEmpty:=by
 cases r<;>rfl
theorem zix {xs:List V} {its:List Value} (r:Vals xs its):(!its.toArray.isEmpty)=!xs.isEmpty:=by
 cases r<;>simp
theorem line63:(sizeLine:Nat) < 2 ^ 63:=by rw[sizeLine_eq];decide
theorem tru_ok:TruR X (fun x H Q=>∃k,TruV X.K x H k∧Q k H):=by
 intro pins s σ H x v Q I rx h
 obtain ⟨k,e,q⟩:=h
 have hl:=line63
 have hs:sizeLine=16777216:=sizeLine_eq
 cases x with
 | non =>
  cases rx
  have e':k=false:=e
  subst e'
  exact truthy_none ⟨H,I,q⟩
 | bl b =>
  cases rx
  have e':k=b:=e
  subst e'
  exact wpAny_truthy_bool ⟨H,I,q⟩
 | int i =>
  obtain ⟨t,rfl⟩:=rx
  have e':k=(i != 0):=e
  subst e'
  exact PySem.P.truthy_int ⟨H,I,q⟩
 | str y =>
  obtain ⟨t,rfl⟩:=rx
  obtain ⟨hy,e'⟩:y.length≤sizeLine∧k=((y.length:Int) != 0):=e
  subst e'
  exact PySem.P.truthy_str (by omega) ⟨H,I.tok _,q⟩
 | byt y =>
  obtain ⟨t,rfl⟩:=rx
  obtain ⟨hy,e'⟩:y.size≤sizeLine∧k=((y.size:Int) != 0):=e
  subst e'
  exact PySem.W.truthy_bytes (by omega) ⟨H,I.tok _,q⟩
 | ref p =>
  cases rx
  have e':(∃xs,SqL X.K H p xs∧k=!xs.isEmpty)∨(∃xs,SqT X.K H p xs∧k=!xs.isEmpty)∨∃kvs,H p=some (.dK kvs)∧k=!kvs.isEmpty:=e
  rcases e' with ⟨xs,hx,e'⟩ | ⟨xs,hx,e'⟩ | ⟨kvs,hx,e'⟩
  ·subst e'
   obtain ⟨its,r,pl,hz⟩:=I.list hx
   have hlen:=r.length
   exact wpAny_truthy_list pl.isList (by simp only[List.size_toArray];omega) ⟨H,I.tok _,by rw[zix r];exact q⟩
  ·subst e'
   obtain ⟨its,r,pl,hz⟩:=I.tuple hx
   have hlen:=r.length
   exact truthy_tuple pl (by simp only[List.size_toArray];omega) ⟨H,I.tok _,by rw[zix r];exact q⟩
  ·subst e'
   obtain ⟨hz,hS,vs,r,m⟩:kvs.length≤sizeLine∧(p == sysModules)=false∧∃vs,KV kvs vs∧s.heap.DictOf (mixKind X.prog X.w) p vs:=I.hok p _ hx
   have hlen:kvs.length=vs.length:=Paired.length r
   exact wpAny_truthy_dict hS m (by omega) ⟨H,I.tok _,by rw[zny r];exact q⟩
 | _=>exact (show False from e).elim
theorem ztb (ha:PE X a ta) (he:∀whole,isTrue a X.env whole=(do let v ← whole;standAt a.pos;holding [v] (truthy v))) :
  PT X a (fun σ H Q=>ta σ H fun x H'=>∃k,TruV X.K x H' k∧Q k H'):=by
 intro pins s σ H Q I h
 exact isTrue_plain (thn (ha pins s σ H _ I h) fun v s1 ⟨x,H1,I1,r1,q1⟩=>tru_ok pins s1 σ H1 x v Q I1 r1 q1) (he _)
theorem znq:OpR X (binaryOp .Add) (fun x y H Q=>∃i j,x=.str i∧y=.str j∧i.length+j.length≤sizeLine∧Q (.str (i++j)) H):=by
 intro pins s σ H x y v u Q I rx ry h
 obtain ⟨i,j,rfl,rfl,hz,q⟩:=h
 obtain ⟨t,rfl⟩:=rx
 obtain ⟨t',rfl⟩:=ry
 exact add_str (fun t' tk=>⟨.str (i++j),H,I.tok _,⟨_,rfl⟩,q⟩) hz
theorem vals1 {x:V} {us:List Value} (r:Vals [x] us):∃u,us=[u]∧RelV x u:=by
 cases r with
 | cons r1 r2=>cases r2;exact ⟨_,rfl,r1⟩
theorem vals2 {x y:V} {us:List Value} (r:Vals [x,y] us):∃u w',us=[u,w']∧RelV x u∧RelV y w':=by
 cases r with
 | cons r1 r2 =>
  cases r2 with
  | cons r3 r4=>cases r4;exact ⟨_,_,rfl,r1,r3⟩
theorem zvd : CallR X (.builtin "abs") (fun xs H Q => ∃ i, xs = [.int i] ∧ Q (.int (if i < 0 then -i else i)) H) := by
 intro pins s σ H xs us Q I r h
 obtain ⟨i,rfl,q⟩:=h
 obtain ⟨u,rfl,t,rfl⟩:=vals1 r
 exact call_abs_int fun u tk=>⟨.int (if i < 0 then -i else i),H,I.tok _,⟨_,rfl⟩,q⟩
theorem zgc (hc : X.calm = true) : CallR X (.builtin "min") (fun xs H Q => ∃ i j, xs = [.int i, .int j] ∧ Q (.int (if j < i then j else i)) H) := by
 intro pins s σ H xs us Q I r h
 obtain ⟨i,j,rfl,q⟩:=h
 obtain ⟨u,w',rfl,⟨t,rfl⟩,⟨t',rfl⟩⟩:=vals2 r
 refine min_two_ints (I.ok.hd hc) fun h' tk k=>⟨_,H,I.kept k,?_,q⟩
 by_cases hj:j < i
 ·rw[if_pos hj,if_pos hj];exact ⟨_,rfl⟩
 ·rw[if_neg hj,if_neg hj];exact ⟨_,rfl⟩
theorem zrm : CallR X (.type "int") (fun xs H Q => (∃ i, xs = [.int i] ∧ Q (.int i) H) ∨ ∃ k, xs = [.bl k] ∧ Q (.int (if k then 1 else 0)) H) := by
 intro pins s σ H xs us Q I r h
 rcases h with ⟨i,rfl,q⟩ | ⟨k,rfl,q⟩
 ·obtain ⟨u,rfl,t,rfl⟩:=vals1 r
  exact call_int_int ⟨.int i,H,I,⟨_,rfl⟩,q⟩
 ·obtain ⟨u,rfl,r1⟩:=vals1 r
  cases r1
  exact call_int_bool ⟨.int (if k then 1 else 0),H,I.tok _,⟨_,rfl⟩,q⟩
end
end L2
namespace L2
open PySem PySem.Spec PyProof.Rows
structure ObjM (h:Heap) (x dx C:Addr) (mA:Str→Option Value):Prop where
 obj:h.get? x=some (PySem.W.instObj C dx)
 ns:h.Ns1 dx mA
 ne:dx≠x
theorem zql {h:Heap} {dx:Addr} {mA:Str→Option Value} (n:h.Ns1 dx mA):∃od,h.get? dx=some od∧∀name,PySem.W.lookIn name od=some (mA name):=by
 obtain ⟨o,es,ep,ho,hd,hk,_,hm⟩:=n
 refine ⟨o,ho,fun name=>?_⟩
 have e:=hm name
 unfold nsFind findBy at e
 rw[← Array.find?_toList] at e
 unfold PySem.W.lookIn
 rw[hd]
 dsimp only
 split
 ·rename_i y q
  rw[q] at e
  exact congrArg some e
 ·rename_i q
  rw[q] at e
  have a:es.toList.any (·.refKey)=false:=by
   rw[List.any_eq_false]
   intro y hy
   obtain ⟨z,t,hkey⟩:=hk y (Array.mem_toList_iff.mp hy)
   simp[DictEntry.refKey,hkey]
  have a':¬ es.toList.any (·.refKey)=true:=by rw[a];exact Bool.false_ne_true
  rw[if_neg a']
  exact congrArg some e
theorem ObjM.look {h:Heap} {x dx C:Addr} {mA:Str→Option Value} (I:ObjM h x dx C mA):∃od,PySem.W.InstAt h x (PySem.W.instObj C dx) C (some od)∧∀name,PySem.W.lookIn name od=some (mA name) :=
 let ⟨od,ho,hl⟩:=zql I.ns
 ⟨od,⟨I.obj,rfl,rfl,ho⟩,hl⟩
section
variable {prog:Program} {w:World} {A:Around} {E:Value→Shared→Prop} {s:Shared} {K:PySem.W.Frag} {x dx C f:Addr} {mA:Str→Option Value} {name:Str} {v:Value}
end
theorem RelO.some_of {v:V} {o:Option Value} (r:RelO (some v) o):∃u,o=some u∧RelV v u:=by
 cases o with
 | none=>exact (show False from r).elim
 | some u=>exact ⟨u,rfl,r⟩
section
variable {P:Program} {w:World} {H H':Hp} {h h':Heap} {a C dx:Addr} {fs fs':List (Str × V)}
theorem zxj (hok:HOk P w H h) (e:H a=some (.ins C dx fs)):∃mA,ObjM h a dx C mA∧(∀f,RelO (fs.lookup f) (mA f))∧PySem.Within mA (fs.map (·.1))∧fs.length≤1000∧H dx=some (.own a):=by
 obtain ⟨d,z,ne,ob,mA,n,r,q⟩:=(show ObjOk P w H h a (.ins C dx fs) from hok a _ e)
 exact ⟨mA,⟨ob,n,ne⟩,r,q,z,d⟩
end
structure Cls (K:PySem.W.Frag) (C:Addr):Prop where
 pg:PySem.W.plainGet K C Str.empty=true
 hd:PySem.W.hasDictIn K C=true
 po:PySem.W.plainOver K C=true
 sa : PySem.W.findIn K (.ref C) "__setattr__" = some (some (.builtin "object.__setattr__"))
theorem Cls.get {K:PySem.W.Frag} {C:Addr} (c:Cls K C) (f:Str):PySem.W.plainGet K C f=true:=c.pg
section
variable {X:Cx} {pins:List (Addr × Obj)} {σ:St} {H:Hp} {s:Shared} {a C dx:Addr} {fs:List (Str × V)} {f:Str} {v:V} {A:Around} {E:Value→Shared→Prop}
end
section
variable {X:Cx} {o e value:Expr} {f:Str} {pos pos' tpos:Pos} {ta tv:TE}
end
section
variable {X:Cx} {pins:List (Addr × Obj)} {σ:St} {H:Hp} {s:Shared} {A:Around} {E:Value→Shared→Prop} {Q:Value→Shared→Prop} {c:Value} {b:Bool}
inductive TyOf (K:PySem.W.Frag) (H:Hp):V→Value→Prop where
 | non : TyOf K H .non (.type "NoneType")
 | bl (x : Bool) : TyOf K H (.bl x) (.type "bool")
 | int (i : Int) : TyOf K H (.int i) (.type "int")
 | str (x : Str) : TyOf K H (.str x) (.type "str")
 | flt (x : UInt64) : TyOf K H (.flt x) (.type "float")
 | lst {a : Addr} {xs : List V} (e : H a = some (.lst xs)) : TyOf K H (.ref a) (.type "list")
 | frz {a : Addr} {o : Obj} {xs : List V} (e : H a = some (.frz o (.lst xs))) : TyOf K H (.ref a) (.type "list")
 | tup {a : Addr} {xs : List V} (e : H a = some (.tup xs)) : TyOf K H (.ref a) (.type "tuple")
 | dK {a : Addr} {kvs : List (Key × V)} (e : H a = some (.dK kvs)) : TyOf K H (.ref a) (.type "dict")
 | dT {a : Addr} {kvs : List (List Key × V)} (e : H a = some (.dT kvs)) : TyOf K H (.ref a) (.type "dict")
 | ins {a C dx : Addr} {fs : List (Str × V)} (e : H a = some (.ins C dx fs)) (cl : Cls K C) (ha : PySem.W.findIn K (.ref C) "__class__" = some (some (.builtin "object.__class__")))
  (hn : PySem.W.specialIn K (.builtin "object.__class__") "__get__" = some (some (.builtin "getset_descriptor.__get__"))) (htk : PySem.W.takesIn K (.builtin "object.__class__") = some true)
  (hm : PySem.W.mroIn K C (.type "object") = some true) : TyOf K H (.ref a) (.ref C)
theorem zqp {x:V} {u t:Value} (I:Inv X pins σ H s) (rx:RelV x u) (ty:TyOf X.K H x t) (e:PySem.W.kitOne X.K t c=some b) (h:∀tk,Q (.bool b) {s with toks:=tk}) :
  wpAny (model X.prog X.w) A (call (.builtin "isinstance") [u, c]) Q E s := by
 cases ty with
 | non=>cases (show u=Value.none from rx);exact PySem.W.kia_one PySem.W.kitx_none I.kIn True.intro e (fun z=>nomatch z) h
 | bl y=>cases (show u=Value.bool y from rx);exact PySem.W.kia_one PySem.W.kitx_bool I.kIn True.intro e (fun z=>nomatch z) h
 | int i=>obtain ⟨t,q⟩:=(show ∃t,u=Value.int i t from rx);cases q;exact PySem.W.kia_one PySem.W.kitx_int I.kIn True.intro e (fun z=>nomatch z) h
 | str y=>obtain ⟨t,q⟩:=(show ∃t,u=Value.str y t from rx);cases q;exact PySem.W.kia_one PySem.W.kitx_str I.kIn True.intro e (fun z=>nomatch z) h
 | flt y=>obtain ⟨t,q⟩:=(show ∃t,u=Value.float y t from rx);cases q;exact PySem.W.kia_one PySem.W.kitx_float I.kIn True.intro e (fun z=>nomatch z) h
 | @lst a xs ea =>
  cases (show u=Value.ref a from rx)
  obtain ⟨_,_,n,_,h1⟩:=(show ObjOk X.prog X.w H s.heap a (.lst xs) from I.hok a _ ea)
  exact PySem.W.kia_one PySem.W.kitx_list I.kIn ⟨_,h1,rfl⟩ e (fun z=>nomatch z) h
 | @frz a ob xs ea =>
  cases (show u=Value.ref a from rx)
  obtain ⟨_,_,_,n,_,h1⟩:=(show ObjOk X.prog X.w H s.heap a (.frz ob (.lst xs)) from I.hok a _ ea)
  exact PySem.W.kia_one PySem.W.kitx_list I.kIn ⟨_,h1,rfl⟩ e (fun z=>nomatch z) h
 | @tup a xs ea =>
  cases (show u=Value.ref a from rx)
  obtain ⟨_,_,_,p⟩:=(show ObjOk X.prog X.w H s.heap a (.tup xs) from I.hok a _ ea)
  obtain ⟨o,h1,h2,_⟩:=p
  exact PySem.W.kia_one PySem.W.kitx_tuple I.kIn ⟨o,h1,h2⟩ e (fun z=>nomatch z) h
 | @dK a kvs ea =>
  cases (show u=Value.ref a from rx)
  obtain ⟨_,_,vs,_,p⟩:=(show ObjOk X.prog X.w H s.heap a (.dK kvs) from I.hok a _ ea)
  obtain ⟨o,es,ep,h1,h2,_⟩:=p
  exact PySem.W.kia_one PySem.W.kitx_dict I.kIn ⟨o,h1,h2.1⟩ e (fun z=>nomatch z) h
 | @dT a kvs ea =>
  cases (show u=Value.ref a from rx)
  obtain ⟨_,_,xs,_,o,es,ep,h1,h2,_⟩:=(show ObjOk X.prog X.w H s.heap a (.dT kvs) from I.hok a _ ea)
  exact PySem.W.kia_one PySem.W.kitx_dict I.kIn ⟨o,h1,h2.1⟩ e (fun z=>nomatch z) h
 | @ins a C dx fs ea cl ha hn htk hm =>
  cases (show u=Value.ref a from rx)
  obtain ⟨mA,O,_⟩:=zxj I.hok ea
  obtain ⟨od,J,_⟩:=O.look
  exact PySem.W.kia_one (PySem.W.kitx_own (cl.get _) cl.hd ha hn htk hm) I.kIn J e (fun z=>nomatch z) h
end
end L2
namespace L2
open PySem PySem.Spec PyProof.Rows
structure Room (k:Nat) (A:Around):Prop where
 hd:A.handled=none
 dp:A.depth+3 * k+5 < recursionLimit
 un:A.units+16 * k+200 < cLine
theorem Room.mono {j k:Nat} {A:Around} (r:Room k A) (h:j≤k):Room j A:=⟨r.hd,by have:=r.dp;omega,by have:=r.un;omega⟩
theorem Room.deeper {k:Nat} {A:Around} (r:Room (k+1) A) (env:Env):Room k (A.deeper env) :=
 ⟨r.hd,by have:=r.dp;show A.depth+1+3 * k+5 < _;omega,by have:=r.un;show A.units+3+16 * k+200 < _;omega⟩
theorem Room.depth {k:Nat} {A:Around} (r:Room k A):A.depth < recursionLimit:=by have:=r.dp;omega
theorem Room.units {k:Nat} {A:Around} (r:Room k A):A.units+64 < cLine:=by have:=r.un;omega
theorem Room.units0 {k:Nat} {A:Around} (r:Room k A):A.units < cLine:=by have:=r.un;omega
noncomputable def tNil:TA:=fun _ H Q=>Q [] H
noncomputable def tCons (ta:TE) (tr:TA):TA:=fun σ H Q=>ta σ H fun x H1=>tr σ H1 fun xs H2=>Q (x::xs) H2
section
variable {X:Cx} {e:Expr} {es:List Expr} {te:TE} {t:TA} {pos:Pos}
theorem pa_nil:PA X [] tNil:=fun _ _ _ _ H Q I h=>Calls.spliced_nil ⟨[],H,I,.nil,h⟩
theorem zwo (ha:PE X e te) (hr:PA X es t) (hs:starEach (e::es) X.env=(false,eval e X.env)::starEach es X.env:=by rfl):PA X (e::es) (tCons te t):=by
 intro pos pins s σ H Q I h
 rw[hs]
 show wpAny _ _ (spliced ((false,eval e X.env)::backTo pos (starEach es X.env))) _ _ s
 refine Calls.spliced_cons (thn (ha pins s σ H _ I h) fun u s1 hq0=>?_)
 obtain ⟨x,H1,I1,r1,q1⟩:=hq0
 exact thn (hr pos pins s1 σ H1 _ I1 q1) fun us s2 ⟨xs,H2,I2,r2,q2⟩=>⟨x::xs,H2,I2,.cons r1 r2,q2⟩
noncomputable def tTup (t:TA):TE:=fun σ H Q=>t σ H fun xs H1=>xs.length≤sizeLine∧∀p,H1 p=none→Q (.ref p) (upd H1 p (.tup xs))
noncomputable def tLst (t:TA):TE:=fun σ H Q=>t σ H fun xs H1=>xs.length≤sizeLine∧∀p,H1 p=none→Q (.ref p) (upd H1 p (.lst xs))
theorem pe_tup {x1} (h:PA X es t):PE X (.Tuple es x1 pos) (tTup t):=by
 intro pins s σ H Q I hq
 refine wpAny_Tuple_spliced (thn (h pos pins s σ H _ I hq) fun us s1 ⟨xs,H1,I1,r,z,q⟩=>⟨by rw[← r.length];exact z,?_⟩)
 have hf:H1 s1.heap.objs.size=none:=I1.hok.fresh (Nat.le_refl _)
 refine ⟨.ref s1.heap.objs.size,upd H1 s1.heap.objs.size (.tup xs),I1.laid (t':=s1.toks) (fun b u e=>Heap.get?_push_of_some _ e) (Nat.le_refl _) ?_,rfl,q _ hf⟩
 exact ⟨z,us,r,⟨_,Heap.get?_push_size _ rfl,rfl,_,rfl⟩⟩
theorem pe_lst (h:PA X es t):PE X (.List es pos) (tLst t):=by
 intro pins s σ H Q I hq
 refine wpAny_List_spliced (thn (h pos pins s σ H _ I hq) fun us s1 ⟨xs,H1,I1,r,z,q⟩=>⟨by rw[← r.length];exact z,?_⟩)
 have hf:H1 s1.heap.objs.size=none:=I1.hok.fresh (Nat.le_refl _)
 refine ⟨.ref s1.heap.objs.size,upd H1 s1.heap.objs.size (.lst xs),I1.laid (t':=s1.toks) (fun b u e=>Heap.get?_push_of_some _ e) (Nat.le_refl _) ?_,rfl,q _ hf⟩
 exact ⟨z,us,0,r,Heap.get?_push_size _ rfl⟩
end
noncomputable abbrev Sp:=List V→Hp→VK→XK→Prop
noncomputable abbrev CXT:=List Env→Hp→Shared→XK→Value→Shared→Prop
structure Env0 (P:Program) (w:World) (K:PySem.W.Frag) (mg:Str→Option Value) (base:Heap) (A:Around) (outer:List Env) (s:Shared) (H:Hp):Prop where
 frames:A.frames=some outer
 mod:Mod K mg base
 bs:∀b o,base.get? b=some o→s.heap.get? b=some o∧H b=none
 bsz:base.objs.size≤s.heap.objs.size
 funs:s.heap.FunFrames base outer
 frf:∀b∈frs outer,H b=none
 hok:HOk P w H s.heap
 bare:AllBare s.gens
noncomputable def CE (outer:List Env) (P:Program) (w:World) (H:Hp) (s:Shared) (Q:VK) (u:Value) (s':Shared):Prop :=
 ∃v H',s'.os=s.os∧AllBare s'.gens∧Un (frs outer) [] H H' s.heap s'.heap∧HOk P w H' s'.heap∧RelV v u∧Q v H'
noncomputable def CR (CX:CXT) (outer:List Env) (P:Program) (w:World) (H:Hp) (s:Shared) (Q:VK) (E:XK) (r:Result) (s':Shared):Prop :=
 match r with
 | .ok (.ret u)=>CE outer P w H s Q u s'
 | .ok _=>False
 | .error e=>CX outer H s E e s'
structure FnOk (P:Program) (w:World) (K:PySem.W.Frag) (mg:Str→Option Value) (base:Heap) (CX:CXT) (k:Nat) (f:Addr) (fd:FuncData) (ps:List Str) (sp:Sp):Prop where
 len:∀vs H Q E,sp vs H Q E→vs.length=ps.length
 run:∀(A:Around) (outer:List Env) (s:Shared) (H:Hp) (args:Args) (us:List Value) (vs:List V) (Q:VK) (E:XK),Room k A→Env0 P w K mg base A outer s H→BindsTo s fd args (ps.zip us)→Vals vs us→sp vs H Q E →
  codeAny (model P w) A (.call (.ref f) args) (CR CX outer P w H s Q E) s
section
variable {X:Cx} {pins:List (Addr × Obj)} {σ:St} {H:Hp} {s s':Shared}
theorem Inv.env0 (I:Inv X pins σ H s):Env0 X.prog X.w X.K X.mg X.base X.A X.stack s H :=
 ⟨I.ok.frames,I.ok.mod,I.bs,Nat.le_trans I.ok.bsz I.sz,I.stack,I.stkFree,I.hok,I.bare⟩
theorem Inv.after {Q:VK} {u:Value} (I:Inv X pins σ H s) (h:CE X.stack X.prog X.w H s Q u s'):EP X pins σ Q u s':=by
 obtain ⟨v,H',os,bare,un,hok,r,q⟩:=h
 obtain ⟨hh,g,d,t,os'⟩:=s'
 obtain rfl:os'=s.os:=os
 exact ⟨v,H',I.call (h':=hh) (g':=g) (d':=d) (t':=t) (ch:=[]) un hok bare (fun b z=>absurd z (by simp)),r,q⟩
end
noncomputable def tCall (sp:Sp) (dvs:List V) (E:XK) (t:TA):TE:=fun σ H Q=>t σ H fun vs H1=>sp (vs++dvs) H1 Q E
noncomputable def Binds (K:PySem.W.Frag) (fd:FuncData) (ps:List Str) (ds:List Value):Prop :=
 ∀(s:Shared) (us:List Value),K.In s.heap→(us++ds).length=ps.length→BindsTo s fd ⟨us,[]⟩ (ps.zip (us++ds))
theorem Binds.all {K:PySem.W.Frag} {fd:FuncData} {ps:List Str} (h:∀us:List Value,us.length=ps.length→bindArgs fd ⟨us,[]⟩=pure (ps.zip us)):Binds K fd ps []:=fun s us _ hl=>by
 rw[List.append_nil] at hl ⊢
 exact .of_eq (h us hl)
noncomputable def Passes (CX:CXT) (X:Cx) (E:XK):Prop:=∀(pins:List (Addr × Obj)) (σ:St) (H:Hp) (s:Shared) (e:Value) (s':Shared),Inv X pins σ H s→CX X.stack H s E e s'→X.xe e s'
section
variable {X:Cx} {CX:CXT} {k:Nat} {f C:Addr} {fd:FuncData} {ps:List Str} {sp:Sp} {dvs:List V} {ds:List Value} {E:XK} {x m:Str} {p pos apos:Pos} {e o:Expr} {es:List Expr} {ta:TE} {t:TA}
theorem run_fn {pins:List (Addr × Obj)} {σ:St} {H:Hp} {s:Shared} {Q:VK} {us:List Value} {vs:List V} (F:FnOk X.prog X.w X.K X.mg X.base CX k f fd ps sp) (hr:Room k X.A) (hb:Binds X.K fd ps ds) (hd:Vals dvs ds) (hx:Passes CX X E)
  (I:Inv X pins σ H s) (r:Vals vs us) (h:sp (vs++dvs) H Q E):wpAny (model X.prog X.w) X.A (call (.ref f) us) (EP X pins σ Q) X.xe s:=by
 have r2:Vals (vs++dvs) (us++ds):=r.append hd
 have hl:(us++ds).length=ps.length:=by rw[← r2.length];exact F.len _ _ _ _ h
 refine wpAny_call (codeAny_mono (F.run X.A X.stack s H ⟨us,[]⟩ (us++ds) (vs++dvs) Q E hr I.env0 (hb s us I.kIn hl) r2 h) fun r s' hq=>?_)
 cases r with
 | error e=>exact hx pins σ H s e s' I hq
 | ok fl =>
  cases fl with
  | ret u=>exact I.after hq
  | next=>exact False.elim hq
  | brk=>exact False.elim hq
  | cont=>exact False.elim hq
theorem zwl (F:FnOk X.prog X.w X.K X.mg X.base CX k f fd ps sp) (hr:Room k X.A) (hg:Gl X x) (hm:X.mg x=some (.ref f)) (hk:PySem.W.keepIn X.K (.ref f)=true) (hb:Binds X.K fd ps ds) (hd:Vals dvs ds) (hx:Passes CX X E)
  (ha : PA X (e :: es) t) (hdb : (x == ("__debug__" : Str)) = false := by decide) (he : starEach (e :: es) X.env = (false, eval e X.env) :: starEach es X.env := by rfl) (hpl : (backTo pos (starEach es X.env)).any (·.1) = false := by rfl) :
  PE X (.Call (.Name x p) (e::es) [] pos) (tCall sp dvs E t):=by
 intro pins s σ H Q I h
 refine wpAny_Call_Name_kw (zrz I hg hm ?_ hdb)
 refine PySem.W.callWith_K (h₀:=X.base) I.ok.mod.kin hk (thn (ha pos pins s σ H _ I h) fun us s1 ⟨vs,H1,I1,r,q⟩=>⟨I1.kIn,?_⟩) he hpl
 exact run_fn F hr hb hd hx I1 r q
end
section
variable {X:Cx} {CX:CXT} {k:Nat} {f C:Addr} {fd:FuncData} {ps ks:List Str} {sp:Sp} {E:XK} {x m:Str} {p pos apos kpos:Pos} {e o:Expr} {es:List Expr} {kws:List Keyword} {te ta:TE} {t tk:TA} {nm:Option Str}
variable {g:List Value→List Value→List Value} {gV:List V→List V→List V}
end
structure FnScope (N P:List Str) (sc:Scope):Prop where
 kind:sc.kind=.function
 co:sc.isCoroutine=false
 gen:sc.isGenerator=false
 nd:N.Nodup
 pre:N.take P.length=P
 par:∀x∈P,sc.names.lookup x=some .local∨sc.names.lookup x=some .cell
 nofree:∀y∈sc.names,y.2≠.free
theorem zlw {kindOf:Str→Option NameKind} {x:Str}:∀{binds:List (Str × Value)} {m:Str→Option Value},(∀v,(x,v)∉binds)→bindL kindOf binds m x=m x
 | [],_,_=>rfl
 | (n,v)::r,m,h=>by
  unfold bindL
  rw[zlw fun w hw=>h w (List.mem_cons_of_mem _ hw)]
  split
  ·have:x≠n:=by rintro rfl;exact h v List.mem_cons_self
   simp[this]
  ·rfl
theorem zly {kindOf:Str→Option NameKind} {x:Str}:∀{binds:List (Str × Value)} {m:Str→Option Value},(∀v,(x,v)∉binds)→bindC kindOf binds m x=m x
 | [],_,_=>rfl
 | (n,v)::r,m,h=>by
  unfold bindC
  rw[zly fun w hw=>h w (List.mem_cons_of_mem _ hw)]
  split
  ·rfl
  ·have:x≠n:=by rintro rfl;exact h v List.mem_cons_self
   simp[this]
theorem zlx {kindOf:Str→Option NameKind} {x:Str} {v:Value}:∀{P:List Str} {vs:List Value} {i:Nat} {m:Str→Option Value},P.Nodup→P[i]?=some x→vs[i]?=some v→kindOf x=some .local →
  bindL kindOf (P.zip vs) m x=some v
 | [],_,_,_,_,h,_,_=>by simp at h
 | _::_,[],_,_,_,_,h,_=>by simp at h
 | p::P,w::vs,0,m,nd,h1,h2,hk=>by
  simp at h1 h2;subst h1;subst h2
  show bindL kindOf ((p,w)::P.zip vs) m p=_
  unfold bindL
  rw[zlw fun v hv=>(List.nodup_cons.mp nd).1 (List.of_mem_zip hv).1,if_pos hk]
  simp
 | p::P,w::vs,i+1,m,nd,h1,h2,hk=>by
  show bindL kindOf ((p,w)::P.zip vs) m x=_
  unfold bindL
  exact zlx (i:=i) (List.nodup_cons.mp nd).2 (by simpa using h1) (by simpa using h2) hk
theorem zlz {kindOf:Str→Option NameKind} {x:Str} {v:Value}:∀{P:List Str} {vs:List Value} {i:Nat} {m:Str→Option Value},P.Nodup→P[i]?=some x→vs[i]?=some v→kindOf x≠some .local →
  bindC kindOf (P.zip vs) m x=some v
 | [],_,_,_,_,h,_,_=>by simp at h
 | _::_,[],_,_,_,_,h,_=>by simp at h
 | p::P,w::vs,0,m,nd,h1,h2,hk=>by
  simp at h1 h2;subst h1;subst h2
  show bindC kindOf ((p,w)::P.zip vs) m p=_
  unfold bindC
  rw[zly fun v hv=>(List.nodup_cons.mp nd).1 (List.of_mem_zip hv).1,if_neg hk]
  simp
 | p::P,w::vs,i+1,m,nd,h1,h2,hk=>by
  show bindC kindOf ((p,w)::P.zip vs) m x=_
  unfold bindC
  exact zlz (i:=i) (List.nodup_cons.mp nd).2 (by simpa using h1) (by simpa using h2) hk
noncomputable def start (N:List Str) (vs:List V):St:=vs.map some++List.replicate (N.length - vs.length) none
noncomputable def cxOf (CX:CXT) (P:Program) (w:World) (K:PySem.W.Frag) (mg:Str→Option Value) (base:Heap) (N:List Str) (qual:Str) (scope:Scope) (f:Addr) (cd:Value) (A:Around) (outer:List Env) (s:Shared) (H:Hp) (E:XK):Cx where
 prog:=P
 w:=w
 K:=K
 mg:=mg
 base:=base
 A:=A.deeper (envOfC qual scope s.heap.objs.size f cd)
 N:=N
 s₀:=s
 H₀:=H
 env:=envOfC qual scope s.heap.objs.size f cd
 outer:=outer
 stack:=envOfC qual scope s.heap.objs.size f cd::outer
 ex:=[]
 calm:=true
 fn:=fun _=>true
 pn:=[]
 xe:=fun e s'=>wpAny (model P w) (A.deeper (envOfC qual scope s.heap.objs.size f cd)) (leaving (envOfC qual scope s.heap.objs.size f cd) e) (fun _ s''=>CX outer H s E e s'') (fun e' s''=>CX outer H s E e' s'') s'
theorem zot {sc:Scope} {n:Nat} {x:Str} (h:sc.names.lookup x=some .cell):∃c,(cellsFrom n sc.names []).lookup x=some c:=by
 have q:=PySem.W.cellsFrom_some sc.names n [] (.inl h)
 exact Option.isSome_iff_exists.mp q
theorem zqq {CX:CXT} {P:Program} {w:World} {K:PySem.W.Frag} {mg:Str→Option Value} {base:Heap} {N ps:List Str} {qual:Str} {scope:Scope} {f:Addr} {cd:Value} {A:Around} {outer:List Env} {s s1:Shared} {H:Hp} {E:XK} {us:List Value} {vs:List V}
  (S:FnScope N ps scope) (hd:A.handled=none) (e0:Env0 P w K mg base A outer s H) (hl:vs.length=ps.length) (r:Vals vs us)
  (x:InCallC s s.heap.objs.size (bindL (envOfC qual scope s.heap.objs.size f cd).kindOf (ps.zip us) fun _=>none) (cellsFrom (s.heap.objs.size+1) scope.names []) (bindC (envOfC qual scope s.heap.objs.size f cd).kindOf (ps.zip us) fun _=>none) s1) :
  Inv (cxOf CX P w K mg base N qual scope f cd A outer s H E) [] (start N vs) H s1:=by
 have hpl:ps.length≤N.length:=by have:=congrArg List.length S.pre;rw[List.length_take] at this;omega
 obtain ⟨h1,tk,rfl,hk⟩:=x.done
 have noA:∀b:Addr,b∉(cxOf CX P w K mg base N qual scope f cd A outer s H E).ex:=fun b z=>absurd (show b∈([]:List Addr) from z) (by simp)
 refine ⟨⟨e0.mod,S.kind,rfl,rfl,Nat.le_refl _,fun y z c h1 h2=>?_,fun y hy=>?_,fun y c _ h=>?_,fun _=>hd,Around.frames_deeper e0.frames,.inr ⟨rfl,rfl⟩,fun b z=>absurd z (noA b),e0.bs,e0.bsz,fun b _ _=>noA b,fun b z=>absurd z (noA b),e0.funs,e0.frf⟩,
  rfl,e0.bare,Un.kept hk,⟨_,x.toInCall.ns,fun i y v h1 h2 h3=>?_⟩,fun y c h=>⟨_,x.cell y c h⟩,e0.hok.fresh (Nat.le_refl _),fun y c h=>?_,fun p hp=>absurd (show p∈([]:List (Addr × Obj)) from hp) (by simp),e0.hok.kept hk,?_⟩
 ·exact name_of_addr x.apart (PySem.mem_of_lookup h1) (PySem.mem_of_lookup h2)
 ·have hy:scope.names.lookup y=some .cell∨scope.names.lookup y=some .free:=hy
  rcases hy with hy | hy
  ·exact zot hy
  ·exact absurd rfl (S.nofree _ (PySem.mem_of_lookup hy))
 ·exact Nat.le_of_lt (x.above y c (PySem.mem_of_lookup h))
 ·have hi:i < vs.length:=by
   unfold start at h2
   by_cases hi:i < vs.length
   ·exact hi
   ·rw[List.getElem?_append_right (by simpa using hi)] at h2
    rw[List.getElem?_replicate] at h2
    split at h2<;>cases h2
  have ha:vs[i]?=some v:=by
   unfold start at h2
   rw[List.getElem?_append_left (by simpa using hi),List.getElem?_map] at h2
   cases e:vs[i]? with
   | none=>rw[e] at h2;cases h2
   | some a=>rw[e] at h2;cases h2;rfl
  obtain ⟨u,hu,rv⟩:=r.get ha
  have hp:ps[i]?=some y:=by
   rw[← S.pre,List.getElem?_take_of_lt (by omega)];exact h1
  have ndP:ps.Nodup:=by rw[← S.pre];exact S.nd.sublist (List.take_sublist _ _)
  refine ⟨u,rv,?_⟩
  rcases S.par y (List.mem_of_getElem? hp) with k | k
  ·exact .inl ⟨k,zlx ndP hp hu k⟩
  ·obtain ⟨c,e⟩:=zot (n:=s.heap.objs.size+1) k
   refine .inr ⟨.inl k,c,e,?_⟩
   have q:=x.cell y c e
   rw[zlz ndP hp hu (by show scope.names.lookup y≠_;rw[k];decide)] at q
   exact q
 ·exact e0.hok.fresh (Nat.le_of_lt (x.above y c (PySem.mem_of_lookup h)))
 ·unfold start
  show _=N.length
  rw[List.length_append,List.length_map,List.length_replicate]
  omega
theorem fn_of {CX:CXT} {P:Program} {w:World} {K:PySem.W.Frag} {mg:Str→Option Value} {base:Heap} {k:Nat} {f:Addr} {name qual:Str} {params:Arguments} {body:List Stmt} {scope:Scope} {dV kV doc pm cdv ct oc:Value} {an od:Option Addr}
  {osl:Array (Option Value)} {N ps:List Str} {sp:Sp} (lk:K.lookup f=some ⟨oc,od,.func (PySem.W.fnOf name qual params body scope dV kV doc pm an cdv ct),osl⟩) (hcd:PySem.W.codeIn K cdv qual=true) (S:FnScope N ps scope)
  (len:∀vs H Q E,sp vs H Q E→vs.length=ps.length)
  (hbody:∀(A:Around) (outer:List Env) (s:Shared) (H:Hp) (vs:List V) (Q:VK) (E:XK),Room k (A.deeper (envOfC qual scope s.heap.objs.size f cdv))→sp vs H Q E →
   ∃t,PSs (cxOf CX P w K mg base N qual scope f cdv A outer s H E) body t∧t {nx:=fun _ H'=>Q .non H',rt:=Q} (start N vs) H) :
  FnOk P w K mg base CX (k+1) f (PySem.W.fnOf name qual params body scope dV kV doc pm an cdv ct) ps sp:=by
 refine ⟨len,fun A outer s H args us vs Q E hr e0 hb r hsp=>?_⟩
 have hl:=len _ _ _ _ hsp
 have KX:K.In s.heap:=e0.mod.kin.keeps fun b o e=>(e0.bs b o e).1
 have lim:s.heap.NoLimit:=e0.mod.nolimit.keeps fun b o e=>(e0.bs b o e).1
 have hkind:∀y∈ps.zip us,scope.names.lookup y.1=some .local∨(scope.names.lookup y.1=some .cell∧((cellsFrom (s.heap.objs.size+1) scope.names []).lookup y.1).isSome=true):=fun ⟨n,v⟩ hy=>by
  rcases S.par n (List.of_mem_zip hy).1 with q | q
  ·exact .inl q
  ·exact .inr ⟨q,PySem.W.cellsFrom_some _ _ _ (.inl q)⟩
 refine codeAny_call_function hr.depth (KX _ _ lk) rfl S.co S.gen rfl (PySem.W.codeRec_of KX hcd) (hb _ _ _ _ ?_)
 refine wpAny_newFunctionEnv_cells S.kind hkind fun env he s1 x=>?_
 subst he
 refine ⟨lim.keeps x.toInCall.keep,codeAny_func ?_⟩
 obtain ⟨t,ht,hq⟩:=hbody A outer s H vs Q E (hr.deeper _) hsp
 have I:Inv (cxOf CX P w K mg base N qual scope f cdv A outer s H E) [] (start N vs) H s1:=zqq S hr.hd e0 hl r x
 refine wpAny_mono (ht [] s1 (start N vs) H _ I hq) (fun fl s' hs=>?_) fun e s' hs=>hs
 have fin:∀{σ':St} {H':Hp} {v:V} {u:Value},Inv (cxOf CX P w K mg base N qual scope f cdv A outer s H E) [] σ' H' s'→RelV v u→Q v H'→CE outer P w H s Q u s' :=
  fun {σ' H' v u} J rv q=>⟨v,H',J.os,J.bare,J.base,J.hok,rv,q⟩
 cases fl with
 | ret u =>
  obtain ⟨v,σ',H',J,rv,q⟩:=hs
  exact fin J rv q
 | next =>
  obtain ⟨σ',H',J,q⟩:=hs
  exact fin (v:=V.non) (u:=Value.none) J rfl q
 | brk =>
  obtain ⟨_,_,_,q⟩:=hs
  exact False.elim q
 | cont =>
  obtain ⟨_,_,_,q⟩:=hs
  exact False.elim q
end L2
namespace L2
open PySem PySem.Spec PyProof.Rows
section
variable {X:Cx} {x:Str} {p pos:Pos} {e:Expr} {es:List Expr} {t:TA} {id T:String} {r:List V→Hp→VK→Prop}
noncomputable def tCB (r:List V→Hp→VK→Prop) (t:TA):TE:=fun σ H Q=>t σ H fun vs H1=>r vs H1 Q
theorem ztp (hc : CallR X (.builtin id) r) (hg : Gl X x) (hm : X.mg x = none) (hv : bootBuiltins x = some (.builtin id)) (ha : PA X (e :: es) t) (hn : x ≠ "__name__" := by decide) (hdb : (x == ("__debug__" : Str)) = false := by decide)
  (he:starEach (e::es) X.env=(false,eval e X.env)::starEach es X.env:=by rfl) (hpl:(backTo pos (starEach es X.env)).any (·.1)=false:=by rfl):PE X (.Call (.Name x p) (e::es) [] pos) (tCB r t):=by
 intro pins s σ H Q I h
 refine wpAny_Call_Name_kw (ld_blt I hg hm hv ?_ hn hdb)
 exact PyProof.Rows.callWith_builtin1 (thn (ha pos pins s σ H _ I h) fun us s1 ⟨vs,H1,I1,r1,q1⟩=>hc pins s1 σ H1 vs us Q I1 r1 q1) he hpl
theorem zqd (hc : CallR X (.type T) r) (hg : Gl X x) (hm : X.mg x = none) (hv : bootBuiltins x = some (.type T)) (ha : PA X (e :: es) t) (hn : x ≠ "__name__" := by decide) (hdb : (x == ("__debug__" : Str)) = false := by decide)
  (he:starEach (e::es) X.env=(false,eval e X.env)::starEach es X.env:=by rfl) (hpl:(backTo pos (starEach es X.env)).any (·.1)=false:=by rfl):PE X (.Call (.Name x p) (e::es) [] pos) (tCB r t):=by
 intro pins s σ H Q I h
 refine wpAny_Call_Name_kw (ld_blt I hg hm hv ?_ hn hdb)
 exact PyProof.Rows.callWith_type1 (thn (ha pos pins s σ H _ I h) fun us s1 ⟨vs,H1,I1,r1,q1⟩=>hc pins s1 σ H1 vs us Q I1 r1 q1) he hpl
end
end L2
namespace HT
open PySem PyProof.Rows
noncomputable def lexLt:List Int→List Int→Bool
 | [],[]=>false
 | [],_::_=>true
 | _::_,[]=>false
 | x::xs,y::ys=>if x=y then lexLt xs ys else decide (x < y)
theorem zcw (x y:Int) (xs ys:List Int):lexLt (x::xs) (y::ys)=if x=y then lexLt xs ys else decide (x < y):=rfl
theorem zds:lexLt [] []=false:=rfl
theorem zcb (y:Int) (ys:List Int):lexLt [] (y::ys)=true:=rfl
theorem zdc (x:Int) (xs:List Int):lexLt (x::xs) []=false:=rfl
theorem zui (A:Around) (s:Shared) (a:Int) (t:Tok) (c:Int) (u:Tok):∃e,SeqAt.EqAt A s (.int a t) (.int c u) e∧(e=true↔a=c) :=
 ⟨(a == c),SeqAt.EqAt.int_int a t c u,by simp⟩
theorem zsz (A:Around) (s:Shared) (a:Int) (t:Tok) (c:Int) (u:Tok) (prog:Program) (w:World) (E:Value→Shared→Prop) (Q:Value→Shared→Prop) (h:Q (.bool (decide (a < c))) s) :
  wpAny (model prog w) A (richCompare .Lt (.int a t) (.int c u)) Q E s :=
 (PyProof.Rows.lt_int h:wpAny (model prog w) A (compareOp .Lt (.int a t) (.int c u)) Q E s)
section
open PySem.SeqAt
open PySem.AutoSeq1 (wpAny_loadPart')
open PySem.MeetsSeq PySem.MeetsSeq2 PySem.MeetsSeq3
theorem zfo (l b:Addr) (items items2:Array Value) (n n2:Nat) (dd dd2:Option Addr) (sl sl2:Array (Option Value)) (ns ms:List Int) (hi:IntsAre items.toList ns) (hj:IntsAre items2.toList ms) :
  Meets (Builtin.«tuple.__lt__» ⟨[.ref l,.ref b],[]⟩)
   (fun _ R s => s.heap.get? l = some { cls := .type "tuple", dict := dd, data := .seq items n, slots := sl } ∧ s.heap.get? b = some { cls := .type "tuple", dict := dd2, data := .seq items2 n2, slots := sl2 } ∧
    R (.ok (.ret (.bool (lexLt ns ms)))) s) :=
 .of_wp fun prog w A R s h=>by
  obtain ⟨hp,g,d,tk,os⟩:=s;obtain ⟨hl,hb,h⟩:=h
  have f2:=AutoSeq1.sub_tuple_tuple
  have z1:items.size=ns.length:=by rw[← hi.length];simp
  have z2:items2.size=ms.length:=by rw[← hj.length];simp
  wp_walk using wpAny_loadPart' hl,wpAny_loadPart' hb,wpAny_forIn_list _ (fun rest b s'=>b.1=none∧s'=⟨hp,g,d,tk,os⟩∧∃(vs ws:List Value) (ns' ms':List Int),rest=vs.zip ws ∧
   IntsAre vs ns'∧IntsAre ws ms'∧ns'.length+items2.size=ms'.length+items.size∧R (.ok (.ret (.bool (lexLt ns' ms')))) ⟨hp,g,d,tk,os⟩) _
  case turn =>
   rintro ⟨y,x⟩ rest b s' ⟨hb',rfl,vs,ws,ns',ms',hz,hvi,hwi,hlen,hR⟩
   cases hvi with
   | nil=>rw[List.zip_nil_left] at hz;cases hz
   | cons a t hvi' =>
    cases hwi with
    | nil=>rw[List.zip_nil_right] at hz;cases hz
    | cons c u hwi' =>
     rw[List.zip_cons_cons] at hz
     injection hz with hyx hrest
     injection hyx with hy hx
     subst hy hx
     rw[zcw] at hR
     simp only[List.length_cons] at hlen
     obtain ⟨e,he,hiff⟩:=zui A.in1 ⟨hp,g,d,tk,os⟩ a t c u
     refine wpAny_bind (he prog w _ _ ?_)
     cases e with
     | true =>
      rw[if_pos (hiff.mp rfl)] at hR
      wp_walk
      exact ⟨rfl,rfl,_,_,_,_,hrest,hvi',hwi',by omega,hR⟩
     | false =>
      rw[if_neg (fun q=>absurd (hiff.mpr q) Bool.false_ne_true)] at hR
      have hri:=zsz A.in1 ⟨hp,g,d,tk,os⟩ a t c u prog w
      wp_walk using hri
      exact ⟨_,rfl,by simpa using hR⟩
  case fin =>
   rintro ⟨b1,b2⟩ s' ⟨hb',rfl,vs,ws,ns',ms',hz,hvi,hwi,hlen,hR⟩
   simp only at hb'
   subst hb'
   have hv:lexLt ns' ms'=decide (items.size < items2.size):=by
    cases hvi with
    | nil =>
     cases hwi with
     | nil =>
      simp only[List.length_nil] at hlen
      rw[zds]
      exact (decide_eq_false (by omega)).symm
     | cons c u hw =>
      simp only[List.length_nil,List.length_cons] at hlen
      rw[zcb]
      exact (decide_eq_true (by omega)).symm
    | cons a t hv =>
     cases hwi with
     | nil =>
      simp only[List.length_nil,List.length_cons] at hlen
      rw[zdc]
      exact (decide_eq_false (by omega)).symm
     | cons c u hw =>
      rw[List.zip_cons_cons] at hz
      cases hz
   rw[hv] at hR
   wp_walk
   exact ⟨_,rfl,by simpa [Builtin.Tuple.tupleCompareSizes] using hR⟩
  case h =>
   exact ⟨rfl,rfl,items.toList,items2.toList,ns,ms,rfl,hi,hj,by omega,h⟩
end
section
variable {prog:Program} {w:World} {A:Around} {E:Value→Shared→Prop} {s:Shared}
theorem ziw {l b:Addr} {items items2:Array Value} {ns ms:List Int} {Q:Value→Shared→Prop} (hl:IsTup s.heap l items) (hb:IsTup s.heap b items2) (hi:IntsAre items.toList ns) (hj:IntsAre items2.toList ms)
  (hu:A.units < cLine) (h:Q (.bool (lexLt ns ms)) s):wpAny (model prog w) A (compareOp .Lt (.ref l) (.ref b)) Q E s:=by
 obtain ⟨⟨cls,dd,data,sl⟩,ho,hc,n,hd⟩:=id hl
 obtain ⟨⟨cls2,dd2,data2,sl2⟩,ho2,hc2,n2,hd2⟩:=id hb
 simp only at hc hd hc2 hd2
 subst hc hd hc2 hd2
 exact richCompare_meets_room (op:=.Lt) ⟨_,ho,rfl⟩ ⟨_,ho2,rfl⟩ PySem.F.slot_tuple_lt PySem.F.entry_tuple_lt (PySem.F.args_tuple_lt_2 _ _) (zfo l b items items2 n n2 dd dd2 sl sl2 ns ms hi hj)
  ⟨ho,ho2,show Value.bool (lexLt ns ms)≠Value.notImplemented∧Q (.bool (lexLt ns ms)) s from ⟨(fun x=>nomatch x),h⟩⟩ hu
theorem zyj {t b:Addr} {vs ws:List Value} {Q:Value→Shared→Prop} (ht:IsTup s.heap t vs.toArray) (hb:IsTup s.heap b ws.toArray) (hv:vs≠[])
  (h1 : ws = [] → Q (.ref t) s) (h2 : ws ≠ [] → Q (.ref s.heap.objs.size) { s with heap := s.heap.push { cls := .type "tuple", data := .seq (vs ++ ws).toArray } })
  (hsz:vs.length+ws.length≤sizeLine):wpAny (model prog w) A (binaryOp .Add (.ref t) (.ref b)) Q E s:=by
 obtain ⟨⟨cls,dd,data,sl⟩,ho,hc,n,hd⟩:=id ht
 obtain ⟨⟨cls2,dd2,data2,sl2⟩,ho2,hc2,n2,hd2⟩:=id hb
 simp only at hc hd hc2 hd2
 subst hc hd hc2 hd2
 have e:vs.toArray++ws.toArray=(vs++ws).toArray:=by simp
 by_cases hw:ws=[]
 ·exact concat_meets ⟨_,ho,rfl⟩ ⟨_,ho2,rfl⟩ noFill_tuple_add seq_tuple_add PySem.F.slot_tuple_add PySem.F.entry_tuple_add (PySem.F.args_tuple_add_2 _ _)
   (tuple_addW1 t b vs.toArray ws.toArray n n2 dd dd2 sl sl2 (by simpa using hv) (by simp[hw])) ⟨ho,ho2,h1 hw⟩
 ·refine concat_meets ⟨_,ho,rfl⟩ ⟨_,ho2,rfl⟩ noFill_tuple_add seq_tuple_add PySem.F.slot_tuple_add PySem.F.entry_tuple_add (PySem.F.args_tuple_add_2 _ _)
   (tuple_addW2 t b vs.toArray ws.toArray n n2 dd dd2 sl sl2 (by simpa using hv) (by simpa using hw) (by rw[List.size_toArray,List.size_toArray];exact hsz)) ⟨ho,ho2,?_⟩
  rw[e]
  exact h2 hw
noncomputable def sIx (n d:Nat):Option Int→Nat
 | none=>d
 | some v=>if v < 0 then (v+(n:Int)).toNat else min v.toNat n
theorem zne (n d:Nat):sIx n d none=d:=rfl
theorem zrr (n d k:Nat):sIx n d (some (k:Int))=min k n:=by
 show (if (k:Int) < 0 then ((k:Int)+(n:Int)).toNat else min (k:Int).toNat n)=min k n
 rw[if_neg (by omega),Int.toNat_natCast]
theorem sIx_le (n d:Nat) (hd:d≤n) (o:Option Int):sIx n d o≤n:=by
 cases o with
 | none=>exact hd
 | some v =>
  show (if v < 0 then (v+(n:Int)).toNat else min v.toNat n)≤n
  by_cases hv:v < 0
  ·rw[if_pos hv];omega
  ·rw[if_neg hv];exact Nat.min_le_right _ _
theorem zsk (v:Int) (n d:Nat):(if v < 0 then max (v+(n:Int)) 0 else min v (n:Int))=((sIx n d (some v):Nat):Int):=by
 show (if v < 0 then max (v+(n:Int)) 0 else min v (n:Int))=(((if v < 0 then (v+(n:Int)).toNat else min v.toNat n):Nat):Int)
 by_cases hv:v < 0
 ·simp only[if_pos hv];omega
 ·simp only[if_neg hv];omega
theorem zpe (lo hi:Option Int) (n:Nat):Builtin.Slice.sliceAdjust lo hi 1 (n:Int)=(((sIx n 0 lo:Nat):Int),((sIx n n hi:Nat):Int)):=by
 have h1:¬ ((1:Int) < 0):=by omega
 unfold Builtin.Slice.sliceAdjust
 simp only[h1,if_false]
 refine Prod.ext ?_ ?_
 ·cases lo with
  | none=>rfl
  | some v=>exact zsk v n 0
 ·cases hi with
  | none=>rfl
  | some v=>exact zsk v n n
theorem znn (i j:Nat):Builtin.Slice.slicePlaces (i:Int) (j:Int) 1=j - i:=by
 unfold Builtin.Slice.slicePlaces
 have h1:(1:Int) > 0:=by omega
 simp only[h1,if_true,Int.ediv_one]
 split<;>omega
theorem zdl {v:Value} {o:Option Int} {Q:Option Int→Shared→Prop} (p:IsPart v o) (h:Q o s):wpAny (model prog w) A (Builtin.Slice.slicePartIndex v) Q E s:=by
 cases p with
 | none=>exact slicePart_none h
 | int i t=>exact slicePart_int h
theorem zdm {sl:Addr} {vl vu:Value} {lo hi:Option Int} {n:Nat} {Q:Int × Int × Nat→Shared→Prop} (hs:s.heap.IsSliceOf sl vl vu .none) (pl:IsPart vl lo) (pu:IsPart vu hi)
  (h:Q (((sIx n 0 lo:Nat):Int),1,sIx n n hi - sIx n 0 lo) s):wpAny (model prog w) A (Builtin.Slice.sliceApplied (.ref sl) (pure (n:Int))) Q E s:=by
 obtain ⟨os,hos,hcs,hds⟩:=id hs
 unfold Builtin.Slice.sliceApplied Builtin.Slice.sliceFields
 refine wpAny_bind (wpAny_bind (wpAny_field hos hds (x:=vl) rfl (wpAny_bind (wpAny_field hos hds (x:=vu) rfl (wpAny_bind (wpAny_field hos hds (x:=.none) rfl (wpAny_pure ?_)))))))
 refine wpAny_bind (slicePart_none ?_)
 show wpAny _ _ (if ((1:Int) == 0)=true then _ else _) _ _ s
 rw[if_neg (by decide)]
 refine wpAny_bind (zdl pl (wpAny_bind (zdl pu (wpAny_bind (wpAny_pure ?_)))))
 show wpAny _ _ (match Builtin.Slice.sliceAdjust lo hi 1 (n:Int) with | (lo,hi)=>pure (lo,(1:Int),Builtin.Slice.slicePlaces lo hi 1)) _ _ s
 rw[zpe lo hi n]
 show wpAny _ _ (pure (((sIx n 0 lo:Nat):Int),(1:Int),Builtin.Slice.slicePlaces ((sIx n 0 lo:Nat):Int) ((sIx n n hi:Nat):Int) 1)) _ _ s
 rw[znn]
 exact wpAny_pure h
theorem zth (xs:Array Value) (i k:Nat):((List.range k).filterMap fun (m:Nat)=>xs[((i:Int)+(m:Int) * 1).toNat]?).toArray=((xs.toList.drop i).take k).toArray:=by
 have e:(fun (m:Nat)=>xs[((i:Int)+(m:Int) * 1).toNat]?)=fun m=>xs[i+m]?:=by
  funext m
  have:((i:Int)+(m:Int) * 1).toNat=i+m:=by omega
  rw[this]
 rw[e]
 have:=pick_run xs i k
 rw[List.filterMap_map] at this
 have e2:((fun x=>xs[x]?) ∘ fun x=>i+x)=fun m=>xs[i+m]?:=rfl
 rw[e2] at this
 rw[this]
theorem zfx {t sl:Addr} {items:Array Value} {vl vu:Value} {lo hi:Option Int} {Q:Value→Shared→Prop} (ht:IsTup s.heap t items) (hs:s.heap.IsSliceOf sl vl vu .none) (pl:IsPart vl lo) (pu:IsPart vu hi)
  (hw:¬ (sIx items.size 0 lo=0∧sIx items.size items.size hi=items.size))
  (h : Q (.ref s.heap.objs.size) { s with heap := s.heap.push { cls := .type "tuple", data := .seq ((items.toList.drop (sIx items.size 0 lo)).take (sIx items.size items.size hi - sIx items.size 0 lo)).toArray } })
  (hsz:items.size≤sizeLine):wpAny (model prog w) A (getItem (.ref t) (.ref sl)) Q E s:=by
 have htake:sizeOk (.seq ((items.toList.drop (sIx items.size 0 lo)).take (sIx items.size items.size hi - sIx items.size 0 lo)).toArray):=by
  show ((items.toList.drop (sIx items.size 0 lo)).take (sIx items.size items.size hi - sIx items.size 0 lo)).toArray.size≤sizeLine
  rw[List.size_toArray,List.length_take,List.length_drop,Array.length_toList]
  omega
 have hj:sIx items.size items.size hi≤items.size:=sIx_le _ _ (Nat.le_refl _) hi
 obtain ⟨os,hos,hcs,hds⟩:=id hs
 have hTs : s.TypeIs (.ref sl) "slice" := ⟨os, hos, hcs⟩
 unfold getItem
 try with_reducible refine wpAny_holding ?_
 first | refine wpAny_bind (wpAny_pure ?_) | skip
 refine wpAny_bind (wpAny_sequenceKey ht.typeIs (by decide) ?_)
 refine wpAny_bind (wpAny_callSpecial?_slot (name := Str.ofString "__getitem__") ht.typeIs PyProof.Rows.slot_tuple_getitem
  (wpAny_call_entry PyProof.Rows.slot_tuple_getitem ht.typeIs entry_tuple_getitem ?_ (args_tuple_getitem _ _)))
 show wpAny _ _ (Builtin.Tuple.tupleItemsOf (.ref t) >>= _) _ _ s
 refine wpAny_bind (tupleItemsOf_ ht ?_)
 refine wpAny_bind (wpAny_typeOf hTs ?_)
 rw[if_pos (by decide)]
 refine wpAny_bind (zdm hs pl pu ?_)
 have hno:¬ ((((sIx items.size 0 lo:Nat):Int) == 0 && (1:Int) == 1 && (sIx items.size items.size hi - sIx items.size 0 lo) == items.size)=true):=by
  intro q
  rw[Bool.and_eq_true,Bool.and_eq_true] at q
  have q1:((sIx items.size 0 lo:Nat):Int)=0:=eq_of_beq q.1.1
  have q2:sIx items.size items.size hi - sIx items.size 0 lo=items.size:=eq_of_beq q.2
  exact hw ⟨by omega,by omega⟩
 show wpAny _ _ (if (((sIx items.size 0 lo:Nat):Int) == 0 && (1:Int) == 1 && (sIx items.size items.size hi - sIx items.size 0 lo) == items.size)=true then _ else _) _ _ s
 rw[if_neg hno,zth]
 first
  | exact wpAny_bind (m:=Builtin.Tuple.tupleExact _) (wpAny_newObj_type (wpAny_pure ⟨_,rfl,wpAny_pure h⟩) htake)
  | exact wpAny_bind (m:=Builtin.Tuple.tupleExact _) (wpAny_newObj_type (wpAny_bind (wpAny_pure (wpAny_pure ⟨_,rfl,wpAny_pure h⟩))) htake)
  | exact wpAny_bind (wpAny_bind (m:=Builtin.Tuple.tupleExact _) (wpAny_newObj_type (wpAny_pure (wpAny_pure ⟨_,rfl,wpAny_pure h⟩)) htake))
  | exact wpAny_bind (wpAny_bind (m:=Builtin.Tuple.tupleExact _) (wpAny_newObj_type (wpAny_pure ⟨_,rfl,wpAny_pure h⟩) htake))
end
end HT
namespace L2
open PySem PySem.Spec PyProof.Rows
noncomputable abbrev TO:=St→Hp→(Option Int→Hp→Prop)→Prop
noncomputable def PO (X:Cx) (e:Option Expr) (t:TO):Prop :=
 ∀(pins:List (Addr × Obj)) (s:Shared) (σ:St) (H:Hp) (Q:Option Int→Hp→Prop),Inv X pins σ H s→t σ H Q →
  wpAny (model X.prog X.w) X.A (evalPart e X.env) (fun u s'=>∃o H',Inv X pins σ H' s'∧IsPart u o∧Q o H') X.xe s
noncomputable def tNoPart:TO:=fun _ H Q=>Q none H
noncomputable def tPart (t:TE):TO:=fun σ H Q=>t σ H fun x H1=>∃i,x=.int i∧Q (some i) H1
theorem zez {ns:List Int}:∀{us:List Value},Vals (ns.map V.int) us→IntsAre us ns:=by
 induction ns with
 | nil=>intro us r;rw[List.map_nil] at r;cases r;exact .nil
 | cons n ns ih =>
  intro us r
  rw[List.map_cons] at r
  cases r with
  | cons r1 r2 =>
   obtain ⟨t,e⟩:=r1
   subst e
   exact .cons n t (ih r2)
section
variable {X:Cx} {e:Expr} {te:TE} {lo hi:Option Expr} {tl th:TO} {pos p2:Pos}
theorem zwa:PO X none tNoPart:=by
 intro pins s σ H Q I h
 rw[evalPart_none]
 exact wpAny_pure ⟨none,H,I,.none,h⟩
theorem zvz (h:PE X e te):PO X (some e) (tPart te):=by
 intro pins s σ H Q I hw
 rw[evalPart_some]
 refine thn (h pins s σ H _ I hw) fun u s1 hq0=>?_
 obtain ⟨x,H1,I1,r1,q1⟩:=hq0
 obtain ⟨i,rfl,q⟩:=q1
 obtain ⟨t,rfl⟩:=r1
 exact ⟨some i,H1,I1,.int i t,q⟩
noncomputable def SlR (X:Cx) (r:V→Option Int→Option Int→Hp→VK→Prop):Prop :=
 ∀(pins:List (Addr × Obj)) (s:Shared) (σ:St) (H:Hp) (x:V) (v vl vu:Value) (lo hi:Option Int) (sl:Addr) (Q:VK),Inv X pins σ H s→RelV x v→s.heap.IsSliceOf sl vl vu .none→IsPart vl lo→IsPart vu hi→r x lo hi H Q →
  ∃ T id, typeLookup (.type T) "__getitem__" = pure (some (.builtin id)) ∧ s.TypeIs v T ∧ wpAny (model X.prog X.w) X.A (getItem v (.ref sl)) (EP X pins σ Q) X.xe s
theorem SlR.or {r r':V→Option Int→Option Int→Hp→VK→Prop} (h:SlR X r) (h':SlR X r'):SlR X (fun x lo hi H Q=>r x lo hi H Q∨r' x lo hi H Q):=by
 intro pins s σ H x v vl vu lo hi sl Q I rx hs pl pu q
 rcases q with q | q
 ·exact h pins s σ H x v vl vu lo hi sl Q I rx hs pl pu q
 ·exact h' pins s σ H x v vl vu lo hi sl Q I rx hs pl pu q
noncomputable def tSl (r:V→Option Int→Option Int→Hp→VK→Prop) (te:TE) (tl th:TO):TE:=fun σ H Q=>te σ H fun x H1=>tl σ H1 fun l H2=>th σ H2 fun u H3=>r x l u H3 Q
theorem ztk {r:V→Option Int→Option Int→Hp→VK→Prop} (hr:SlR X r) (he:PE X e te) (hl:PO X lo tl) (hu:PO X hi th):PE X (.Subscript e (.Slice lo hi none p2) pos) (tSl r te tl th):=by
 intro pins s σ H Q I h
 refine Subscript_ (thn (he pins s σ H _ I h) fun v s1 hq0=>?_)
 obtain ⟨x,H1,I1,r1,q1⟩:=hq0
 refine wpAny_Slice (thn (hl pins s1 σ H1 _ I1 q1) fun vl s2 ⟨l,H2,I2,pl,q2⟩=>thn (hu pins s2 σ H2 _ I2 q2) fun vu s3 hq0=>?_)
 obtain ⟨u,H3,I3,pu,q3⟩:=hq0
 rw[evalPart_none]
 refine wpAny_pure ?_
 have I4 : Inv X pins σ H3 { s3 with heap := s3.heap.push { cls := .type "slice", data := .fields #[vl, vu, .none] } } := I3.kept (t' := s3.toks) fun b ob q => Heap.get?_push_of_some _ q
 obtain ⟨T, id, hT, ht, hg⟩ := hr pins { s3 with heap := s3.heap.push { cls := .type "slice", data := .fields #[vl, vu, .none] } } σ H3 x v vl vu l u s3.heap.objs.size Q I4 r1 (Heap.IsSliceOf.new ..) pl pu q3
 show wpAny (model X.prog X.w) X.A (subscriptTail e (.Slice lo hi none p2) v (.ref s3.heap.objs.size)) (EP X pins σ Q) X.xe { s3 with heap := s3.heap.push { cls := .type "slice", data := .fields #[vl, vu, .none] } }
 exact tail_any (ops:=[.ref s3.heap.objs.size,v]) ht hT hg (by with_unfolding_all rfl)
noncomputable def cutV (xs:List V) (lo hi:Option Int):List V:=(xs.drop (HT.sIx xs.length 0 lo)).take (HT.sIx xs.length xs.length hi - HT.sIx xs.length 0 lo)
theorem zhq (xs:List V) (lo hi:Option Int):(cutV xs lo hi).length≤xs.length:=by
 unfold cutV
 rw[List.length_take,List.length_drop]
 omega
noncomputable def rSlT (K:PySem.W.Frag):V→Option Int→Option Int→Hp→VK→Prop:=fun x lo hi H Q=>∃a xs,x=.ref a∧SqT K H a xs ∧
 ¬ (HT.sIx xs.length 0 lo=0∧HT.sIx xs.length xs.length hi=xs.length)∧∀p,H p=none→Q (.ref p) (upd H p (.tup (cutV xs lo hi)))
theorem sl_tup:SlR X (rSlT X.K):=by
 intro pins s σ H x v vl vu lo hi sl Q I rx hs pl pu h
 obtain ⟨a,xs,rfl,hx,hw,q⟩:=h
 cases rx
 obtain ⟨its,r,ht,hz⟩:=I.tuple hx
 have hlen:its.toArray.size=xs.length:=by rw[List.size_toArray];exact r.length.symm
 refine ⟨"tuple", _, PyProof.Rows.slot_tuple_getitem.lookup, ht.typeIs, ?_⟩
 refine HT.zfx ht hs pl pu (by rw[hlen];exact hw) ?_ (by rw[hlen];exact hz)
 rw[hlen]
 refine ⟨.ref s.heap.objs.size,_,I.laid (t':=s.toks) (o:=.tup (cutV xs lo hi)) (fun b ob q=>Heap.get?_push_of_some _ q) (Nat.le_refl _) ?_,rfl,q _ (I.hok.fresh (Nat.le_refl _))⟩
 exact ⟨Nat.le_trans (zhq xs lo hi) hz,_,(r.drop (HT.sIx xs.length 0 lo)).take (HT.sIx xs.length xs.length hi - HT.sIx xs.length 0 lo),IsTup.new _ _⟩
noncomputable def rLtT (K:PySem.W.Frag):R2:=fun x y H Q=>∃a b ns ms,x=.ref a∧y=.ref b∧SqT K H a (ns.map V.int)∧SqT K H b (ms.map V.int)∧Q (.bl (HT.lexLt ns ms)) H
theorem op_ltT (hu:X.A.units < cLine):OpR X (compareOp .Lt) (rLtT X.K):=by
 intro pins s σ H x y v u Q I rx ry h
 obtain ⟨a,b,ns,ms,rfl,rfl,ha,hb,q⟩:=h
 cases rx
 cases ry
 obtain ⟨its,r1,p1,_⟩:=I.tuple ha
 obtain ⟨its2,r2,p2,_⟩:=I.tuple hb
 have i1:IntsAre its.toArray.toList ns:=zez r1
 have i2:IntsAre its2.toArray.toList ms:=zez r2
 exact HT.ziw p1 p2 i1 i2 hu ⟨.bl (HT.lexLt ns ms),H,I,rfl,q⟩
noncomputable def rCatT (K:PySem.W.Frag):R2:=fun x y H Q=>∃a b xs ys,x=.ref a∧y=.ref b∧SqT K H a xs∧SqT K H b ys∧xs≠[]∧xs.length+ys.length≤sizeLine ∧
 (ys=[]→Q (.ref a) H)∧(ys≠[]→∀p,H p=none→Q (.ref p) (upd H p (.tup (xs++ys))))
theorem Vals.nil_iff {xs:List V} {us:List Value} (r:Vals xs us):us=[]↔xs=[]:=by
 cases r with
 | nil=>simp
 | cons _ _=>simp
theorem zws:OpR X (binaryOp .Add) (rCatT X.K):=by
 intro pins s σ H x y v u Q I rx ry h
 obtain ⟨a,b,xs,ys,rfl,rfl,ha,hb,hx,hz,q1,q2⟩:=h
 cases rx
 cases ry
 obtain ⟨its,r1,p1,_⟩:=I.tuple ha
 obtain ⟨its2,r2,p2,_⟩:=I.tuple hb
 refine HT.zyj p1 p2 (fun z=>hx (r1.nil_iff.mp z)) (fun z=>⟨.ref a,H,I,rfl,q1 (r2.nil_iff.mp z)⟩) (fun z=>?_) (by rw[← r1.length,← r2.length];exact hz)
 refine ⟨.ref s.heap.objs.size,_,I.laid (t':=s.toks) (o:=.tup (xs++ys)) (fun b ob q=>Heap.get?_push_of_some _ q) (Nat.le_refl _) ?_,rfl,q2 (fun w=>z (r2.nil_iff.mpr w)) _ (I.hok.fresh (Nat.le_refl _))⟩
 exact ⟨by rw[List.length_append];exact hz,_,r1.append r2,IsTup.new _ _⟩
end
end L2
namespace L2
open PySem PySem.Spec PyProof.Rows
noncomputable def ixN (n:Nat) (i:Int):Option Nat:=if 0≤i then (if i < n then some i.toNat else none) else if -(n:Int)≤i then some (i+n).toNat else none
noncomputable def atI {α:Type} (xs:List α) (i:Int):Option α:=(ixN xs.length i).bind fun j=>xs[j]?
theorem zsb {n:Nat} {i:Int} {j:Nat} (h:ixN n i=some j):seqIndex? i n=some j∧j < n∧-(n:Int)≤i∧i < n:=by
 unfold ixN at h
 by_cases h0:0≤i
 ·rw[if_pos h0] at h
  by_cases h1:i < n
  ·rw[if_pos h1] at h
   have e:i.toNat=j:=Option.some.inj h
   exact ⟨by rw[seqIndex_of h0 h1,e],by omega,by omega,h1⟩
  ·rw[if_neg h1] at h;cases h
 ·rw[if_neg h0] at h
  by_cases h1:-(n:Int)≤i
  ·rw[if_pos h1] at h
   have e:(i+n).toNat=j:=Option.some.inj h
   exact ⟨by rw[seqIndex_neg (by omega) h1,e],by omega,h1,by omega⟩
  ·rw[if_neg h1] at h;cases h
theorem zpb {α:Type} {xs:List α} {i:Int} {v:α} (h:atI xs i=some v):∃j,seqIndex? i xs.length=some j∧xs[j]?=some v∧j < xs.length∧-(xs.length:Int)≤i∧i < xs.length:=by
 unfold atI at h
 cases e:ixN xs.length i with
 | none=>rw[e] at h;cases h
 | some j =>
  rw[e] at h
  obtain ⟨h1,h2,h3,h4⟩:=zsb e
  exact ⟨j,h1,h,h2,h3,h4⟩
theorem zmb {α:Type} {xs:List α} {j:Nat} {v:α} (h:xs[j]?=some v):atI xs (j:Int)=some v:=by
 have hj:j < xs.length:=(List.getElem?_eq_some_iff.mp h).1
 have e:ixN xs.length (j:Int)=some j:=by
  unfold ixN
  rw[if_pos (by omega),if_pos (by omega)];simp
 unfold atI;rw[e];exact h
noncomputable def PlainIx (b:Expr):Prop:=∀o i,subscripted b false o i=operate [o,i] (getItem o i)
noncomputable def IxR (X:Cx) (r:R2):Prop :=
 ∀(value slice:Expr) (pins:List (Addr × Obj)) (s:Shared) (σ:St) (H:Hp) (x y:V) (v u:Value) (Q:VK),Inv X pins σ H s→RelV x v→RelV y u→r x y H Q →
  subscripted slice false v u=operate [v,u] (getItem v u)→wpAny (model X.prog X.w) X.A (subscriptTail value slice v u) (EP X pins σ Q) X.xe s
noncomputable def MtR (X:Cx) (id:String) (r:V→List V→Hp→VK→Prop):Prop :=
 ∀(pins:List (Addr × Obj)) (s:Shared) (σ:St) (H:Hp) (x:V) (xs:List V) (v:Value) (us:List Value) (Q:VK),Inv X pins σ H s→RelV x v→Vals xs us→r x xs H Q →
  wpAny (model X.prog X.w) X.A (call (.builtin id) (v::us)) (EP X pins σ Q) X.xe s
section
variable {X:Cx} {a b:Expr} {ta tb:TE} {pos:Pos}
theorem IxR.or {r r':R2} (h:IxR X r) (h':IxR X r'):IxR X (fun x y H Q=>r x y H Q∨r' x y H Q):=by
 intro value slice pins s σ H x y v u Q I rx ry q hs
 rcases q with q | q
 ·exact h value slice pins s σ H x y v u Q I rx ry q hs
 ·exact h' value slice pins s σ H x y v u Q I rx ry q hs
theorem pe_ix {r:R2} (hr:IxR X r) (ha:PE X a ta) (hb:PE X b tb) (hs:PlainIx b):PE X (.Subscript a b pos) (tOp r ta tb):=by
 intro pins s σ H Q I h
 exact Subscript_ (binT ha hb I h fun v u s2 x y H2 I2 rx ry q=>hr a b pins s2 σ H2 x y v u Q I2 rx ry q (hs _ _))
noncomputable def rIxL (K:PySem.W.Frag):R2:=fun x y H Q=>∃p xs i v,x=.ref p∧y=.int i∧SqL K H p xs∧atI xs i=some v∧Q v H
noncomputable def rIxT (K:PySem.W.Frag):R2:=fun x y H Q=>∃p xs i v,x=.ref p∧y=.int i∧SqT K H p xs∧atI xs i=some v∧Q v H
noncomputable def rIxS:R2:=fun x y H Q=>∃z i c,x=.str z∧y=.int i∧z.length≤sizeLine∧atI z.cps.toList i=some c∧Q (.str ⟨#[c]⟩) H
theorem zxh:IxR X (rIxL X.K):=by
 intro value slice pins s σ H x y v u Q I rx ry h hs
 obtain ⟨p,xs,i,z,rfl,rfl,hq,he,q⟩:=h
 cases rx
 obtain ⟨t,rfl⟩:=ry
 obtain ⟨its,r,pl,hz⟩:=I.list hq
 obtain ⟨j,h1,h2,h3,h4,h5⟩:=zpb he
 obtain ⟨w,ew,rw'⟩:=r.get h2
 have hl:=r.length
 have hn:=line63
 have fin:EP X pins σ Q w s:=⟨z,H,I,rw',q⟩
 by_cases h0:0≤i
 ·have hj:i.toNat=j:=by
   rw[seqIndex_of h0 h5] at h1
   exact Option.some.inj h1
  exact item_listR pl.isList h0 (by omega) (by rw[hj];simpa using ew) fin hs
 ·have hj:(i+(its.toArray.size:Int)).toNat=j:=by
   rw[seqIndex_neg (by omega) h4] at h1
   rw[List.size_toArray,← hl]
   exact Option.some.inj h1
  exact subscriptTail_builtinR (x:=w) pl.isList.typeIs slot_list_getitem.lookup
   (wpAny_getItem_list_neg (Q:=fun r s'=>r=w∧EP X pins σ Q r s') pl.isList (by omega) (by rw[List.size_toArray]<;>omega) (by omega) (by rw[hj];simpa using ew) ⟨rfl,fin⟩) hs
theorem ix_tup:IxR X (rIxT X.K):=by
 intro value slice pins s σ H x y v u Q I rx ry h hs
 obtain ⟨p,xs,i,z,rfl,rfl,hq,he,q⟩:=h
 cases rx
 obtain ⟨t,rfl⟩:=ry
 obtain ⟨its,r,pl,hz⟩:=I.tuple hq
 obtain ⟨j,h1,h2,h3,h4,h5⟩:=zpb he
 obtain ⟨w,ew,rw'⟩:=r.get h2
 have hl:=r.length
 have hn:=line63
 have fin:EP X pins σ Q w s:=⟨z,H,I,rw',q⟩
 exact subscriptTail_builtinR (x:=w) pl.typeIs slot_tuple_getitem.lookup
  (getItem_tuple (j:=j) (Q:=fun r s'=>r=w∧EP X pins σ Q r s') pl (by omega) (by omega) (by rw[List.size_toArray,← hl];exact h1) (by simpa using ew) ⟨rfl,fin⟩) hs
theorem ix_str:IxR X rIxS:=by
 intro value slice pins s σ H x y v u Q I rx ry h hs
 obtain ⟨z,i,c,rfl,rfl,hz,he,q⟩:=h
 obtain ⟨t,rfl⟩:=rx
 obtain ⟨t',rfl⟩:=ry
 obtain ⟨j,h1,h2,h3,h4,h5⟩:=zpb he
 have hl:z.cps.toList.length=z.length:=by simp[Str.length]
 rw[hl] at h1 h4 h5
 have hn:=line63
 exact tail_any (typeIs_str s z t) slot_str_getitem.lookup (getItem_str (c:=c) (by
  have e1:decide (i < -(2 ^ 63:Int))=false:=decide_eq_false (by omega)
  have e2:decide (i ≥ 2 ^ 63)=false:=decide_eq_false (by omega)
  rw[e1,e2,Bool.or_false]) (by rw[h1];simpa using h2) ⟨.str ⟨#[c]⟩,H,I.tok _,⟨_,rfl⟩,q⟩) hs
noncomputable def rIx (K:PySem.W.Frag):R2:=fun x y H Q=>rIxL K x y H Q∨rIxT K x y H Q∨rIxS x y H Q
theorem ix_seq:IxR X (rIx X.K):=zxh.or (ix_tup.or ix_str)
theorem znv (its : List Value) (n j : Nat) (u : Value) : Obj.mapSeq (·.setIfInBounds j u) { cls := .type "list", data := .seq its.toArray n } = { cls := .type "list", data := .seq (its.set j u).toArray n } := by
 simp[Obj.mapSeq]
theorem Inv.lst {pins:List (Addr × Obj)} {σ:St} {H:Hp} {s:Shared} {p:Addr} {xs:List V} (I:Inv X pins σ H s) (h:H p=some (.lst xs)) :
  ∃ (its : List Value) (n : Nat), Vals xs its ∧ s.heap.get? p = some { cls := .type "list", data := .seq its.toArray n } ∧ xs.length ≤ sizeLine := by
 obtain ⟨z,its,n,r,e⟩:=I.hok p _ h
 exact ⟨its,n,r,e,z⟩
theorem Inv.lstUpd {pins:List (Addr × Obj)} {σ:St} {H:Hp} {s:Shared} {p:Addr} {xs ys:List V} {its its':List Value} {n n':Nat} {f:Obj→Obj} (I:Inv X pins σ H s) (h:H p=some (.lst xs))
  (ho : s.heap.get? p = some { cls := .type "list", data := .seq its.toArray n }) (hf : f { cls := .type "list", data := .seq its.toArray n } = { cls := .type "list", data := .seq its'.toArray n' }) (r : Vals ys its') (hz : ys.length ≤ sizeLine) (t : Nat) :
  Inv X pins σ (upd H p (.lst ys)) {s with heap:=s.heap.update p f,toks:=t}:=by
 have e : (s.heap.update p f).get? p = some { cls := .type "list", data := .seq its'.toArray n' } := by
  rw[Heap.get?_update_self f ho (by rw[hf]<;>rfl),hf]
 refine I.write (x:=p) (e:=p) (by rw[h];trivial) (.inl rfl) (fun b u hb q=>(Heap.get?_update_other _ _ (Ne.symm hb)).trans q) ⟨_,e⟩ ?_
 exact ⟨hz,its',n',r,e⟩
noncomputable def rSetL:V→V→V→Hp→(Hp→Prop)→Prop:=fun o i v H Q=>∃p xs k j,o=.ref p∧i=.int k∧H p=some (.lst xs)∧ixN xs.length k=some j∧Q (upd H p (.lst (xs.set j v)))
theorem zsv:PSet X rSetL:=by
 intro pins s σ H o i v ov iv u Q I ro ri rv h
 obtain ⟨p,xs,k,j,rfl,rfl,hp,hj,q⟩:=h
 cases ro
 obtain ⟨t,rfl⟩:=ri
 obtain ⟨its,n,r,ho,hz⟩:=I.lst hp
 obtain ⟨h1,h2,h3,h4⟩:=zsb hj
 have hl:=r.length
 have hn:=line63
 have I':Inv X pins σ (upd H p (.lst (xs.set j v))) {s with heap:=s.heap.update p (Obj.mapSeq (·.setIfInBounds j u))} :=
  I.lstUpd hp ho (znv its n j u) (r.set rv j) (by rw[List.length_set];exact hz) s.toks
 by_cases h0:0≤k
 ·have hk:k.toNat=j:=by
   rw[seqIndex_of h0 h4] at h1
   exact Option.some.inj h1
  exact PySem.W.ki_setAt ho h0 (by omega) (by rw[List.size_toArray,← hl];exact h4) (by rw[hk];exact ⟨_,I',q⟩)
 ·have hk:(k+(its.toArray.size:Int)).toNat=j:=by
   rw[seqIndex_neg (by omega) h3] at h1
   rw[List.size_toArray,← hl]
   exact Option.some.inj h1
  exact PySem.W.ki_setBack ho (by omega) (by rw[List.size_toArray,← hl];exact h3) (by omega) (by rw[hk];exact ⟨_,I',q⟩)
theorem zjv (lo hi:Option Int) (n:Nat):(sliceBounds lo hi none n).1=((HT.sIx n 0 lo:Nat):Int)∧(sliceBounds lo hi none n).2.1=((HT.sIx n n hi:Nat):Int)∧(sliceBounds lo hi none n).2.2=1:=by
 refine ⟨?_,?_,rfl⟩
 ·cases lo with
  | none=>simp[sliceBounds,HT.sIx]
  | some i =>
   simp only[sliceBounds,HT.sIx,Option.getD_none,show (1:Int) > 0 by decide,if_true]
   by_cases h:i < 0
   ·simp only[h,if_true]<;>omega
   ·simp only[h,if_false]<;>omega
 ·cases hi with
  | none=>simp[sliceBounds,HT.sIx]
  | some i =>
   simp only[sliceBounds,HT.sIx,Option.getD_none,show (1:Int) > 0 by decide,if_true]
   by_cases h:i < 0
   ·simp only[h,if_true]<;>omega
   ·simp only[h,if_false]<;>omega
theorem zil (its:List Value) (lo hi:Option Int):slicePick its.toArray lo hi none=((its.drop (HT.sIx its.length 0 lo)).take (HT.sIx its.length its.length hi - HT.sIx its.length 0 lo)).toArray:=by
 obtain ⟨h1,h2,h3⟩:=zjv lo hi its.toArray.size
 unfold slicePick
 rw[h1,h2,h3]
 simp only[sliceRange_one,pick_run,List.size_toArray]<;>rfl
noncomputable def rSlL (K:PySem.W.Frag):V→Option Int→Option Int→Hp→VK→Prop:=fun x lo hi H Q=>∃a xs,x=.ref a∧SqL K H a xs∧∀p,H p=none→Q (.ref p) (upd H p (.lst (cutV xs lo hi)))
theorem zvo:SlR X (rSlL X.K):=by
 intro pins s σ H x v vl vu lo hi sl Q I rx hs pl pu h
 obtain ⟨a,xs,rfl,hx,q⟩:=h
 cases rx
 obtain ⟨its,r,ht,hz⟩:=I.list hx
 have hlen:=r.length
 refine ⟨"list", _, slot_list_getitem.lookup, ht.isList.typeIs, ?_⟩
 refine wpAny_getItem_list_slice ht.isList hs pl pu .none (by simp) ?_ (by rw[List.size_toArray]<;>omega)
 rw[zil,← hlen]
 refine ⟨.ref s.heap.objs.size,_,I.laid (t':=s.toks) (o:=.lst (cutV xs lo hi)) (fun b ob q=>Heap.get?_push_of_some _ q) (Nat.le_refl _) ?_,rfl,q _ (I.hok.fresh (Nat.le_refl _))⟩
 exact ⟨Nat.le_trans (zhq xs lo hi) hz,_,0,(r.drop (HT.sIx xs.length 0 lo)).take (HT.sIx xs.length xs.length hi - HT.sIx xs.length 0 lo),Heap.get?_push_size _ rfl⟩
theorem zp : CallR X (.builtin "len") (fun xs H Q => ∃ p ys, xs = [.ref p] ∧ (SqL X.K H p ys ∨ SqT X.K H p ys) ∧ Q (.int ys.length) H) := by
 intro pins s σ H xs us Q I r h
 obtain ⟨p,ys,rfl,hq,q⟩:=h
 obtain ⟨u,rfl,rx⟩:=vals1 r
 cases rx
 have hn:=line63
 rcases hq with hq | hq
 ·obtain ⟨its,r',pl,hz⟩:=I.list hq
  have hlen:=r'.length
  exact Calls.call_len_list pl.isList (by simp only[List.size_toArray]<;>omega) ⟨.int ys.length,H,I.tok _,⟨s.toks+1,by rw[List.size_toArray,hlen]⟩,q⟩
 ·obtain ⟨its,r',pl,hz⟩:=I.tuple hq
  have hlen:=r'.length
  exact len_tuple pl (by simp only[List.size_toArray]<;>omega) ⟨.int ys.length,H,I.tok _,⟨s.toks+1,by rw[List.size_toArray,hlen]⟩,q⟩
theorem CallR.or {f:Value} {r r':List V→Hp→VK→Prop} (h:CallR X f r) (h':CallR X f r'):CallR X f (fun xs H Q=>r xs H Q∨r' xs H Q):=by
 intro pins s σ H xs us Q I rs q
 rcases q with q | q
 ·exact h pins s σ H xs us Q I rs q
 ·exact h' pins s σ H xs us Q I rs q
theorem zkm : CallR X (.type "list") (fun xs H Q => ∃ p ys, xs = [.ref p] ∧ (SqL X.K H p ys ∨ SqT X.K H p ys) ∧ ∀ l, H l = none → Q (.ref l) (upd H l (.lst ys))) := by
 intro pins s σ H xs us Q I r h
 obtain ⟨p,ys,rfl,hq,q⟩:=h
 obtain ⟨u,rfl,rx⟩:=vals1 r
 cases rx
 have fin:∀(its:List Value),Vals ys its→ys.length≤sizeLine→∀(h':Heap) (c':Nat),(∀b o',s.heap.get? b=some o'→h'.get? b=some o') →
   h'.get? s.heap.objs.size = some { cls := .type "list", dict := none, data := .seq its.toArray c', slots := #[] } → EP X pins σ Q (.ref s.heap.objs.size) { s with heap := h' } := fun its r' hz h' c' kp e =>
  ⟨.ref s.heap.objs.size,_,I.laid (t':=s.toks) kp (Nat.le_refl _) (show ObjOk X.prog X.w _ h' _ (.lst ys) from ⟨hz,its,c',r',e⟩),rfl,q _ (I.hok.fresh (Nat.le_refl _))⟩
 rcases hq with hq | hq
 ·obtain ⟨its,r',pl,hz⟩:=I.list hq
  have hlen:=r'.length
  obtain ⟨o,ho,hc,n,hd⟩:=pl.isList
  exact call_list_seq p (.inl rfl) ho hc hd (fun h' c' kp e=>fin its r' hz h' c' kp e) (by simp only[List.size_toArray]<;>omega)
 ·obtain ⟨its,r',pl,hz⟩:=I.tuple hq
  have hlen:=r'.length
  obtain ⟨o,ho,hc,n,hd⟩:=pl
  exact call_list_seq p (.inr rfl) ho hc hd (fun h' c' kp e=>fin its r' hz h' c' kp e) (by simp only[List.size_toArray]<;>omega)
theorem zw : CallR X (.type "tuple") (fun xs H Q => ∃ p ys, xs = [.ref p] ∧ ((SqL X.K H p ys ∧ ∀ l, H l = none → Q (.ref l) (upd H l (.tup ys))) ∨ (SqT X.K H p ys ∧ Q (.ref p) H))) := by
 intro pins s σ H xs us Q I r h
 obtain ⟨p,ys,rfl,h⟩:=h
 obtain ⟨u,rfl,rx⟩:=vals1 r
 cases rx
 rcases h with ⟨hq,q⟩ | ⟨hq,q⟩
 ·obtain ⟨its,r',pl,hz⟩:=I.list hq
  have hlen:=r'.length
  refine call_tuple_list pl.isList (fun h' kp=>?_) (by simp only[List.size_toArray]<;>omega)
  have I1:Inv X pins σ H {s with heap:=h'}:=I.kept (t':=s.toks) kp
  have I2 : Inv X pins σ (upd H h'.objs.size (.tup ys)) { s with heap := h'.push { cls := .type "tuple", data := .seq its.toArray } } :=
   I1.laid (t':=s.toks) (fun b o e=>Heap.get?_push_of_some _ e) (Nat.le_refl _) (show ObjOk X.prog X.w _ _ _ (.tup ys) from ⟨hz,its,r',IsTup.new _ _⟩)
  exact ⟨.ref h'.objs.size,_,I2,rfl,q _ (I1.hok.fresh (Nat.le_refl _))⟩
 ·obtain ⟨its,r',pl,hz⟩:=I.tuple hq
  exact call_tuple_same pl ⟨.ref p,H,I,rfl,q⟩
noncomputable def tyV (K:PySem.W.Frag) (T:String) (x:V) (H:Hp):Prop:=match x with
 | .str _ => T = "str"
 | .int _ => T = "int"
 | .ref p => (T = "list" ∧ ∃ xs, SqL K H p xs) ∨ (T = "tuple" ∧ ∃ o, K.lookup p = some o ∧ o.cls = .type "tuple" ∧ o.dict = none) ∨
  (T = "dict" ∧ ((∃ kvs, H p = some (.dK kvs)) ∨ ∃ kvs, H p = some (.dT kvs))) ∨ (T = "set" ∧ ∃ S n, H p = some (.set S n))
 | _=>False
theorem tyV_is {pins:List (Addr × Obj)} {σ:St} {H:Hp} {s:Shared} {T:String} {x:V} {v:Value} (I:Inv X pins σ H s) (r:RelV x v) (ty:tyV X.K T x H) :
  s.TypeIs v T∧∀a,v=.ref a→∃ob,s.heap.get? a=some ob∧ob.dict=none:=by
 cases x with
 | str z =>
  obtain ⟨t,rfl⟩:=r
  cases (show T = "str" from ty)
  exact ⟨typeIs_str s z t,fun _ e=>nomatch e⟩
 | int i =>
  obtain ⟨t,rfl⟩:=r
  cases (show T = "int" from ty)
  exact ⟨typeIs_int s i t,fun _ e=>nomatch e⟩
 | ref p =>
  cases r
  rcases ty with ⟨rfl,xs,hq⟩ | ⟨rfl,o,hk,hc,hd⟩ | ⟨rfl,hk⟩ | ⟨rfl,S,n,hk⟩
  ·obtain ⟨its,_,pl,_⟩:=I.list hq
   refine ⟨pl.isList.typeIs,fun a e=>?_⟩
   cases e
   obtain ⟨o,n,e,c,hd,_⟩:=pl
   exact ⟨o,e,hd⟩
  ·refine ⟨⟨o,I.kIn p o hk,hc⟩,fun a e=>?_⟩
   cases e
   exact ⟨o,I.kIn _ o hk,hd⟩
  ·have z:∃o,s.heap.get? p=some o∧o.ExactDict:=by
    rcases hk with ⟨kvs,hk⟩ | ⟨kvs,hk⟩
    ·obtain ⟨_,_,_,_,o,_,_,e,ex,_⟩:=I.hok p _ hk
     exact ⟨o,e,ex⟩
    ·obtain ⟨_,_,_,_,o,_,_,e,ex,_⟩:=I.hok p _ hk
     exact ⟨o,e,ex⟩
   obtain ⟨o,e,ex⟩:=z
   refine ⟨⟨o,e,ex.1⟩,fun a e2=>?_⟩
   cases e2
   exact ⟨o,e,ex.2.1⟩
  ·obtain ⟨o,_,_,_,e,ex,_⟩:=I.hok p _ hk
   refine ⟨⟨o,e,ex.1⟩,fun a e2=>?_⟩
   cases e2
   exact ⟨o,e,ex.2.1⟩
 | _=>exact False.elim ty
noncomputable def tBM0 (K:PySem.W.Frag) (T:String) (r:V→List V→Hp→VK→Prop) (to:TE):TE:=fun σ H Q=>to σ H fun x H1=>tyV K T x H1∧r x [] H1 Q
noncomputable def tBM (K:PySem.W.Frag) (T:String) (r:V→List V→Hp→VK→Prop) (to:TE) (t:TA):TE:=fun σ H Q=>to σ H fun x H1=>tyV K T x H1∧t σ H1 fun xs H2=>r x xs H2 Q
variable {o e:Expr} {es:List Expr} {to:TE} {t:TA} {name:Str} {apos cpos:Pos} {T id:String} {r:V→List V→Hp→VK→Prop}
theorem pe_bm0 (pa : PlainAttrs T) (slot : Slot T name id) (hty : typeOf (.builtin id) = pure (.type "method_descriptor")) (hm : MtR X id r) (ho : PE X o to)
  (hbase:attributeBase o name X.env (eval o X.env)=eval o X.env:=by rfl) (hline:(apos.endLine == cpos.line)=true:=by rfl):PE X (.Call (.Attribute o name apos) [] [] cpos) (tBM0 X.K T r to):=by
 intro pins s σ H Q I h
 refine wpAny_Call_method0_late hbase hline (thn (ho pins s σ H _ I h) fun v s1 hq0=>?_)
 obtain ⟨x,H1,I1,r1,ty,q1⟩:=hq0
 obtain ⟨h1,h2⟩:=tyV_is I1 r1 ty
 exact ⟨T,id,pa,slot,hty,h1,h2,Calls.callWith_builtin rfl (PySem.evalArgs_none (hm pins s1 σ H1 x [] v [] Q I1 r1 .nil q1))⟩
theorem pe_bm (pa : PlainAttrs T) (slot : Slot T name id) (hty : typeOf (.builtin id) = pure (.type "method_descriptor")) (hm : MtR X id r) (ho : PE X o to) (ha : PA X (e :: es) t)
  (hbase:attributeBase o name X.env (eval o X.env)=eval o X.env:=by rfl)
  (hfew:((backTo cpos (starEach (e::es) X.env)).all (fun x=>!x.1) && (backToKw cpos (keywordEach [] X.env)).all (fun x=>x.1.isSome)
   && decide ((e::es).length+([]:List Keyword).length+(if ([]:List Keyword).isEmpty then 0 else 1) < 30))=true:=by rfl)
  (hline:(apos.endLine == cpos.line)=true:=by rfl) (hs:starEach (e::es) X.env=(false,eval e X.env)::starEach es X.env:=by rfl) (hplain:(backTo cpos (starEach es X.env)).any (·.1)=false:=by rfl) :
  PE X (.Call (.Attribute o name apos) (e::es) [] cpos) (tBM X.K T r to t):=by
 intro pins s σ H Q I h
 refine wpAny_Call_method_late hbase hfew hline rfl (thn (ho pins s σ H _ I h) fun v s1 hq0=>?_)
 obtain ⟨x,H1,I1,r1,ty,q1⟩:=hq0
 obtain ⟨h1,h2⟩:=tyV_is I1 r1 ty
 refine ⟨T,id,pa,slot,hty,h1,h2,?_⟩
 have hA:=ha cpos pins s1 σ H1 _ I1 q1
 rw[hs] at hA ⊢
 refine Calls.callWith_builtin (by show (false || (backTo cpos (starEach es X.env)).any (·.1))=false;rw[hplain]<;>rfl) (Calls.evalArgs_plain ?_)
 exact thn hA fun us s2 ⟨vs,H2,I2,r2,q2⟩=>hm pins s2 σ H2 x vs v us Q I2 r1 r2 q2
/- xs.append(e),list.index on a module's tuple .. are MtR facts of 06m -/
end
end L2
namespace L2
open PySem PySem.Spec PyProof.Rows
noncomputable def MtM (X:Cx) (id:String) (r:V→List V→Hp→VK→Prop):Prop :=
 ∀(pins:List (Addr × Obj)) (s:Shared) (σ:St) (H:Hp) (x:V) (xs:List V) (v:Value) (us:List Value) (Q:VK),Inv X pins σ H s→RelV x v→Vals xs us→r x xs H Q →
  wpAny (model X.prog X.w) X.A (call (.builtin id) (v::us)) (EP X pins σ Q) X.xe s
theorem Vals.one:∀{x:V} {us:List Value},Vals [x] us→∃u,us=[u]∧RelV x u
 | _,_,.cons r .nil=>⟨_,rfl,r⟩
theorem Vals.zero:∀{us:List Value},Vals [] us→us=[]
 | _,.nil=>rfl
theorem Vals.dropLast {xs:List V} {us:List Value} (h:Vals xs us):Vals xs.dropLast us.dropLast:=by
 induction h with
 | nil=>exact .nil
 | cons r t ih =>
  cases t with
  | nil=>exact .nil
  | cons q t'=>exact .cons r ih
theorem Vals.eraseIdx:∀{xs:List V} {us:List Value} (i:Nat),Vals xs us→Vals (xs.eraseIdx i) (us.eraseIdx i)
 | _,_,_,.nil=>.nil
 | _,_,0,.cons _ t=>t
 | _,_,i+1,.cons r t=>.cons r (Vals.eraseIdx i t)
theorem zoa {α:Type} (l:List α):l.eraseIdx (l.length - 1)=l.dropLast:=by
 induction l with
 | nil=>rfl
 | cons a r ih =>
  cases r with
  | nil=>rfl
  | cons b r =>
   have e:(a::b::r).length - 1=((b::r).length - 1)+1:=by
    have h1:(a::b::r).length=r.length+2:=rfl
    have h2:(b::r).length=r.length+1:=rfl
    omega
   rw[e,List.eraseIdx_cons_succ,ih]
   all_goals rfl
theorem zlj {α:Type}:∀(l:List α) (i:Nat),(l.eraseIdx i).length≤l.length
 | [],_=>Nat.le_refl _
 | _::_,0=>Nat.le_succ _
 | _::r,i+1=>Nat.succ_le_succ (zlj r i)
section
variable {X:Cx} {pins:List (Addr × Obj)} {σ:St} {H:Hp} {s:Shared} {l b:Addr} {xs ys zs:List V}
theorem Inv.lset {its its':List Value} {n:Nat} {f:Array Value→Array Value} {t':Nat} (I:Inv X pins σ H s) (hH:H l=some (.lst xs))
  (e : s.heap.get? l = some { cls := .type "list", data := .seq its.toArray n }) (hf : f its.toArray = its'.toArray) (hv : Vals ys its') (hz : ys.length ≤ sizeLine) :
  Inv X pins σ (upd H l (.lst ys)) {s with heap:=s.heap.update l (Obj.mapSeq f),toks:=t'}:=by
 have q:=PySem.IsL.update e f
 rw[hf] at q
 refine I.write (x:=l) (e:=l) (by rw[hH];exact trivial) (.inl rfl) (fun b' u hb hu=>(Heap.get?_update_other s.heap (Obj.mapSeq f) (Ne.symm hb)).trans hu) ⟨_,q⟩ ?_
 exact ⟨hz,its',_,hv,q⟩
theorem Inv.lnew {its:List Value} {t':Nat} (I:Inv X pins σ H s) (hv:Vals ys its) (hz:ys.length≤sizeLine) :
  Inv X pins σ (upd H s.heap.objs.size (.lst ys)) { s with heap := s.heap.push { cls := .type "list", data := .seq its.toArray }, toks := t' } :=
 I.laid (fun _ _ q=>Heap.get?_push_of_some _ q) (Nat.le_refl _) ⟨hz,its,0,hv,Heap.get?_push_size _ rfl⟩
theorem Inv.fresh (I:Inv X pins σ H s):H s.heap.objs.size=none:=I.hok.fresh (Nat.le_refl _)
theorem Inv.lstM (I : Inv X pins σ H s) (hH : H l = some (.lst xs)) : xs.length ≤ sizeLine ∧ ∃ (its : List Value) (n : Nat), Vals xs its ∧ xs.length = its.length ∧ s.heap.get? l = some { cls := .type "list", data := .seq its.toArray n } := by
 obtain ⟨z,its,n,r,e⟩:=I.hok l _ hH
 exact ⟨z,its,n,r,r.length,e⟩
theorem notLongL {n:Nat} (h:n≤sizeLine):Builtin.List.listTooLong n=false:=by
 unfold Builtin.List.listTooLong
 exact decide_eq_false (by omega)
end
section
variable {X:Cx}
noncomputable def rAppend:V→List V→Hp→VK→Prop:=fun x vs H Q=>∃l xs y,x=.ref l∧vs=[y]∧H l=some (.lst xs)∧xs.length < sizeLine∧Q .non (upd H l (.lst (xs++[y])))
theorem zlg : MtM X "list.append" rAppend := by
 intro pins s σ H x vs v us Q I rx rv h
 obtain ⟨l,xs,y,rfl,rfl,hH,hz,q⟩:=h
 cases rx
 obtain ⟨u,rfl,ru⟩:=rv.one
 obtain ⟨z,its,n,r,hl,e⟩:=I.lstM hH
 refine call_meets F.slot_list_append ⟨_,e,rfl⟩ F.entry_list_append (F.args_list_append_2 _ _) (PySem.list_append l its.toArray n u (by rw[List.size_toArray];omega)) ⟨e,?_⟩
 refine ⟨.non,_,I.lset (its':=its++[u]) hH e (by simp) (r.append (.cons ru .nil)) ?_,rfl,q⟩
 rw[List.length_append,List.length_singleton]
 omega
noncomputable def rExtend:V→List V→Hp→VK→Prop:=fun x vs H Q=>∃l b xs zs,x=.ref l∧vs=[.ref b]∧H l=some (.lst xs)∧H b=some (.lst zs)∧xs.length+zs.length≤sizeLine∧Q .non (upd H l (.lst (xs++zs)))
theorem zqj : MtM X "list.extend" rExtend := by
 intro pins s σ H x vs v us Q I rx rv h
 obtain ⟨l,b,xs,zs,rfl,rfl,hH,hB,hz,q⟩:=h
 cases rx
 obtain ⟨u,rfl,ru⟩:=rv.one
 cases ru
 obtain ⟨z,its,n,r,hl,e⟩:=I.lstM hH
 obtain ⟨z2,its2,n2,r2,hl2,e2⟩:=I.lstM hB
 have hsz:its.toArray.size+its2.toArray.size≤sizeLine:=by rw[List.size_toArray,List.size_toArray];omega
 have hlong:¬ (!its.toArray.isEmpty && Builtin.List.listTooLong (its.toArray.size+its2.toArray.size))=true:=by
  rw[notLongL hsz,Bool.and_false]
  exact Bool.false_ne_true
 refine call_meets F.slot_list_extend ⟨_,e,rfl⟩ F.entry_list_extend (F.args_list_extend_2 _ _)
  (AutoSeq1.list_extend_list_list_0 l its.toArray n b its2.toArray n2 hlong (by rw[List.size_toArray];omega) (by omega)) ⟨e,e2,?_⟩
 refine ⟨.non,_,I.lset (its':=its++its2) hH e (by simp) (r.append r2) ?_,rfl,q⟩
 rw[List.length_append]
 omega
noncomputable def rPop:V→List V→Hp→VK→Prop:=fun x vs H Q=>∃l xs y,x=.ref l∧vs=[]∧H l=some (.lst xs)∧xs[xs.length - 1]?=some y∧Q y (upd H l (.lst xs.dropLast))
theorem mt_pop : MtM X "list.pop" rPop := by
 intro pins s σ H x vs v us Q I rx rv h
 obtain ⟨l,xs,y,rfl,rfl,hH,hy,q⟩:=h
 cases rx
 have hus:=rv.zero
 subst hus
 obtain ⟨z,its,n,r,hl,e⟩:=I.lstM hH
 obtain ⟨u,hu,ru⟩:=r.get hy
 have hy':its.toArray[its.toArray.size - 1]?=some u:=by
  show its.toArray[its.length - 1]?=some u
  rw[← Array.getElem?_toList,← hl]
  exact hu
 refine call_meets F.slot_list_pop ⟨_,e,rfl⟩ F.entry_list_pop (F.args_list_pop_1 _) (MeetsSeq.list_pop_last l its.toArray n u hy' (by rw[List.size_toArray];omega)) ⟨e,?_⟩
 refine ⟨y,_,I.lset (its':=its.dropLast) hH e ?_ r.dropLast ?_,ru,q⟩
 ·show its.toArray.eraseIdxIfInBounds (its.toArray.size - 1)=its.dropLast.toArray
  rw[List.size_toArray,List.eraseIdxIfInBounds_toArray,zoa]
 ·rw[List.length_dropLast]
  omega
noncomputable def rPopAt:V→List V→Hp→VK→Prop:=fun x vs H Q=>∃l xs i k y,x=.ref l∧vs=[.int i]∧H l=some (.lst xs)∧-(2 ^ 63)≤i∧i < 2 ^ 63∧seqIndex? i xs.length=some k∧xs[k]?=some y∧Q y (upd H l (.lst (xs.eraseIdx k)))
theorem zty : MtM X "list.pop" rPopAt := by
 intro pins s σ H x vs v us Q I rx rv h
 obtain ⟨l,xs,i,k,y,rfl,rfl,hH,h1,h2,hk,hy,q⟩:=h
 cases rx
 obtain ⟨u,rfl,ru⟩:=rv.one
 obtain ⟨t,rfl⟩:=ru
 obtain ⟨z,its,n,r,hl,e⟩:=I.lstM hH
 obtain ⟨w,hw,rw'⟩:=r.get hy
 refine call_meets F.slot_list_pop ⟨_,e,rfl⟩ F.entry_list_pop (F.args_list_pop_2 _ _)
  (MeetsSeq.list_pop_at l its.toArray n i t k w (fitsIndex_both h1 h2) (by rw[List.size_toArray,← hl];exact hk) (by rw[← Array.getElem?_toList];exact hw) (by rw[List.size_toArray];omega)) ⟨e,?_⟩
 refine ⟨y,_,I.lset (its':=its.eraseIdx k) hH e ?_ (r.eraseIdx k) ?_,rw',q⟩
 ·show its.toArray.eraseIdxIfInBounds k=(its.eraseIdx k).toArray
  rw[List.eraseIdxIfInBounds_toArray]
 ·have:=zlj xs k
  omega
noncomputable def rCat:R2:=fun x y H Q=>∃l b xs zs,x=.ref l∧y=.ref b∧H l=some (.lst xs)∧H b=some (.lst zs)∧xs.length+zs.length≤sizeLine∧∀p,H p=none→Q (.ref p) (upd H p (.lst (xs++zs)))
theorem op_cat:OpR X (binaryOp .Add) rCat:=by
 intro pins s σ H x y v u Q I rx ry h
 obtain ⟨l,b,xs,zs,rfl,rfl,hH,hB,hz,q⟩:=h
 cases rx
 cases ry
 obtain ⟨z,its,n,r,hl,e⟩:=I.lstM hH
 obtain ⟨z2,its2,n2,r2,hl2,e2⟩:=I.lstM hB
 refine PySem.P.add_list e e2 ?_ (by rw[List.size_toArray,List.size_toArray];omega)
 have ea:its.toArray++its2.toArray=(its++its2).toArray:=by simp
 rw[ea]
 exact ⟨.ref _,_,I.lnew (t':=s.toks) (r.append r2) (by rw[List.length_append];omega),rfl,q _ I.fresh⟩
end
section
variable {prog:Program} {w:World} {A:Around} {E:Value→Shared→Prop} {s:Shared}
end
section
variable {X:Cx}
end
end L2
namespace L2
open PySem PySem.Spec PyProof.Rows
section
variable {κ:Type} [DecidableEq κ]
noncomputable def valV (kvs:List (κ × V)) (k:κ):Option V:=(kvs.find? fun kv=>decide (kv.1=k)).map (·.2)
noncomputable def putK (kvs:List (κ × V)) (k:κ) (v:V):List (κ × V) :=
 if (kvs.any fun kv=>decide (kv.1=k))=true then kvs.map (fun kv=>if kv.1=k then (kv.1,v) else kv) else kvs++[(k,v)]
noncomputable def dropK (kvs:List (κ × V)) (k:κ):List (κ × V):=kvs.filter fun kv=>decide (kv.1≠k)
theorem zhs {p:κ × V} {r:List (κ × V)} {k:κ} (e:p.1=k):valV (p::r) k=some p.2:=by simp[valV,List.find?_cons,e]
theorem zht {p:κ × V} {r:List (κ × V)} {k:κ} (e:¬ p.1=k):valV (p::r) k=valV r k:=by simp[valV,List.find?_cons,e]
theorem zmv (k:κ):∀kvs:List (κ × V),(kvs.any fun kv=>decide (kv.1=k))=(valV kvs k).isSome
 | []=>rfl
 | p::r=>by
  rw[List.any_cons]
  by_cases e:p.1=k
  ·simp only[zhs e,decide_eq_true e,Bool.true_or,Option.isSome_some]
  ·rw[zht e,decide_eq_false e,Bool.false_or];exact zmv k r
theorem zhn (kvs:List (κ × V)) (k:κ) (v:V):(putK kvs k v).length≤kvs.length+1:=by
 unfold putK
 split
 ·rw[List.length_map];omega
 ·rw[List.length_append,List.length_cons,List.length_nil];omega
theorem RelO.isSome_eq {o:Option V} {u:Option Value} (r:RelO o u):o.isSome=u.isSome:=by
 cases o with
 | none=>cases u with
  | none=>rfl
  | some _=>exact (show False from r).elim
 | some _=>cases u with
  | none=>exact (show False from r).elim
  | some _=>rfl
theorem RelO.getD {o:Option V} {u:Option Value} {d:V} {d':Value} (r:RelO o u) (rd:RelV d d'):RelV (o.getD d) (u.getD d'):=by
 cases o with
 | none=>cases u with
  | none=>exact rd
  | some _=>exact (show False from r).elim
 | some _=>cases u with
  | none=>exact (show False from r).elim
  | some _=>exact r
theorem KV.val {kvs:List (κ × V)} {vs:List (κ × Value)} (r:KV kvs vs) (k:κ):RelO (valV kvs k) (valueAt vs k):=by
 unfold KV at r
 induction r with
 | nil=>exact True.intro
 | @cons p q ps qs h t ih =>
  obtain ⟨h1,h2⟩:=h
  by_cases e:p.1=k
  ·have e':q.1=k:=h1.symm.trans e
   have b:valueAt (q::qs) k=some q.2:=by simp[valueAt,List.find?_cons,e']
   rw[zhs e,b];exact h2
  ·have e':¬ q.1=k:=fun z=>e (h1.trans z)
   have b:valueAt (q::qs) k=valueAt qs k:=by simp[valueAt,List.find?_cons,e']
   rw[zht e,b];exact ih
theorem KV.any {kvs:List (κ × V)} {vs:List (κ × Value)} (r:KV kvs vs) (k:κ):(kvs.any fun kv=>decide (kv.1=k))=vs.any fun kv=>decide (kv.1=k):=by
 unfold KV at r
 induction r with
 | nil=>rfl
 | cons h t ih=>rw[List.any_cons,List.any_cons,ih,h.1]
theorem KV.repl {kvs:List (κ × V)} {vs:List (κ × Value)} (r:KV kvs vs) (k:κ) {y:V} {u:Value} (ry:RelV y u) :
  KV (kvs.map fun kv=>if kv.1=k then (kv.1,y) else kv) (vs.map fun kv=>if kv.1=k then (kv.1,u) else kv):=by
 unfold KV at r ⊢
 induction r with
 | nil=>exact .nil
 | @cons p q ps qs h t ih =>
  rw[List.map_cons,List.map_cons]
  refine .cons ?_ ih
  obtain ⟨h1,h2⟩:=h
  by_cases e:p.1=k
  ·rw[if_pos e,if_pos (h1.symm.trans e)];exact ⟨h1,ry⟩
  ·rw[if_neg e,if_neg (fun z=>e (h1.trans z))];exact ⟨h1,h2⟩
theorem KV.put {kvs:List (κ × V)} {vs:List (κ × Value)} (r:KV kvs vs) (k:κ) {y:V} {u:Value} (ry:RelV y u):KV (putK kvs k y) (stored vs k u):=by
 unfold putK stored
 rw[r.any k]
 by_cases e:(vs.any fun kv=>decide (kv.1=k))=true
 ·rw[if_pos e,if_pos e];exact r.repl k ry
 ·rw[if_neg e,if_neg e];exact Paired.snoc r ⟨rfl,ry⟩
theorem KV.length {kvs:List (κ × V)} {vs:List (κ × Value)} (r:KV kvs vs):kvs.length=vs.length:=Paired.length r
end
theorem kV_is {P:Program} {w:World} {k:Key} {u:Value} (r:RelV (kV k) u):(mixKind P w).is k u=true:=by
 cases k with
 | inl i=>obtain ⟨t,e⟩:=(show ∃t,u=Value.int i t from r);subst e;exact zmn P w i t
 | inr x=>obtain ⟨t,e⟩:=(show ∃t,u=Value.str x t from r);subst e;exact zmm P w x t
theorem zlm {P:Program} {w:World}:∀{ks:List Key} {us:List Value},Vals (ks.map kV) us→ItemsAre (mixKind P w) ks us
 | [],_,r=>by rw[List.map_nil] at r;cases r;exact .nil
 | k::ks,_,r=>by
  rw[List.map_cons] at r
  cases r with
  | cons h t=>exact .cons (kV_is h) (zlm t)
noncomputable abbrev KT (H:Hp):List (List Key × V)→List (List Key × Addr × Value)→Prop:=Paired fun p q=>p.1=q.1∧H q.2.1=some (.tup (p.1.map kV))∧RelV p.2 q.2.2
theorem KT.val {H:Hp} {kvs:List (List Key × V)} {xs:List (List Key × Addr × Value)} (r:KT H kvs xs) (k:List Key):RelO (valV kvs k) ((atKey xs k).map (·.2)):=by
 induction r with
 | nil=>exact True.intro
 | @cons p q ps qs h t ih =>
  obtain ⟨h1,_,h2⟩:=h
  by_cases e:p.1=k
  ·have e':q.1=k:=h1.symm.trans e
   have b:atKey (q::qs) k=some q.2:=by simp[atKey,List.find?_cons,e']
   rw[zhs e,b];exact h2
  ·have e':¬ q.1=k:=fun z=>e (h1.trans z)
   have b:atKey (q::qs) k=atKey qs k:=by simp[atKey,List.find?_cons,e']
   rw[zht e,b];exact ih
theorem KT.repl {H:Hp} {kvs:List (List Key × V)} {xs:List (List Key × Addr × Value)} (r:KT H kvs xs) (k:List Key) {y:V} {u:Value} (ry:RelV y u) :
  KT H (kvs.map fun kv=>if kv.1=k then (kv.1,y) else kv) (xs.map (putAt k u)):=by
 induction r with
 | nil=>exact .nil
 | @cons p q ps qs h t ih =>
  rw[List.map_cons,List.map_cons]
  refine .cons ?_ ih
  obtain ⟨h1,h2,h3⟩:=h
  unfold putAt
  by_cases e:p.1=k
  ·rw[if_pos e,if_pos (h1.symm.trans e)];exact ⟨h1,h2,ry⟩
  ·rw[if_neg e,if_neg (fun z=>e (h1.trans z))];exact ⟨h1,h2,h3⟩
theorem KT.put {H:Hp} {kvs:List (List Key × V)} {xs:List (List Key × Addr × Value)} (r:KT H kvs xs) (k:List Key) {b:Addr} {y:V} {u:Value} (hb:H b=some (.tup (k.map kV))) (ry:RelV y u) :
  KT H (putK kvs k y) (storedH xs k b u):=by
 have e:(kvs.any fun kv=>decide (kv.1=k))=(atKey xs k).isSome:=by
  rw[zmv,(r.val k).isSome_eq,Option.isSome_map]
 unfold putK storedH
 rw[e]
 by_cases q:(atKey xs k).isSome=true
 ·rw[if_pos q,if_pos q];exact r.repl k ry
 ·rw[if_neg q,if_neg q];exact Paired.snoc r ⟨rfl,hb,ry⟩
theorem KT.keeps {H H':Hp} {kvs:List (List Key × V)} {xs:List (List Key × Addr × Value)} (r:KT H kvs xs) (ht:∀b ys,H b=some (.tup ys)→H' b=some (.tup ys)):KT H' kvs xs :=
 Paired.mapP r fun _ _ z=>⟨z.1,ht _ _ z.2.1,z.2.2⟩
section
variable {P:Program} {w:World} {H:Hp} {h:Heap} {a:Addr}
theorem rd_of {u:HO} (ok:HOk P w H h) (e:Rd H a u):ObjOk P w H h a u:=e.ok ok
theorem dk_rd {kvs:List (Key × V)} (ok:HOk P w H h) (e:Rd H a (.dK kvs)):kvs.length≤sizeLine∧(a == sysModules)=false∧∃vs,KV kvs vs∧h.DictOf (mixKind P w) a vs :=
 show ObjOk P w H h a (.dK kvs) from rd_of ok e
theorem dk_of {kvs:List (Key × V)} (ok:HOk P w H h) (e:H a=some (.dK kvs)):kvs.length≤sizeLine∧(a == sysModules)=false∧∃vs,KV kvs vs∧h.DictOf (mixKind P w) a vs:=dk_rd ok (.inl e)
theorem key_of {ks:List Key} (ok:HOk P w H h) (e:H a=some (.tup (ks.map kV))):(tupleKind (mixKind P w)).is h ks a:=by
 obtain ⟨_,its,r,o,h1,h2,n,h3⟩:=(show ObjOk P w H h a (.tup (ks.map kV)) from ok a _ e)
 exact ⟨o,its.toArray,n,h1,h2,h3,by simpa using zlm r⟩
theorem dt_rd {kvs:List (List Key × V)} (ok:HOk P w H h) (e:Rd H a (.dT kvs)):kvs.length≤sizeLine∧(a == sysModules)=false ∧
  ∃xs,KT H kvs xs∧h.DictOfH (tupleKind (mixKind P w)) a xs:=by
 obtain ⟨z,y,xs,r,o,es,ep,h1,h2,h3,h4,h5⟩:=(show ObjOk P w H h a (.dT kvs) from rd_of ok e)
 refine ⟨z,y,xs,r,o,es,ep,h1,h2,h3,h4,fun x hx=>?_,h5⟩
 have all:∀{l:List (List Key × V)} {m:List (List Key × Addr × Value)},KT H l m→∀x∈m,(tupleKind (mixKind P w)).is h x.1 x.2.1:=by
  intro l m q
  induction q with
  | nil=>intro x hx;exact nomatch hx
  | @cons p q ps qs hq t ih =>
   intro x hx
   rcases List.mem_cons.mp hx with e | hx
   ·subst e
    exact key_of ok (by rw[← hq.1];exact hq.2.1)
   ·exact ih x hx
 exact all r x hx
theorem dt_of {kvs:List (List Key × V)} (ok:HOk P w H h) (e:H a=some (.dT kvs)):kvs.length≤sizeLine∧(a == sysModules)=false ∧
 ∃xs,KT H kvs xs∧h.DictOfH (tupleKind (mixKind P w)) a xs:=dt_rd ok (.inl e)
end
noncomputable def DGet (H:Hp) (a:Addr) (y:V) (r:Option V):Prop :=
 (∃kvs k,Rd H a (.dK kvs)∧y=kV k∧r=valV kvs k)∨∃kvs k b,Rd H a (.dT kvs)∧y=.ref b∧H b=some (.tup (k.map kV))∧r=valV kvs k
noncomputable def DPut (H:Hp) (a:Addr) (y v:V) (H':Hp):Prop :=
 (∃kvs k,H a=some (.dK kvs)∧y=kV k∧kvs.length < sizeLine∧H'=upd H a (.dK (putK kvs k v))) ∨
 ∃kvs k b,H a=some (.dT kvs)∧y=.ref b∧H b=some (.tup (k.map kV))∧kvs.length < sizeLine∧H'=upd H a (.dT (putK kvs k v))
theorem DPut.t {H:Hp} {a b:Addr} {kvs:List (List Key × V)} {k:List Key} {v:V} (e:H a=some (.dT kvs)) (eb:H b=some (.tup (k.map kV))) (hl:kvs.length < sizeLine) :
 DPut H a (.ref b) v (upd H a (.dT (putK kvs k v))):=.inr ⟨kvs,k,b,e,rfl,eb,hl,rfl⟩
section
variable {X:Cx} {pins:List (Addr × Obj)} {σ:St} {H:Hp} {s:Shared} {a:Addr} {y v:V} {u r:Value} {o:Option V} {A:Around} {E:Value→Shared→Prop}
theorem Inv.big (I:Inv X pins σ H s):sysModules < s.heap.objs.size:=by
 have h:mainGlobals < s.heap.objs.size:=(I.mod.glob.keeps I.bk).lt
 exact Nat.lt_trans (by decide) h
theorem zre {Q:Value→Shared→Prop} (hu:A.units+1 < cLine) (I:Inv X pins σ H s) (g:DGet H a y (some v)) (ry:RelV y u) (h:∀w' s',Inv X pins σ H s'→RelV v w'→Q w' s') :
  wpAny (model X.prog X.w) A (getItem (.ref a) u) Q E s:=by
 rcases g with ⟨kvs,k,e,ey,l⟩ | ⟨kvs,k,b,e,ey,eb,l⟩
 ·subst ey
  obtain ⟨z,hd,vs,rel,dd⟩:=dk_rd I.hok e
  obtain ⟨w',hw,rw'⟩:=RelO.some_of (v:=v) (o:=valueAt vs k) (by rw[l];exact rel.val k)
  exact wpAny_getItem_of (kV_is ry) dd.mapOf hw (h w' _ (I.tok _) rw')
 ·subst ey
  cases (show u=Value.ref b from ry)
  obtain ⟨z,hd,xs,rel,dd⟩:=dt_rd I.hok e
  obtain ⟨w',hw,rw'⟩:=RelO.some_of (v:=v) (o:=(atKey xs k).map (·.2)) (by rw[l];exact rel.val k)
  obtain ⟨p,hp,hp2⟩:=Option.map_eq_some_iff.mp hw
  refine wpAny_getItem_heap (tupleKind_room_in1 hu) (key_of I.hok eb) dd hp ?_
  rw[hp2]
  exact h w' _ (I.tok _) rw'
theorem d_in {Q:Value→Shared→Prop} (hu:A.units+1 < cLine) (I:Inv X pins σ H s) (g:DGet H a y o) (ry:RelV y u) (h:∀s',Inv X pins σ H s'→Q (.bool o.isSome) s') :
  wpAny (model X.prog X.w) A (compareOp .In u (.ref a)) Q E s:=by
 rcases g with ⟨kvs,k,e,ey,l⟩ | ⟨kvs,k,b,e,ey,eb,l⟩
 ·subst ey
  obtain ⟨z,hd,vs,rel,dd⟩:=dk_rd I.hok e
  refine wpAny_in_of (kV_is ry) hd dd.mapOf ?_
  rw[← (rel.val k).isSome_eq,← l]
  exact h _ (I.tok _)
 ·subst ey
  cases (show u=Value.ref b from ry)
  obtain ⟨z,hd,xs,rel,dd⟩:=dt_rd I.hok e
  refine wpAny_in_heap (tupleKind_room_in1 hu) (key_of I.hok eb) hd dd ?_
  have q:=(rel.val k).isSome_eq
  rw[Option.isSome_map] at q
  rw[← q,← l]
  exact h _ (I.tok _)
theorem zon {h':Heap} {t':Nat} {ob:HO} (I:Inv X pins σ H s) (mu:Mut (H a)) (hs:Heap.SameBut a s.heap h') (he:∃q,h'.get? a=some q) (new:ObjOk X.prog X.w (upd H a ob) h' a ob) :
  Inv X pins σ (upd H a ob) {s with heap:=h',toks:=t'} :=
 I.write (x:=a) (e:=a) mu (.inl rfl) (fun b q hb z=>(hs.2 b hb).trans z) he new
theorem dk_new {P:Program} {w:World} {H':Hp} {h':Heap} {kvs:List (Key × V)} {vs:List (Key × Value)} (z:kvs.length≤sizeLine) (hd:(a == sysModules)=false) (rel:KV kvs vs) (dd:h'.DictOf (mixKind P w) a vs) :
 ObjOk P w H' h' a (.dK kvs):=⟨z,hd,vs,rel,dd⟩
theorem zrd {H':Hp} {Q:Unit→Shared→Prop} (hu:A.units+1 < cLine) (I:Inv X pins σ H s) (g:DPut H a y v H') (ry:RelV y u) (rv:RelV v r) (h:∀s',Inv X pins σ H' s'→Q () s') :
  wpAny (model X.prog X.w) A (setItem (.ref a) u r) Q E s:=by
 rcases g with ⟨kvs,k,e,ey,l,eH⟩ | ⟨kvs,k,b,e,ey,eb,l,eH⟩
 ·subst ey eH
  obtain ⟨z,hd,vs,rel,dd⟩:=dk_of I.hok e
  have hz:vs.length≤sizeLine:=by rw[← rel.length];exact z
  have hl:(putK kvs k v).length≤sizeLine:=by have:=zhn kvs k v;omega
  refine wpAny_setItem_pairs (hsz:=hz) (kV_is ry) dd fun h' dd' hs=>h _ ?_
  have he:∃q,h'.get? a=some q:=let ⟨q,_,_,hq,_⟩:=dd';⟨q,hq⟩
  exact zon I (by rw[e];exact True.intro) hs he (dk_new hl hd (rel.put k rv) dd')
 ·subst ey eH
  cases (show u=Value.ref b from ry)
  obtain ⟨z,hd,xs,rel,dd⟩:=dt_of I.hok e
  have hz:xs.length≤sizeLine:=by rw[← Paired.length rel];exact z
  have hl:(putK kvs k v).length≤sizeLine:=by have:=zhn kvs k v;omega
  refine wpAny_setItem_heap (hsz:=hz) (tupleKind_room_in1 hu) (key_of I.hok eb) dd fun h' dd' hs=>h _ ?_
  obtain ⟨q,es,ep,hq,h2,h3,h4,_,h5⟩:=dd'
  refine zon I (by rw[e];exact True.intro) hs ⟨q,hq⟩ ⟨hl,hd,_,(rel.put k eb rv).keeps fun c ys ec=>?_,q,es,ep,hq,h2,h3,h4,h5⟩
  rw[upd_ne (ne_of ec e (fun z=>nomatch z))]
  exact ec
end
section
variable {X:Cx} {pins:List (Addr × Obj)} {σ:St} {H:Hp} {s:Shared} {a:Addr} {kvs:List (Key × V)} {k:Key} {u:Value} {A:Around} {E:Value→Shared→Prop}
end
noncomputable def NoSl (i:Expr):Prop:=∀ov iv,subscripted i false ov iv=operate [ov,iv] (getItem ov iv)
theorem zvm {prog:Program} {w:World} {A:Around} {E:Value→Shared→Prop} {s:Shared} {env:Env} {value slice:Expr} {pos:Pos} {T id:String} {Q:Value→Shared→Prop}
  (hl : typeLookup (.type T) "__getitem__" = pure (some (.builtin id))) (hs : NoSl slice)
  (h:wpAny (model prog w) A (eval value env) (fun o s₁=>wpAny (model prog w) A (eval slice env) (fun i s₂=>s₂.TypeIs o T∧wpAny (model prog w) A (getItem o i) Q E s₂) E s₁) E s) :
  wpAny (model prog w) A (eval (.Subscript value slice pos) env) Q E s:=by
 refine Subscript_ (wpAny_mono h (fun o s₁ h₁=>wpAny_mono h₁ (fun i s₂ h₂=>?_) fun _ _ x=>x) fun _ _ x=>x)
 obtain ⟨hT,h₂⟩:=h₂
 unfold subscriptTail
 refine wpAny_bind ?_
 rw[getitemInPython_of_ne hT.not_modules]
 refine wpAny_bind (wpAny_specialOf hT hl ?_)
 have fin:wpAny (model prog w) A (subscripted slice false o i) (fun r s₃=>wpAny (model prog w) A (letTemporaryGo value o r >>= fun _=>pure r) Q E s₃) E s₂:=by
  rw[hs o i]
  exact wpAny_operating (wpAny_mono h₂ (fun r s₃ h₃=>wpAny_bind (wpAny_letTemporaryGo (wpAny_pure h₃))) fun _ _ x=>x)
 first
  | exact wpAny_pure (wpAny_bind fin)
  | exact wpAny_bind (wpAny_pure (wpAny_bind fin))
  | exact wpAny_bind fin
theorem zmr {X : Cx} {pins : List (Addr × Obj)} {σ : St} {H : Hp} {s : Shared} {a : Addr} {y : V} {o : Option V} (I : Inv X pins σ H s) (g : DGet H a y o) : s.TypeIs (.ref a) "dict" := by
 rcases g with ⟨kvs,k,e,_,_⟩ | ⟨kvs,k,b,e,_,_,_⟩
 ·obtain ⟨_,_,vs,_,dd⟩:=dk_rd I.hok e
  exact dd.typeIs
 ·obtain ⟨_,_,xs,_,dd⟩:=dt_rd I.hok e
  exact dd.typeIs
noncomputable def tDGet (td ty:TE):TE:=fun σ H Q=>td σ H fun x H1=>ty σ H1 fun y H2=>∃a v,x=.ref a∧DGet H2 a y (some v)∧Q v H2
noncomputable def tDIn (ty td:TE):TE:=fun σ H Q=>ty σ H fun y H1=>td σ H1 fun x H2=>∃a o,x=.ref a∧DGet H2 a y o∧Q (.bl o.isSome) H2
noncomputable def sDPut (td ty tv:TE):TS:=fun D σ H=>tv σ H fun v H1=>td σ H1 fun x H2=>ty σ H2 fun y H3=>∃a H4,x=.ref a∧DPut H3 a y v H4∧D.nx σ H4
section
variable {X:Cx} {o i e value:Expr} {pos pos' tpos:Pos} {td ty tv:TE}
theorem zwi (hu:X.A.units+1 < cLine) (ho:PE X o td) (hi:PE X i ty) (hs:NoSl i):PE X (.Subscript o i pos) (tDGet td ty):=by
 intro pins s σ H Q I h
 refine zvm PySem.F.slot_dict_getitem.lookup hs (thn (ho pins s σ H _ I h) fun u s1 ⟨x,H1,I1,rx,q1⟩=>thn (hi pins s1 σ H1 _ I1 q1) fun iv s2 hq0=>?_)
 obtain ⟨y,H2,I2,ry,a,v,ex,g,q2⟩:=hq0
 subst ex
 obtain rfl:u=Value.ref a:=rx
 exact ⟨zmr I2 g,zre hu I2 g ry fun w' s3 I3 rw'=>⟨v,H2,I3,rw',q2⟩⟩
theorem pc_din (hu:X.A.units+1 < cLine) (hi:PE X i ty) (ho:PE X o td):PC X .In i o (tDIn ty td):=by
 intro pins s σ H Q I h
 refine thn (hi pins s σ H _ I h) fun iv s1 ⟨y,H1,I1,ry,q1⟩=>thn (ho pins s1 σ H1 _ I1 q1) fun u s2 hq0=>?_
 obtain ⟨x,H2,I2,rx,a,ov,ex,g,q2⟩:=hq0
 subst ex
 obtain rfl:u=Value.ref a:=rx
 exact d_in hu I2 g ry fun s3 I3=>⟨.bl ov.isSome,H2,I3,rfl,q2⟩
theorem zvx (hu:X.A.units+1 < cLine) (ho:PE X o td) (hi:PE X i ty) (hv:PE X value tv) (hs:swapsWith value (some (.Subscript o i pos')) pos.line X.env=pure false) :
  PS X (.Assign [.Subscript o i pos'] value pos) (sDPut td ty tv):=by
 intro pins s σ H D I h
 refine wpAny_Assign_Subscript (thn (hv pins s σ H _ I h) fun r s1 ⟨v,H1,I1,rv,q1⟩=>thn (ho pins s1 σ H1 _ I1 q1) fun u s2 ⟨x,H2,I2,rx,q2⟩=>thn (hi pins s2 σ H2 _ I2 q2) fun iv s3 hq0=>?_) hs
 obtain ⟨y,H3,I3,ry,a,H4,ex,g,q3⟩:=hq0
 subst ex
 obtain rfl:u=Value.ref a:=rx
 exact zrd hu I3 g ry rv fun s4 I4=>⟨σ,H4,I4,q3⟩
end
theorem zul {P : Program} {w : World} {H : Hp} (h : Heap) (hb : sysModules < h.objs.size) : ObjOk P w H (h.push { cls := .type "dict", data := .dict #[] }) h.objs.size (.dT []) :=
 ⟨Nat.zero_le _,beq_eq_false_iff_ne.mpr (Ne.symm (Nat.ne_of_lt hb)),[],.nil,_,#[],0,Heap.get?_push_size _ rfl,⟨rfl,rfl,rfl⟩,rfl,rfl,List.nodup_nil⟩
noncomputable def tDNewT:TE:=fun _ H Q=>∀p,H p=none→Q (.ref p) (upd H p (.dT []))
section
variable {X:Cx} {pos:Pos}
theorem ztm:PE X (.Dict [] [] pos) tDNewT:=fun pins s σ H Q I h =>
 wpAny_Dict_empty ⟨.ref s.heap.objs.size,_,I.laid (a:=s.heap.objs.size) (o:=.dT []) (t':=s.toks) (fun _ _ q=>Heap.get?_push_of_some _ q) (Nat.le_refl _) (zul s.heap I.big),rfl,h _ (I.hok.fresh (Nat.le_refl _))⟩
end
structure M1 (X:Cx) (o:Expr) (m:Str) (apos:Pos) (e:Expr) (cpos:Pos):Prop where
 base:attributeBase o m X.env (eval o X.env)=eval o X.env
 few:((backTo cpos (starEach [e] X.env)).all (fun x=>!x.1) && (backToKw cpos (keywordEach [] X.env)).all (fun x=>x.1.isSome)
  && decide (([e]:List Expr).length+([]:List Keyword).length+(if ([]:List Keyword).isEmpty then 0 else 1) < 30))=true
 line:(apos.endLine == cpos.line)=true
 trees:backTo cpos (starEach [e] X.env)=[(false,eval e X.env)]
structure M2 (X:Cx) (o:Expr) (m:Str) (apos:Pos) (e f:Expr) (cpos:Pos):Prop where
 base:attributeBase o m X.env (eval o X.env)=eval o X.env
 few:((backTo cpos (starEach [e,f] X.env)).all (fun x=>!x.1) && (backToKw cpos (keywordEach [] X.env)).all (fun x=>x.1.isSome)
  && decide (([e,f]:List Expr).length+([]:List Keyword).length+(if ([]:List Keyword).isEmpty then 0 else 1) < 30))=true
 line:(apos.endLine == cpos.line)=true
 trees:backTo cpos (starEach [e,f] X.env)=[(false,eval e X.env),(false,eval f X.env)]
noncomputable def IsD (H:Hp) (a:Addr):Prop:=(∃kvs,Rd H a (.dK kvs))∨∃kvs,Rd H a (.dT kvs)
theorem isD_at {X:Cx} {pins:List (Addr × Obj)} {σ:St} {H:Hp} {s:Shared} {a:Addr} (I:Inv X pins σ H s) (d:IsD H a) :
  s.TypeIs (.ref a) "dict" ∧ (∀ b, Value.ref a = .ref b → ∃ ob, s.heap.get? b = some ob ∧ ob.dict = none) ∧ (a == sysModules) = false := by
 rcases d with ⟨kvs,e⟩ | ⟨kvs,e⟩
 ·obtain ⟨_,hd,vs,_,dd⟩:=dk_rd I.hok e
  refine ⟨dd.typeIs,fun b q=>?_,hd⟩
  cases q
  obtain ⟨ob,_,_,h1,h2,_⟩:=dd
  exact ⟨ob,h1,h2.2.1⟩
 ·obtain ⟨_,hd,xs,_,dd⟩:=dt_rd I.hok e
  refine ⟨dd.typeIs,fun b q=>?_,hd⟩
  cases q
  obtain ⟨ob,_,_,h1,h2,_⟩:=dd
  exact ⟨ob,h1,h2.2.1⟩
section
variable {X:Cx} {pins:List (Addr × Obj)} {σ:St} {H:Hp} {s:Shared} {a:Addr} {y d:V} {u r:Value} {o:Option V} {A:Around} {E:Value→Shared→Prop}
theorem d_get2 {Q:Value→Shared→Prop} (hu:A.units+1 < cLine) (I:Inv X pins σ H s) (g:DGet H a y o) (ry:RelV y u) (rd:RelV d r) (h:∀w' s',Inv X pins σ H s'→RelV (o.getD d) w'→Q w' s') :
  wpAny (model X.prog X.w) A (call (.builtin "dict.get") [.ref a, u, r]) Q E s := by
 rcases g with ⟨kvs,k,e,ey,l⟩ | ⟨kvs,k,b,e,ey,eb,l⟩
 ·subst ey
  obtain ⟨z,hd,vs,rel,dd⟩:=dk_rd I.hok e
  refine call_meetsIn PySem.F.slot_dict_get dd.typeIs PySem.F.entry_dict_get (PySem.F.args_dict_get_3 _ _ _) (meets_dict_get_default (mixKind X.prog X.w) a (kV_is ry) hd r) ⟨_,dd.mapOf,h _ _ (I.tok _) ?_⟩
  rw[l]
  exact (rel.val k).getD rd
 ·subst ey
  cases (show u=Value.ref b from ry)
  obtain ⟨z,hd,xs,rel,dd⟩:=dt_rd I.hok e
  refine call_meetsIn PySem.F.slot_dict_get dd.typeIs PySem.F.entry_dict_get (PySem.F.args_dict_get_3 _ _ _) (meetsH_dict_get_default (tupleKind (mixKind X.prog X.w)) a b hd r) ⟨tupleKind_room_in1 hu,k,xs,key_of I.hok eb,dd,h _ _ (I.tok _) ?_⟩
  rw[l]
  exact (rel.val k).getD rd
end
noncomputable def tDGet2 (td ty tx:TE):TE:=fun σ H Q=>td σ H fun x H1=>∃a,x=.ref a∧IsD H1 a∧ty σ H1 fun y H2=>tx σ H2 fun z H3=>∃o,DGet H3 a y o∧Q (o.getD z) H3
section
variable {X:Cx} {o e f:Expr} {apos cpos:Pos} {td ty tx:TE}
theorem ztn (hu : X.A.units + 1 < cLine) (ho : PE X o td) (he : PE X e ty) (hf : PE X f tx) (m : M2 X o "get" apos e f cpos) : PE X (.Call (.Attribute o "get" apos) [e, f] [] cpos) (tDGet2 td ty tx) := by
 intro pins s σ H Q I h
 refine wpAny_Call_method m.base m.few m.line PySem.F.plainAttrs_dict PySem.F.slot_dict_get PySem.F.type_dict_get (thn (ho pins s σ H _ I h) fun u s1 hq0=>?_)
 obtain ⟨x,H1,I1,rx,a,ex,d,q1⟩:=hq0
 subst ex
 obtain rfl:u=Value.ref a:=rx
 obtain ⟨t1,t2,_⟩:=isD_at I1 d
 refine ⟨t1,t2,?_⟩
 rw[m.trees]
 refine Calls.callWith_builtin rfl (Calls.evalArgs_plain (Calls.spliced_cons (thn (he pins s1 σ H1 _ I1 q1) fun iv s2 ⟨y,H2,I2,ry,q2⟩ =>
  Calls.spliced_cons (thn (hf pins s2 σ H2 _ I2 q2) fun fv s3 ⟨z,H3,I3,rz,ov,g,q3⟩=>Calls.spliced_nil ?_))))
 exact d_get2 hu I3 g ry rz fun w' s4 I4 rw'=>⟨_,H3,I4,rw',q3⟩
end
section
variable {X:Cx} {pins:List (Addr × Obj)} {σ:St} {H:Hp} {s:Shared} {a:Addr} {kvs:List (Key × V)} {A:Around} {E:Value→Shared→Prop}
end
section
variable {X:Cx} {pins:List (Addr × Obj)} {σ:St} {H:Hp} {s:Shared} {a:Addr} {y:V} {u:Value} {A:Around} {E:Value→Shared→Prop}
end
end L2
namespace Att
open PySem PySem.W PySem.Calls PyProof.Rows
theorem zhc {P:Params} {h:Heap}:∀(ns:List Int) (vs:List Value),WellAll P h vs (ns.map WData.int)→IntsAre vs ns:=by
 intro ns
 induction ns with
 | nil =>
  intro vs w
  rw[List.map_nil] at w
  cases w
  exact .nil
 | cons n ns ih =>
  intro vs w
  rw[List.map_cons] at w
  cases w with
  | cons a b =>
   cases a
   exact .cons _ _ (ih _ b)
theorem zpt {l:OpenLaw} {n:Nat} (hn:l.most=some n) {P:Params} {h:Heap} {args:List WData} {vals:List Value}
  (hpre:l.row.toRowW.claim.pre args=true) (hwl:WellAll P h vals args) :
  ∃ a vs ns, vals = [Value.ref a] ∧ args = [WData.list (ns.map WData.int)] ∧ h.get? a = some { cls := .type "list", data := .seq vs.toArray } ∧ IntsAre vs ns ∧ ns.length ≤ n := by
 have hsh:WShape.hasAll [] args [.list .int]=true:=(pre_splitW hpre).1
 have hc:l.pre.holds [] {args:=args}=true:=(pre_splitW hpre).2
 obtain ⟨d,r,rfl,h1,h2⟩:=hasAllW_cons hsh
 obtain rfl:=hasAllW_nil h2
 obtain ⟨xs,rfl,h3⟩:=hasW_list h1
 obtain ⟨ns,rfl⟩:=items_int h3
 have hlen:ns.length≤n:=by
  unfold OpenLaw.pre at hc
  have h4:(WTm.not (.lt (.lit (.int (n:Int))) (.len (.arg 0)))).holds [] {args:=[.list (ns.map .int)]}=true:=by
   have h4:=(holds_andW hc).1
   rw[hn] at h4
   exact h4
  have h5:=condW_of h4 (w_not (w_lt w_lit (w_len_list (w_arg rfl))))
  rw[List.length_map] at h5
  refine Nat.le_of_not_lt fun q=>?_
  have q':(n:Int) < ((ns.length:Nat):Int):=by omega
  first
   | (rw[decide_eq_true q'] at h5;exact absurd h5 (by decide))
   | (simp at h5;omega)
 cases hwl with
 | cons w1 w2 =>
  cases w2
  cases w1 with
  | list ho hall=>exact ⟨_,_,ns,rfl,rfl,ho,zhc ns _ hall,hlen⟩
theorem zpy (l:OpenLaw) (args:List WData):l.row.toRowW.claim.post args (.bool true) args=true :=
 postW_of (r:=l.row.toRowW) (X:=(true == true))
  (show WShape.has [] (.bool true) .bool=true by first | rfl | decide | simp[WShape.has,WShape.arms,WShape.armsAll])
  (show (WTm.eq .res (.lit (.bool true))).value [] {args:=args,res:=some (.bool true),after:=args}=some (.bool (true == true)) from w_eq_bool (w_res rfl) w_lit) rfl
theorem attach_call {l:OpenLaw} {n:Nat} {q:Program} {loose:List Str} {XP:(Str→Option Value)→Heap→Prop} {YP:World→Heap→Prop} {d:DefRec}
  (hn:l.most=some n) (hdf:d.params.defaults=[])
  (call:∀(w:World) (s₀ s₁:Shared) (mg mb:Str→Option Value) (fa:Addr) (o:Obj) (pm cd doc:Value) (a:Addr) (vs:List Value) (ns:List Int),
   Ground q loose [] XP w s₀ mg mb s₁.heap→YP w s₁.heap →
   s₁.heap.get? fa=some o→o.data=.func (docDef d.name d.params d.body d.scope pm cd doc)→s₁.heap.CodeRec cd d.name→mg d.name=some (.ref fa) →
   s₁.heap.get? a = some { cls := .type "list", data := .seq vs.toArray } → IntsAre vs ns → ns.length ≤ n → s₁.gens = #[] →
   codeAny (model l.prog w) callerA (.call (.ref fa) ⟨[.ref a],[]⟩) (fun r s'=>r=.ok (.ret (.bool true))∧OldK s₁.heap s'.heap∧s'.os=s₁.os∧AllBare s'.gens) s₁) :
  WalkO q loose XP YP l.row.toRowW d [] (fun f vs=>PySem.call f vs):=by
 intro w s₀ s₁ mg mb G Y fa o pm cd doc dV kV ho hd hcd hD hmg hg args vals as hpre hlay hrd hwl hlo
 obtain rfl:dV=.none:=Dflts.none hD hdf
 obtain rfl:kV=.none:=Dflts.noKw hD
 obtain ⟨a,vs,ns,rfl,rfl,hobj,hints,hlen⟩:=zpt hn hpre hwl
 refine enter_call (codeAny_mono (call w s₀ s₁ mg mb fa o pm cd doc a vs ns G Y ho (fd_plain hd) hcd hmg hobj hints hlen hg) fun r s' hq=>?_)
 obtain ⟨rfl,h2,h3,h4⟩:=hq
 exact ⟨.inl ⟨.bool true,.bool true,[],rfl,fun _=>rfl,.bool true,zpy l _,fun _=>⟨List.Pairwise.nil,fun _ hm=>(nomatch hm)⟩⟩,h2,h3,h4⟩
section
variable {prog:Program} {w:World} {A:Around} {E:Value→Shared→Prop} {s:Shared} {K:Frag}
end
end Att
namespace L2
open PySem PySem.Spec PyProof.Rows
theorem zkt:∀{vs:List Value} {ns:List Int},IntsAre vs ns→Vals (ns.map V.int) vs
 | _,_,.nil=>.nil
 | _,_,.cons n t h=>.cons ⟨t,rfl⟩ (zkt h)
noncomputable def Only (H:Hp):Prop:=∀b,H b=none∨∃o xs,H b=some (.frz o (.lst xs))
theorem zue {P:Program} {w:World} {K:PySem.W.Frag} {mg mb:Str→Option Value} {CX:CXT} {k:Nat} {fa a:Addr} {fd:FuncData} {x:Str} {sp:Sp} {s₁:Shared} {vs:List Value} {ns:List Int}
  (KX : K.In s₁.heap) (hns : s₁.heap.Ns mainGlobals mg) (hb : s₁.heap.Ns builtinsNs mb) (hbb : ∀ x : Str, x ≠ "__name__" → mb x = bootBuiltins x) (hlim : s₁.heap.NoLimit) (hg : s₁.gens = #[])
  (ha : s₁.heap.get? a = some { cls := .type "list", data := .seq vs.toArray }) (hi : IntsAre vs ns) (hl : ns.length ≤ sizeLine) (hr : Room k callerA)
  (F:∀base:Heap,K.In base→base.Ns mainGlobals mg→FnOk P w K mg base CX k fa fd [x] sp) (hbind:∀(s:Shared) (u:Value),BindsTo s fd ⟨[u],[]⟩ [(x,u)])
  (hsp:∀H:Hp,Only H→SqL K H a (ns.map V.int)→sp [.ref a] H (fun v _=>v=.bl true) fun _ _ _=>False)
  (hCX:∀H e s',CX [] H s₁ (fun _ _ _=>False) e s'→False) :
  codeAny (model P w) callerA (.call (.ref fa) ⟨[.ref a],[]⟩) (fun r s'=>r=.ok (.ret (.bool true))∧OldK s₁.heap s'.heap∧s'.os=s₁.os∧AllBare s'.gens) s₁:=by
 have rv:=zkt hi
 have lenV:=hi.length
 have core:∀H:Hp,Only H→SqL K H a (ns.map V.int)→HOk P w H s₁.heap→(∀b,H b≠none→b=a)→(H a≠none→K.lookup a=none) →
   codeAny (model P w) callerA (.call (.ref fa) ⟨[.ref a],[]⟩) (fun r s'=>r=.ok (.ret (.bool true))∧OldK s₁.heap s'.heap∧s'.os=s₁.os∧AllBare s'.gens) s₁:=by
  intro H hO hS hok hA hK
  have base_of:∀{b:Addr} {o:Obj},s₁.heap.get? b=some o→H b=none→(hidT s₁.heap H).get? b=some o:=fun e n=>zuh e n
  have noA:∀{b:Addr} {o:Obj} {es:Array DictEntry} {ep:Nat},s₁.heap.get? b=some o→o.data=.dict es ep→H b=none:=fun {b o es ep} e d=>by
   cases q:H b with
   | none=>rfl
   | some u =>
    have e':b=a:=hA b (by rw[q];simp)
    subst e'
    rw[ha] at e;cases e
    have d':Data.seq vs.toArray _=Data.dict es ep:=d
    cases d'
  have nsK:∀{b:Addr} {m:Str→Option Value},s₁.heap.Ns b m→(hidT s₁.heap H).Ns b m:=fun {b m} ⟨o,es,ep,e,d,r⟩=>⟨o,es,ep,base_of e (noA e d),d,r⟩
  have hKb:K.In (hidT s₁.heap H):=fun b o e=>base_of (KX b o e) (by
   cases q:H b with
   | none=>rfl
   | some u =>
    have e':b=a:=hA b (by rw[q];simp)
    subst e'
    rw[hK (by rw[q];simp)] at e;cases e)
  have hM:Mod K mg (hidT s₁.heap H):=⟨hKb,nsK hns,⟨mb,nsK hb,hbb⟩,let ⟨mc,h1,h2⟩:=hlim;⟨mc,nsK h1,h2⟩⟩
  have e0:Env0 P w K mg (hidT s₁.heap H) callerA [] s₁ H:=⟨rfl,hM,fun b o e=>zwv e,Nat.le_of_eq (zqr _ _),trivial,fun b hb=>absurd (show b∈([]:List Addr) from hb) (by simp),hok,.of_eq hg⟩
  refine codeAny_mono ((F _ hKb (nsK hns)).run callerA [] s₁ H ⟨[.ref a],[]⟩ [.ref a] [.ref a] _ _ hr e0 (hbind s₁ (.ref a)) (.cons rfl .nil) (hsp H hO hS)) fun r s' h=>?_
  cases r with
  | error e=>exact (hCX H e s' h).elim
  | ok fl =>
   cases fl with
   | next=>exact False.elim h
   | brk=>exact False.elim h
   | cont=>exact False.elim h
   | ret u =>
    obtain ⟨v,H',os,bare,un,hok',r',q⟩:=h
    have q':v=.bl true:=q
    subst q'
    obtain rfl:u=Value.bool true:=r'
    refine ⟨rfl,OldK.of_keep fun b o e=>?_,os,bare⟩
    cases q:H b with
    | none=>exact un.keep b o e q (by intro z;exact absurd (show b∈([]:List Addr) from z) (by simp)) (by simp)
    | some u =>
     rcases hO b with z | ⟨ob,xs,z⟩
     ·rw[q] at z;cases z
     ·have z2:=un.frzs b ob _ z
      obtain ⟨e1,_⟩:=hok b _ z
      obtain ⟨e2,_⟩:=hok' b _ z2
      rw[e] at e1;cases e1
      exact e2
 cases hk:K.lookup a with
 | some o =>
  have e:=KX a o hk
  rw[ha] at e
  cases e
  refine core (fun _=>none) (fun _=>.inl rfl) (.inr ⟨_,vs.toArray,_,hk,rfl,rfl,rfl,by rw[List.size_toArray,lenV];exact hl,by simpa using rv⟩) (fun b u z=>by have z':(none:Option HO)=some u:=z;cases z') (fun b z=>absurd rfl z) fun z=>absurd rfl z
 | none =>
  refine core (fun b => if b = a then some (.frz { cls := .type "list", data := .seq vs.toArray } (.lst (ns.map V.int))) else none) (fun b => ?_) (.inl (.inr ⟨{ cls := .type "list", data := .seq vs.toArray }, if_pos rfl⟩)) (fun b u z => ?_) (fun b z => ?_) fun _ => hk
  ·by_cases hb:b=a
   ·exact .inr ⟨_,_,if_pos hb⟩
   ·exact .inl (if_neg hb)
  ·by_cases hb:b=a
   ·have z':=(if_pos hb).symm.trans z
    cases z'
    subst hb
    exact ⟨ha,by rw[List.length_map];exact hl,vs,_,rv,ha⟩
   ·have z':=(if_neg hb).symm.trans z
    cases z'
  ·by_cases hb:b=a
   ·exact hb
   ·exact absurd (if_neg hb) z
end L2
namespace L2
open PySem PySem.Spec PyProof.Rows
theorem zvi {l:PySem.W.OpenLaw} {n k:Nat} {q:Program} {loose:List Str} {XP:(Str→Option Value)→Heap→Prop} {YP:World→Heap→Prop} {d:DefRec} {K:Params→PySem.W.Frag} {CX:World→CXT} {sp:World→Sp} {x:Str}
  (hn:l.most=some n) (hn2:n≤sizeLine) (hdf:d.params.defaults=[]) (hr:Room k callerA)
  (hY:∀(w:World) (h:Heap),YP w h→(K w.params).In h)
  (F:∀(w:World) (mg:Str→Option Value) (fa:Addr) (h:Heap),(K w.params).In h→h.Ns mainGlobals mg→mg d.name=some (.ref fa) →
   ∃fd:FuncData,(∀(s:Shared) (u:Value),BindsTo s fd ⟨[u],[]⟩ [(x,u)]) ∧
    ∀base:Heap,(K w.params).In base→base.Ns mainGlobals mg→FnOk l.prog w (K w.params) mg base (CX w) k fa fd [x] (sp w))
  (hsp:∀(w:World) (H:Hp) (a:Addr) (ns:List Int),ns.length≤n→Only H→SqL (K w.params) H a (ns.map V.int)→sp w [.ref a] H (fun v _=>v=.bl true) fun _ _ _=>False)
  (hCX:∀(w:World) (H:Hp) (s:Shared) (e:Value) (s':Shared),CX w [] H s (fun _ _ _=>False) e s'→False) :
  PySem.W.WalkO q loose XP YP l.row.toRowW d [] (fun f vs=>PySem.call f vs):=by
 refine Att.attach_call hn hdf fun w s₀ s₁ mg mb fa o pm cd doc a vs ns G Y ho hd hcd hmg hobj hints hlen hg=>?_
 have KX:=hY w _ Y
 obtain ⟨fd,hb,hF⟩:=F w mg fa _ KX G.T.g hmg
 exact zue KX G.T.g G.T.b G.T.builtins G.T.nolimit hg hobj hints (Nat.le_trans hlen hn2) hr hF hb (fun H hO hS=>hsp w H a ns hlen hO hS) fun H e s'=>hCX w H s₁ e s'
end L2
/- THE LAST THEOREM (shape;LID,My.* are yours):
 My.Adr: a structure of the addresses that your layer names (classes,functions);My.Txt K t: a structure (Prop) of the equations over K;
 My.txt_mk : {K} {implicit addresses ..} (e1 : nsIn K mainGlobals "law" = some (some (.ref f))) (e2 : K.lookup f = some ⟨oc, od, .func (fnOf "law" "law" params body scope dV kV doc pm an cdv ct), sl⟩) (e3 : codeIn K cdv "law" = true) .. : ∃ t, My.Txt K t
(the tactic k_is has no namespace: write k_is) -/
namespace L2
open PySem PySem.Spec PyProof.Rows
noncomputable def defArgs (s:Stmt):Arguments:=match s with
 | .FunctionDef _ a _ _ _ _ _ _ _ _=>a
 | _=>{posonlyargs:=[],args:=[],vararg:=none,kwonlyargs:=[],kw_defaults:=[],kwarg:=none,defaults:=[]}
noncomputable def defBody (s:Stmt):List Stmt:=match s with
 | .FunctionDef _ _ b _ _ _ _ _ _ _=>b
 | _=>[]
noncomputable def defScope (s:Stmt):Scope:=match s with
 | .FunctionDef _ _ _ _ _ _ sc _ _ _=>sc
 | _=>{kind:=.function,names:=[],isGenerator:=false,isCoroutine:=false}
noncomputable abbrev CX0:CXT:=fun _ _ _ _ _ _=>False
noncomputable abbrev E0:XK:=fun _ _ _=>False
theorem pass0 {X:Cx}:Passes CX0 X E0:=fun _ _ _ _ _ _ _ h=>h.elim
structure Fun (K:PySem.W.Frag) (x qual:Str) (st:Stmt) (f:Addr) (fd:FuncData):Prop where
 ex:∃(oc:Value) (od:Option Addr) (kV doc pm:Value) (an:Option Addr) (cdv ct:Value) (osl:Array (Option Value)),
  fd=PySem.W.fnOf x qual (defArgs st) (defBody st) (defScope st) .none kV doc pm an cdv ct∧K.lookup f=some ⟨oc,od,.func fd,osl⟩∧PySem.W.codeIn K cdv qual=true
 kp:PySem.W.keepIn K (.ref f)=true
section
variable {P:Program} {w:World} {K:PySem.W.Frag} {mg:Str→Option Value} {base:Heap}
theorem Fun.ok {x qual:Str} {st:Stmt} {f:Addr} {fd:FuncData} {N ps:List Str} {k:Nat} {sp:Sp} (F:Fun K x qual st f fd) (S:FnScope N ps (defScope st)) (len:∀vs H Q E,sp vs H Q E→vs.length=ps.length)
  (hbody:∀(cdv:Value) (A:Around) (outer:List Env) (s:Shared) (H:Hp) (vs:List V) (Q:VK) (E:XK),Room k (A.deeper (envOfC qual (defScope st) s.heap.objs.size f cdv))→sp vs H Q E →
   ∃t,PSs (cxOf CX0 P w K mg base N qual (defScope st) f cdv A outer s H E).nox (defBody st) t∧t {nx:=fun _ H'=>Q .non H',rt:=Q} (start N vs) H):FnOk P w K mg base CX0 (k+1) f fd ps sp:=by
 obtain ⟨oc,od,kV,doc,pm,an,cdv,ct,osl,rfl,lk,hcd⟩:=F.ex
 refine fn_of lk hcd S len fun A outer s H vs Q E hr hsp=>?_
 obtain ⟨t,h,q⟩:=hbody cdv A outer s H vs Q E hr hsp
 exact ⟨t,h.nox,q⟩
theorem Fun.binds {x qual:Str} {st:Stmt} {f:Addr} {fd:FuncData} {ps:List Str} (F:Fun K x qual st f fd)
  (h:∀(kV doc pm:Value) (an:Option Addr) (cdv ct:Value) (us:List Value),us.length=ps.length→bindArgs (PySem.W.fnOf x qual (defArgs st) (defBody st) (defScope st) .none kV doc pm an cdv ct) ⟨us,[]⟩=pure (ps.zip us)):Binds K fd ps []:=by
 obtain ⟨oc,od,kV,doc,pm,an,cdv,ct,osl,rfl,lk,hcd⟩:=F.ex
 exact .all (h kV doc pm an cdv ct)
theorem fun_mk {x qual:Str} {st:Stmt} {f:Addr} {oc:Value} {od an:Option Addr} {osl:Array (Option Value)} {kV doc pm cdv ct:Value} (l:K.lookup f=some ⟨oc,od,.func (PySem.W.fnOf x qual (defArgs st) (defBody st) (defScope st) .none kV doc pm an cdv ct),osl⟩)
 (c:PySem.W.codeIn K cdv qual=true) (k:PySem.W.keepIn K (.ref f)=true):Fun K x qual st f (PySem.W.fnOf x qual (defArgs st) (defBody st) (defScope st) .none kV doc pm an cdv ct):=⟨⟨oc,od,kV,doc,pm,an,cdv,ct,osl,rfl,l,c⟩,k⟩
end
theorem hu_of {A:Around} {k:Nat} (hr:Room k A):A.units+1 < cLine:=Nat.lt_of_le_of_lt (Nat.add_le_add_left (by decide:1≤64) _) hr.units
section
variable {X:Cx}
theorem pv (i : Nat) {x : Str} {pos : Pos} (hN : X.N[i]? = some x := by rfl) (hv : Vis X.env.scope x := by first | exact Or.inl rfl | exact Or.inr (Or.inl rfl) | exact Or.inr (Or.inr rfl)) (hd : (x == ("__debug__" : Str)) = false := by decide)
 (hcd : (x == ("__classdict__" : Str)) = false := by decide) : PE X (.Name x pos) (tVar i) := pe_var hN hv hd hcd
end
theorem iteF {A B:Prop} (h:B):if false=true then A else B:=by
 rw[if_neg Bool.false_ne_true]
 exact h
theorem iteT {A B:Prop} (h:A):if true=true then A else B:=by
 rw[if_pos rfl]
 exact h
end L2
namespace L2
open PySem PySem.Spec PyProof.Rows
section
variable {X:Cx}
end
section
variable {κ:Type} [DecidableEq κ]
end
end L2
namespace L2
open PySem PySem.Spec PyProof.Rows
section
variable {P:Program} {w:World} {B:Around} {R:Result→Shared→Prop} {sh:Shared}
noncomputable abbrev NoX:Value→Shared→Prop:=fun _ _=>False
noncomputable abbrev testsOf (cs:List Expr) (ev:Env):Sem Bool :=
 forIn cs true fun d b=>if b=true then do let z ← isTrue d ev (eval d ev);pure (ForInStep.yield z) else pure (ForInStep.yield b)
noncomputable def CompStep (P:Program) (w:World) (B:Around) (tg x:Expr) (cs:List Expr) (ev:Env) (i l:Value) (K:Shared→Prop) (v:Value) (sa:Shared):Prop :=
 wpAny (model P w) B (letOwnedTupleGo tg i v) (fun _ sb=>wpAny (model P w) B (assign tg ev v) (fun _ sc=>wpAny (model P w) B (testsOf cs ev) (fun ok sd =>
  if ok = true then wpAny (model P w) B (eval x ev) (fun y se => wpAny (model P w) B (call (.builtin "list.append") [l, y]) (fun _ sf => K sf) NoX se) NoX sd else K sd) NoX sc) NoX sb) NoX sa
theorem zrh {tg it x:Expr} {cs:List Expr} {sc:Scope} {ps:Pos} {i l:Value} {ev:Env} (J:Nat→Shared→Prop)
  (go:∀k sk,J k sk→wpAny (model P w) B (pyNext i) (fun o sa=>match o with
   | none=>R (.ok .next) sa
   | some v=>CompStep P w B tg x cs ev i l (fun sf=>∃k',k' < k∧J k' sf) v sa) NoX sk)
  (k:Nat) (hJ:J k sh):codeAny (model P w) B (.compLoop (.ListComp x [⟨tg,it,cs,0⟩] sc ps) 0 i l ev) R sh:=by
 have none_:∀{E:Value→Shared→Prop} (e:Value) (z:Shared),NoX e z→E e z:=fun _ _ z=>z.elim
 refine codeAny_loop rfl J (fun k sk hk=>wpAny_noted (by
  rw[compTurn_list]
  refine wpAny_bind (wpAny_standAt (wpAny_bind (wpAny_mono (go k sk hk) (fun o sa ho=>?_) none_)))
  match o,ho with
  | none,ho=>exact wpAny_pure ho
  | some v,ho =>
   refine wpAny_bind (wpAny_mono ho (fun _ sb hb=>wpAny_bind (wpAny_mono hb (fun _ sc' hc=>wpAny_bind (wpAny_mono hc (fun ok sd hd=>?_) none_)) none_)) none_)
   match ok,hd with
   | false,hd=>exact wpAny_pure (And.intro rfl hd)
   | true,hd=>exact wpAny_bind (wpAny_bind (wpAny_mono hd (fun y se he=>wpAny_bind (wpAny_mono he (fun _ sf hf=>wpAny_pure (wpAny_pure (And.intro rfl hf))) none_)) none_)))) k hJ
end
theorem zkl {env:Env}:∀(names:List (Str × NameKind)) (acc:List (Str × Addr)),(∀y∈names,y.2=.free→∃c,env.cells.lookup y.1=some c)→(∀x c,acc.lookup x=some c→env.cells.lookup x=some c) →
  ∃cl:List (Str × Addr),(forIn names acc (fun x r=>if (x.2 == NameKind.free)=true then do let a ← cellOf env x.1;pure (ForInStep.yield ((x.1,a)::r)) else pure (ForInStep.yield r)):Sem (List (Str × Addr)))=pure cl ∧
   (∀x c,cl.lookup x=some c→env.cells.lookup x=some c)∧(∀x c,acc.lookup x=some c→∃c',cl.lookup x=some c')∧∀x,(x,NameKind.free)∈names→∃c,cl.lookup x=some c:=by
 intro names
 induction names with
 | nil=>intro acc _ ha;exact ⟨acc,rfl,ha,fun x c e=>⟨c,e⟩,fun x z=>(nomatch z)⟩
 | cons y r ih =>
  intro acc hf ha
  obtain ⟨n,k⟩:=y
  by_cases hk:k=.free
  ·subst hk
   obtain ⟨c,hc⟩:=hf (n,.free) List.mem_cons_self rfl
   obtain ⟨cl,e,h1,h2,h3⟩:=ih ((n,c)::acc) (fun y hy=>hf y (List.mem_cons_of_mem _ hy)) (fun x c' e=>by
    rw[List.lookup_cons] at e
    by_cases hx:x=n
    ·subst hx
     rw[beq_self_eq_true] at e
     cases e
     exact hc
    ·rw[beq_eq_false_iff_ne.mpr hx] at e
     exact ha x c' e)
   refine ⟨cl,?_,h1,fun x c' e'=>?_,fun x hx=>?_⟩
   ·rw[List.forIn_cons]
    simp only[beq_self_eq_true,ite_true]
    have q:cellOf env n=pure c:=by unfold cellOf;rw[hc]
    rw[q]
    simp only[pure_bind]
    exact e
   ·by_cases hx:x=n
    ·subst hx
     exact h2 x c (by rw[List.lookup_cons,beq_self_eq_true])
    ·exact h2 x c' (by rw[List.lookup_cons,beq_eq_false_iff_ne.mpr hx];exact e')
   ·rcases List.mem_cons.mp hx with z | z
    ·cases z
     exact h2 n c (by rw[List.lookup_cons,beq_self_eq_true])
    ·exact h3 x z
  ·obtain ⟨cl,e,h1,h2,h3⟩:=ih acc (fun y hy=>hf y (List.mem_cons_of_mem _ hy)) ha
   refine ⟨cl,?_,h1,h2,fun x hx=>?_⟩
   ·rw[List.forIn_cons]
    have hb:(k == NameKind.free)=false:=by simpa using hk
    simp only[hb,Bool.false_eq_true,if_false,pure_bind]
    exact e
   ·rcases List.mem_cons.mp hx with z | z
    ·cases z;exact absurd rfl hk
    ·exact h3 x z
theorem zos {scope:Scope} {env:Env} (h:∀y∈scope.names,y.2=.free→∃c,env.cells.lookup y.1=some c) :
  ∃cl,closureFor scope env=pure cl∧(∀x c,cl.lookup x=some c→env.cells.lookup x=some c)∧∀x,(x,NameKind.free)∈scope.names→∃c,cl.lookup x=some c:=by
 obtain ⟨cl,e,h1,_,h3⟩:=zkl (env:=env) scope.names [] h (fun x c e=>(nomatch e))
 refine ⟨cl,?_,h1,h3⟩
 unfold closureFor
 have e':=congrArg (fun m=>m >>= fun r=>(pure r:Sem (List (Str × Addr)))) e
 simp only[pure_bind] at e'
 exact e'
theorem zbi {env:Env}:∀{names:List (Str × NameKind)} {x:Str} {k:NameKind},(names.map fun (n,k)=>if (k == NameKind.free && env.scope.kind == .function && env.kindOf n == some .cell) then (n,NameKind.cell) else (n,k)).lookup x=some k →
  names.lookup x=some k∨(k=.cell∧names.lookup x=some .free)
 | [],_,_,h=>by simp at h
 | (n,k')::r,x,k,h=>by
  have ih:=@zbi env r x k
  have h':List.lookup x ((if (k' == NameKind.free && env.scope.kind == .function && env.kindOf n == some .cell)=true then (n,NameKind.cell) else (n,k'))::_)=_:=h
  cases hx:x == n with
  | true =>
   by_cases hc:(k' == NameKind.free && env.scope.kind == .function && env.kindOf n == some .cell)=true
   ·rw[if_pos hc] at h'
    simp only[List.lookup_cons,hx] at h' ⊢
    cases h'
    rw[Bool.and_eq_true,Bool.and_eq_true] at hc
    exact .inr ⟨rfl,by rw[eq_of_beq hc.1.1]⟩
   ·rw[if_neg hc] at h'
    simp only[List.lookup_cons,hx] at h' ⊢
    exact .inl h'
  | false =>
   have h2:(r.map fun (n,k)=>if (k == NameKind.free && env.scope.kind == .function && env.kindOf n == some .cell) then (n,NameKind.cell) else (n,k)).lookup x=some k:=by
    by_cases hc:(k' == NameKind.free && env.scope.kind == .function && env.kindOf n == some .cell)=true
    ·rw[if_pos hc] at h'
     simp only[List.lookup_cons,hx] at h'
     exact h'
    ·rw[if_neg hc] at h'
     simp only[List.lookup_cons,hx] at h'
     exact h'
   simp only[List.lookup_cons,hx]
   exact ih h2
noncomputable def cxC (X:Cx) (N:List Str) (scope:Scope) (cl:List (Str × Addr)) (C:Addr) (fp:List Addr) (s:Shared) (H:Hp):Cx :=
 {X with N:=N,s₀:=s,H₀:=H,env:=compEnvC scope cl C X.env,outer:=X.stack,ex:=fp,fn:=fun _=>false,pn:=[],xe:=fun _ _=>False}
noncomputable def startC (k:Nat) (is:List Nat) (σ:St):St:=List.replicate k none++is.map fun i=>(σ[i]?).getD none
structure CompScope (X:Cx) (N:List Str) (k:Nat) (is:List Nat) (scope:Scope):Prop where
 kind:scope.kind=.function
 nocell:∀y∈scope.names,y.2≠.cell
 names:∀y∈scope.names,y.2=.local→scope.names.lookup y.1=some .local
 frees:∀y∈scope.names,y.2=.free→X.env.kindOf y.1=some .cell∨X.env.kindOf y.1=some .free
 len:N.length=k+is.length
 own:∀j i,is[j]?=some i→∃x,N[k+j]?=some x∧X.N[i]?=some x∧scope.names.lookup x=some .free
theorem zex {x:Str} {k:NameKind} {l:List (Str × NameKind)} (h:l.lookup x=some k):(x,k)∈l:=PySem.mem_of_lookup h
section
variable {X:Cx} {pins:List (Addr × Obj)} {σ:St} {H:Hp} {s:Shared}
theorem zuf {N:List Str} {k:Nat} {is:List Nat} {scope:Scope} {cl:List (Str × Addr)} {fp:List Addr} {h1:Heap} {tk:Nat} (S:CompScope X N k is scope) (I:Inv X pins σ H s)
  (c1:∀x c,cl.lookup x=some c→X.env.cells.lookup x=some c) (c2:∀x,(x,NameKind.free)∈scope.names→∃c,cl.lookup x=some c)
  (hf:∀b∈fp,FpOk X pins H b) (hfo:∀b∈fp,∃o,s.heap.get? b=some o) (hn:h1.Ns s.heap.objs.size (fun _=>none)) (hk:∀b o,s.heap.get? b=some o→h1.get? b=some o) :
  Inv (cxC X N scope cl s.heap.objs.size fp s H) [] (startC k is σ) H {s with heap:=h1,toks:=tk}:=by
 have hC:∀b o,s.heap.get? b=some o→b≠s.heap.objs.size:=fun b o e=>Nat.ne_of_lt (Heap.lt_size e)
 have nfs:∀b∈fp,b∉frs X.stack:=fun b hb z=>by
  rcases List.mem_cons.mp (I.stkSub b z) with e | e
  ·exact (hf b hb).2.1 e
  ·exact (hf b hb).2.2.1 e
 refine ⟨⟨I.ok.mod,S.kind,I.ok.glob,I.ok.blt,Nat.le_refl _,fun x y c e1 e2=>I.ok.inj x y c (c1 x c e1) (c1 y c e2),fun x hx=>?_,fun x c z=>?_,I.ok.hd,I.ok.frames,.inl rfl,fun b hb=>⟨?_,fun x c e=>?_⟩,I.bs,Nat.le_trans I.ok.bsz I.sz,fun b o e hb=>?_,nfs,I.stack,I.stkFree⟩,
  rfl,I.bare,Un.kept hk,⟨_,hn,fun i x v e1 e2 e3=>?_⟩,fun x c e=>?_,I.hok.fresh (Nat.le_refl _),fun x c e=>I.freeC x c (c1 x c e),fun p hp=>(nomatch hp),I.hok.kept hk,?_⟩
 ·have hx':(scope.names.map fun (n,k)=>if (k == NameKind.free && X.env.scope.kind == .function && X.env.kindOf n == some .cell) then (n,NameKind.cell) else (n,k)).lookup x=some .cell∨(scope.names.map fun (n,k)=>if (k == NameKind.free && X.env.scope.kind == .function && X.env.kindOf n == some .cell) then (n,NameKind.cell) else (n,k)).lookup x=some .free:=hx
  have q:scope.names.lookup x=some .free:=by
   rcases hx' with z | z
   ·rcases zbi z with q | ⟨_,q⟩
    ·exact absurd rfl (S.nocell _ (zex q))
    ·exact q
   ·rcases zbi z with q | ⟨q,_⟩
    ·exact q
    ·cases q
  exact c2 x (zex q)
 ·cases z
 ·obtain ⟨o,e⟩:=hfo b hb
  exact hC b o e
 ·exact (hf b hb).2.2.2.2.1 x c (c1 x c e)
 ·rcases (hf b hb).2.2.2.1 with z | z
  ·exact I.ok.noex b o e z
  ·exact absurd (Nat.lt_of_lt_of_le (Heap.lt_size (I.ok.bs b o e).1) z) (Nat.lt_irrefl _)
 ·-- a name of the def around
  unfold startC at e2
  have hi:k≤i:=by
   rcases Nat.lt_or_ge i k with z | z
   ·rw[List.getElem?_append_left (by rw[List.length_replicate];exact z),List.getElem?_replicate,if_pos z] at e2
    cases e2
   ·exact z
  rw[List.getElem?_append_right (by rw[List.length_replicate];exact hi),List.length_replicate,List.getElem?_map] at e2
  cases ej:is[i - k]? with
  | none=>rw[ej] at e2;cases e2
  | some j =>
   rw[ej] at e2
   have e2':(σ[j]?).getD none=some v:=Option.some.inj e2
   obtain ⟨y,y1,y2,y3⟩:=S.own (i - k) j ej
   have ey:y=x:=by
    have z:N[i]?=some y:=by rw[← y1];congr 1;omega
    have e1':N[i]?=some x:=e1
    rw[z] at e1'
    exact Option.some.inj e1'
   subst ey
   have e4:σ[j]?=some (some v):=by
    cases q:σ[j]? with
    | none=>rw[q] at e2';cases e2'
    | some o=>rw[q] at e2';exact congrArg some e2'
   have kd:=S.frees _ (zex y3) rfl
   have vis:Vis X.env.scope y:=.inr kd
   obtain ⟨m,_,hl⟩:=I.loc
   obtain ⟨u,r,lk⟩:=hl j y v y2 e4 vis
   refine ⟨u,r,?_⟩
   rcases lk with ⟨z,_⟩ | ⟨_,c,e5,cc⟩
   ·rcases kd with q | q<;>(rw[q] at z;cases z)
   ·obtain ⟨c',e6⟩:=c2 y (zex y3)
    have:c'=c:=by
     have z:=c1 y c' e6
     rw[e5] at z
     exact (Option.some.inj z).symm
    subst this
    refine .inr ⟨?_,c',e6,?_⟩
    ·rcases e3 with z | z | z
     ·exact absurd (zbi z) (by
       rw[y3]
       rintro (q | ⟨q,_⟩)
       ·cases q
       ·cases q)
     ·exact .inl z
     ·exact .inr z
    ·obtain ⟨o,ho,hd⟩:=cc
     exact ⟨o,hk _ o ho,hd⟩
 ·obtain ⟨v,o,ho,hd⟩:=I.cell x c (c1 x c e)
  exact ⟨v,o,hk _ o ho,hd⟩
 ·unfold startC
  rw[List.length_append,List.length_replicate,List.length_map]
  exact S.len.symm
theorem zug {N:List Str} {scope:Scope} {cl:List (Str × Addr)} {fp:List Addr} {σ':St} {H':Hp} {s':Shared} {h':Heap} (I:Inv X pins σ H s) (hf:∀b∈fp,FpOk X pins H b) (J:Inv (cxC X N scope cl s.heap.objs.size fp s H) [] σ' H' s')
  (hs:Heap.SameBut s.heap.objs.size s'.heap h'):Inv X pins σ H' {s' with heap:=h'}:=by
 have hC:∀b o,s.heap.get? b=some o→b≠s.heap.objs.size:=fun b o e=>Nat.ne_of_lt (Heap.lt_size e)
 have hH:H' s.heap.objs.size=none:=J.free
 have B:Un (frs X.stack) fp H H' s.heap s'.heap:=J.base
 have U:Un (frs X.stack) fp H H' s.heap h':=⟨fun b o e n h1 h2=>hs.extBut b o (hC b o e) (B.keep b o e n h1 h2),fun b o e n h1 h2=>by
   obtain ⟨sl,q⟩:=B.slot b o e n h1 h2
   exact ⟨sl,hs.extBut b _ (hC b o e) q⟩,B.free,fun b o e hx=>by
   obtain ⟨o',q⟩:=B.there b o e hx
   exact ⟨o',hs.extBut b o' (hC b o e) q⟩,B.tups,B.frzs,B.tbls⟩
 refine I.call' (s':={s' with heap:=h'}) J.os U (fun a o e=>?_) J.bare (fun b hb=>⟨(hf b hb).2.2.2.1,(hf b hb).2.1,(hf b hb).2.2.2.2.1,(hf b hb).2.2.2.2.2⟩)
 refine (J.hok a o e).stay (fun b u hb q=>hs.extBut b u ?_ q) (fun _ q=>q) fun _ _ q=>q
 rcases hb with z | z
 ·intro y;rw[z] at y;rw[y,hH] at e;cases e
 ·intro y;rw[y,hH] at z;cases z
end
structure OffC (X:Cx) (pins:List (Addr × Obj)) (H:Hp) (C:Addr):Prop where
 free:H C=none
 loc:C≠X.env.locals
 young:X.s₀.heap.objs.size≤C
 cell:∀x c,X.env.cells.lookup x=some c→c≠C
 pin:∀p∈X.pn++pins,p.1≠C
theorem OffC.back {X:Cx} {pins:List (Addr × Obj)} {σ:St} {H:Hp} {C:Addr} {s:Shared} {h':Heap} (o:OffC X pins H C) (I:Inv X pins σ H s) (hs:Heap.SameBut C s.heap h'):Inv X pins σ H {s with heap:=h'} :=
 I.turned (t':=s.toks) (fun b u hb e=>hs.extBut b u hb e) o.free o.loc (.inr o.young) o.cell o.pin
noncomputable def nxC (p:Addr) (te:TE) (tc:TT) (N:St→Hp→Prop):St→Hp→Prop:=fun σ2 H3=>tc σ2 H3 fun b H4 =>
 if b=true then te σ2 H4 fun y H5=>∃xs,H5 p=some (.lst xs)∧xs.length < sizeLine∧N σ2 (upd H5 p (.lst (xs++[y]))) else N σ2 H4
noncomputable def CompG (J:It) (g:TG) (tc:TT) (te:TE) (Q:VK) (p:Addr) (σ:St) (H:Hp):Prop:=∃W:Nat→Nat→St→Hp→Prop,(∃m,W 0 m σ H) ∧
 ∀i m σ' H',W i m σ' H'→(J.stop i H'∧Q (.ref p) H')∨(J.go i H'∧∃N:St→Hp→Prop,(∀σ2 H2,N σ2 H2→∃m',m' < m∧W (i+1) m' σ2 H2)∧∀x H2,J.yld i H' x H2→g x σ' H2 (nxC p te tc N))
noncomputable def tComp (wi:TI) (k:Nat) (is:List Nat) (g:TG) (tc:TT) (te:TE):TE:=fun σ H Q=>wi σ H fun J H1=>∀p,H1 p=none→CompG J g tc te Q p (startC k is σ) (upd H1 p (.lst []))
noncomputable def tYes:TT:=fun _ H Q=>Q true H
section
variable {X:Cx} {tg iter elt:Expr} {ifs:List Expr} {wi:TI} {g:TG} {tc:TT} {te:TE} {N:List Str} {k:Nat} {is:List Nat} {scope:Scope} {pos:Pos}
noncomputable def PIf (X:Cx) (ifs:List Expr) (t:TT):Prop :=
 ∀(pins:List (Addr × Obj)) (s:Shared) (σ:St) (H:Hp) (Q:Bool→Hp→Prop),Inv X pins σ H s→t σ H Q →
  wpAny (model X.prog X.w) X.A (forIn ifs true fun c r=>if r=true then do let ok ← isTrue c X.env (eval c X.env);pure (ForInStep.yield ok) else pure (ForInStep.yield r)) (TP X pins σ Q) X.xe s
theorem zwc:PIf X [] tYes:=fun pins s σ H Q I h=>wpAny_tests_nil ⟨H,I,h⟩
theorem zwb {c:Expr} {t:TT} (h:PT X c t):PIf X [c] t:=fun pins s σ H Q I hq=>wpAny_tests_one (h pins s σ H Q I hq)
theorem zjd (hcalm:X.calm=true) (hg:∀cl C fp s H,PG (cxC X N scope cl C fp s H) tg g) (hc:∀cl C fp s H,PIf (cxC X N scope cl C fp s H) ifs tc) (he:∀cl C fp s H,PE (cxC X N scope cl C fp s H) elt te)
  (S:CompScope X N k is scope) {pins:List (Addr × Obj)} {σ:St} {H2:Hp} {s2:Shared} {cl:List (Str × Addr)} {it:Addr} {fp:List Addr} {tn:Nat→Heap→Prop} {J:It} {Q:VK} {E:Value→Shared→Prop} {RR:Value→Addr→Result→Shared→Prop}
  (I2:Inv X pins σ H2 s2) (T:Turn X.prog X.w X.K tg J fp it tn) (st2:tn 0 s2.heap) (f2:∀b∈fp,FpOk X pins H2 b)
  (c1:∀x c,cl.lookup x=some c→X.env.cells.lookup x=some c) (c2:∀x,(x,NameKind.free)∈scope.names→∃c,cl.lookup x=some c)
  (h:∀p,H2 p=none→∃W:Nat→Nat→St→Hp→Prop,(∃m,W 0 m (startC k is σ) (upd H2 p (.lst []))) ∧
   ∀i m σ' H',W i m σ' H'→(J.stop i H'∧Q (.ref p) H')∨(J.go i H'∧∃N:St→Hp→Prop,(∀σ2 H2,N σ2 H2→∃m',m' < m∧W (i+1) m' σ2 H2)∧∀x H2,J.yld i H' x H2→g x σ' H2 (nxC p te tc N)))
  (hR:∀(p C:Addr) (s':Shared) (H':Hp) (m:Str→Option Value),OffC X pins H' C→s'.heap.Ns C m→Inv X pins σ H' s'→Q (.ref p) H'→RR (.ref p) C (.ok .next) s') :
  wpAny (model X.prog X.w) X.A (newList []) (fun acc s₃=>wpAny (model X.prog X.w) X.A (newFunctionEnv scope X.env.globals cl [] X.env.qual none .none (some X.env)) (fun cenv s₄ =>
   codeAny (model X.prog X.w) X.A (.compStart (.ListComp elt [⟨tg,iter,ifs,0⟩] scope pos) 0 (.ref it) acc {cenv with scope:=relabel scope X.env}) (RR acc cenv.locals) s₄) E s₃) E s2:=by
 refine wpAny_newObj_type ?_
 have fresh:H2 s2.heap.objs.size=none:=I2.fresh
 have I3 : Inv X pins σ (upd H2 s2.heap.objs.size (.lst [])) { s2 with heap := s2.heap.push { cls := .type "list", dict := none, data := .seq ([] : List Value).toArray } } := I2.lnew (t' := s2.toks) (.nil) (by decide)
 generalize hs3 : ({ s2 with heap := s2.heap.push { cls := .type "list", dict := none, data := .seq ([] : List Value).toArray } } : Shared) = s3 at I3
 have k3:∀b o,s2.heap.get? b=some o→s3.heap.get? b=some o:=fun b o e=>by rw[← hs3];exact Heap.get?_push_of_some _ e
 refine wpAny_newFunctionEnv S.nocell (by intro y hy;simp at hy) (fun h₁ hns₁ hsb₁=>?_) S.kind
 have st3:tn 0 s3.heap:=T.keep _ _ _ st2 fun b _ o e=>k3 b o e
 have f3:∀b∈fp,FpOk X pins (upd H2 s2.heap.objs.size (.lst [])) b:=fun b hb=>by
  obtain ⟨o,e,_⟩:=T.obj _ _ st2 b hb
  exact ⟨by rw[upd_ne (Nat.ne_of_lt (Heap.lt_size e))];exact (f2 b hb).1,(f2 b hb).2⟩
 have k4:∀b o,s3.heap.get? b=some o→h₁.get? b=some o:=fun b o e=>hsb₁.extBut b o (Nat.ne_of_lt (Heap.lt_size e)) (Heap.get?_push_of_some _ e)
 have J4:=zuf (tk:=s3.toks+([]:List (Str × Value)).length) S I3 c1 c2 f3 (fun b hb=>let ⟨o,e,_⟩:=T.obj _ _ st3 b hb;⟨o,e⟩) hns₁ k4
 obtain ⟨W,⟨m0,w0⟩,turn⟩:=h s2.heap.objs.size fresh
 have st4:tn 0 h₁:=T.keep _ _ _ st3 fun b _ o e=>k4 b o e
 have loop:codeAny (model X.prog X.w) X.A (.compLoop (.ListComp elt [⟨tg,iter,ifs,0⟩] scope pos) 0 (.ref it) (.ref s2.heap.objs.size) (compEnvC scope cl s3.heap.objs.size X.env)) (RR (.ref s2.heap.objs.size) s3.heap.objs.size) {s3 with heap:=h₁,toks:=s3.toks+([]:List (Str × Value)).length}:=by
  have stat:∀{H':Hp},(∀b∈fp,H' b=none)→∀b∈fp,FpOk (cxC X N scope cl s3.heap.objs.size fp s3 (upd H2 s2.heap.objs.size (.lst []))) [] H' b:=fun {H'} hn b hb=>by
   obtain ⟨o,e,_⟩:=T.obj _ _ st3 b hb
   refine ⟨hn b hb,Nat.ne_of_lt (Heap.lt_size e),J4.ok.exfs b hb,.inl hb,fun x c e'=>(f3 b hb).2.2.2.2.1 x c (c1 x c e'),fun p hp=>(nomatch hp)⟩
  refine zrh (fun n s'=>∃i σ' H',Inv (cxC X N scope cl s3.heap.objs.size fp s3 (upd H2 s2.heap.objs.size (.lst []))) [] σ' H' s'∧tn i s'.heap∧(∀b∈fp,H' b=none)∧W i n σ' H') ?_ m0
   ⟨0,_,_,J4,st4,fun b hb=>(f3 b hb).1,w0⟩
  rintro n s5 ⟨i,σ5,H5,I5,st5,fr5,w5⟩
  rcases turn i n σ5 H5 w5 with ⟨stop,q⟩ | ⟨go,N',hN',step⟩
  ·refine thn (T.done (cxC X N scope cl s3.heap.objs.size fp s3 (upd H2 s2.heap.objs.size (.lst []))) rfl rfl rfl hcalm i [] s5 σ5 H5 _ I5 (stat fr5) st5 stop) fun r s6 ⟨hr,I6⟩=>?_
   subst hr
   obtain ⟨m,hm,_⟩:=I6.loc
   refine hR _ _ s6 H5 m ⟨I6.free,Nat.ne_of_gt I3.lt,I3.sz,fun x c e=>?_,fun p hp=>Nat.ne_of_lt (Heap.lt_size (I3.pin p hp).1)⟩ hm (zug (h':=s6.heap) I3 f3 I6 (.refl ..)) q
   obtain ⟨v,o,ho,_⟩:=I3.cell x c e
   exact Nat.ne_of_lt (Heap.lt_size ho)
  ·refine thn (T.item (cxC X N scope cl s3.heap.objs.size fp s3 (upd H2 s2.heap.objs.size (.lst []))) rfl rfl rfl hcalm i [] s5 σ5 H5 _ I5 (stat fr5) st5 go) fun r s6 ⟨u,hr,h6⟩=>?_
   subst hr
   refine thn h6 fun _ s7 hq0=>?_
   obtain ⟨x,H7,I7,r7,y7,st7,fr7⟩:=hq0
   have I7':=I7.pinned (stat fr7) (T.obj _ _ st7)
   refine thn (hg cl s3.heap.objs.size fp s3 _ _ s7 σ5 H7 x u _ I7' r7 (step x H7 y7)) fun _ s8 hq0=>?_
   obtain ⟨σ8,H8,I8,q8⟩:=hq0
   refine thn (hc cl s3.heap.objs.size fp s3 _ _ s8 σ8 H8 _ I8 q8) fun b s9 hq0=>?_
   obtain ⟨H9,I9,q9⟩:=hq0
   have again:∀{σ':St} {H':Hp} {s':Shared} {m':Nat},Inv (cxC X N scope cl s3.heap.objs.size fp s3 (upd H2 s2.heap.objs.size (.lst []))) ([]++pinsAt fp s7.heap) σ' H' s'→m' < n→W (i+1) m' σ' H' →
     ∃m,m < n∧∃i σ' H',Inv (cxC X N scope cl s3.heap.objs.size fp s3 (upd H2 s2.heap.objs.size (.lst []))) [] σ' H' s'∧tn i s'.heap∧(∀b∈fp,H' b=none)∧W i m σ' H':=fun {σ' H' s' m'} I' hm w'=>by
    refine ⟨m',hm,i+1,σ',H',I'.unpinned,T.keep _ _ _ st7 fun b hb o e=>(I'.pin (b,o) (List.mem_append_right _ (List.mem_append_right _ (zew hb e)))).1,fun b hb=>?_,w'⟩
    obtain ⟨o,e,d⟩:=T.obj _ _ st7 b hb
    exact (I'.pin (b,o) (List.mem_append_right _ (List.mem_append_right _ (zew hb e)))).2.1
   cases b with
   | false =>
    obtain ⟨m',hm,w'⟩:=hN' _ _ q9
    exact again I9 hm w'
   | true =>
    refine thn (he cl s3.heap.objs.size fp s3 _ _ s9 σ8 H9 _ I9 q9) fun v s10 hq0=>?_
    obtain ⟨y,H10,I10,r10,xs,hxs,hz,n10⟩:=hq0
    obtain ⟨m',hm,w'⟩:=hN' _ _ n10
    refine thn (zlg (X:=cxC X N scope cl s3.heap.objs.size fp s3 (upd H2 s2.heap.objs.size (.lst []))) _ s10 σ8 H10 (.ref s2.heap.objs.size) [y] _ [v] (fun _ H'=>H'=upd H10 s2.heap.objs.size (.lst (xs++[y]))) I10 rfl (.cons r10 .nil) ⟨_,xs,y,rfl,rfl,hxs,hz,rfl⟩) fun _ s11 hq0=>?_
    obtain ⟨_,H11,I11,_,e11⟩:=hq0
    subst e11
    exact again I11 hm w'
 have hs3' : s2.heap.push { cls := .type "list", dict := none, data := .seq ([] : List Value).toArray } = s3.heap := by rw [← hs3]
 have fin:=codeAny_compStart_list (elt:=elt) (target:=tg) (iter:=iter) (ifs:=ifs) (rest:=[]) (scope:=scope) (pos:=pos) loop (T.self X.A 0 _ _ _ st4 loop)
 exact fin
theorem zgx (S:CompScope X N k is scope) {pins:List (Addr × Obj)} {σ:St} {H:Hp} {s:Shared} (I:Inv X pins σ H s) :
  ∃cl,closureFor scope X.env=pure cl∧(∀x c,cl.lookup x=some c→X.env.cells.lookup x=some c)∧∀x,(x,NameKind.free)∈scope.names→∃c,cl.lookup x=some c :=
 zos fun y hy hf=>I.ok.has y.1 (S.frees y hy hf)
theorem zwj (hcalm:X.calm=true) (hi:PI X tg iter wi) (hg:∀cl C fp s H,PG (cxC X N scope cl C fp s H) tg g) (hc:∀cl C fp s H,PIf (cxC X N scope cl C fp s H) ifs tc) (he:∀cl C fp s H,PE (cxC X N scope cl C fp s H) elt te)
  (S:CompScope X N k is scope) (hs:∀x,foldedSetIterable iter X.env x=pure x:=by intro _;rfl):PE X (.ListComp elt [⟨tg,iter,ifs,0⟩] scope pos) (tComp wi k is g tc te):=by
 intro pins s σ H Q I h
 obtain ⟨cl,e,c1,c2⟩:=zgx S I
 rw[eval_ListComp]
 refine wpAny_comprehension_free (use:=none) rfl hs e S.kind S.names (thn (hi pins s σ H _ I h) fun xv s1 h1=>thn h1 fun itv s2 h2=>?_)
 obtain ⟨it,fp,tn,J,H2,e2,I2,T,st2,f2,h3⟩:=h2
 subst e2
 refine zjd (Q:=Q) (RR:=fun acc C=>compPost (model X.prog X.w) X.A X.xe none (EP X pins σ Q) acc C) hcalm hg hc he S I2 T st2 f2 c1 c2 h3 ?_
 intro p C s' H' m off hm I' q
 exact ⟨m,hm,fun h' hs'=>⟨.ref p,H',off.back I' hs',rfl,q⟩⟩
theorem zvv {i:Nat} {x:Str} {pos':Pos} (hcalm:X.calm=true) (hN:X.N.Nodup) (hxi:X.N[i]?=some x) (hx:Loc X.env.scope x) (hi:PI X tg iter wi) (hg:∀cl C fp s H,PG (cxC X N scope cl C fp s H) tg g) (hc:∀cl C fp s H,PIf (cxC X N scope cl C fp s H) ifs tc)
  (he:∀cl C fp s H,PE (cxC X N scope cl C fp s H) elt te) (S:CompScope X N k is scope) {spos:Pos} (hsw:swapsWith (.ListComp elt [⟨tg,iter,ifs,0⟩] scope pos) (some (.Name x pos')) spos.line X.env=pure true:=by rfl)
  (hf:X.fn x=true∨X.env.scope.names.lookup x=some .local:=by first | exact .inl rfl | exact .inr rfl | assumption)
  (hs:∀x,foldedSetIterable iter X.env x=pure x:=by intro _;rfl):PS X (.Assign [.Name x pos'] (.ListComp elt [⟨tg,iter,ifs,0⟩] scope pos) spos) (tAsg (tComp wi k is g tc te) (gName i)):=by
 intro pins s σ H D I h
 obtain ⟨cl,e,c1,c2⟩:=zgx S I
 rw[exec_Assign_Name_used (hs:=hsw)]
 refine wpAny_bind (wpAny_standAt (wpAny_bind (?_:wpAny _ X.A _ _ _ s)))
 show wpAny _ X.A (do let _ ← comprehension (.ListComp elt [⟨tg,iter,ifs,0⟩] scope pos) scope X.env _ (newList []) false (eval iter X.env) (some (assign (.Name x pos') X.env))) _ _ s
 refine wpAny_bind (wpAny_mono (wpAny_comprehension_free (use:=some (assign (.Name x pos') X.env)) (Q:=fun _ s'=>SP X pins D .next s') rfl hs e S.kind S.names
  (thn (hi pins s σ H _ I h) fun xv s1 h1=>thn h1 fun itv s2 h2=>?_)) (fun _ s' hq=>wpAny_pure (wpAny_pure hq)) fun _ _ e=>e)
 obtain ⟨it,fp,tn,J,H2,e2,I2,T,st2,f2,h3⟩:=h2
 subst e2
 refine zjd (Q:=fun v H'=>gName i v σ H' D.nx) (RR:=fun acc C=>compPost (model X.prog X.w) X.A X.xe (some (assign (.Name x pos') X.env)) (fun _ s'=>SP X pins D .next s') acc C) hcalm hg hc he S I2 T st2 f2 c1 c2 h3 ?_
 intro p C s' H' m off hm I' q
 show wpAny _ X.A (assign (.Name x pos') X.env (.ref p)) _ _ _
 refine wpAny_assign_Name (zkx (v:=.ref p) I' hN hxi hx rfl (fun s'' I'' hq0=>?_) hf)
 obtain ⟨a,hsb,ha⟩:=hq0
 have hCa:C≠a:=by
  rcases ha with z | z
  ·rw[z];exact off.loc
  ·exact (off.cell x a z).symm
 exact ⟨m,hm.sameBut hsb hCa,fun h' hs'=>⟨_,H',off.back I'' hs',q⟩⟩
end
section
variable {g:TG} {tc:TT} {te:TE} {Q:VK} {σ:St} {H:Hp} {p:Addr}
end
end L2
namespace L2
open PySem PySem.Spec PyProof.Rows
noncomputable def Callee (P:Program) (w:World) (K:PySem.W.Frag) (mg:Str→Option Value) (base:Heap) (x:Str) (k:Nat) (ps:List Str) (sp:Sp):Prop :=
 ∃f fd,FnOk P w K mg base CX0 k f fd ps sp∧Binds K fd ps []∧PySem.W.keepIn K (.ref f)=true∧mg x=some (.ref f)
section
variable {X:Cx} {x:Str} {k:Nat} {ps:List Str} {sp:Sp} {p pos:Pos} {e:Expr} {es:List Expr} {t:TA}
theorem zto (c : Callee X.prog X.w X.K X.mg X.base x k ps sp) (hr : Room k X.A) (hg : Gl X x) (ha : PA X (e :: es) t) (hdb : (x == ("__debug__" : Str)) = false := by decide)
  (he:starEach (e::es) X.env=(false,eval e X.env)::starEach es X.env:=by rfl) (hpl:(backTo pos (starEach es X.env)).any (·.1)=false:=by rfl) :
  PE X (.Call (.Name x p) (e::es) [] pos) (tCall sp [] E0 t):=by
 obtain ⟨f,fd,F,b,kp,m⟩:=c
 exact zwl F hr hg m kp b .nil pass0 ha hdb he hpl
end
noncomputable def TopF (K:PySem.W.Frag) (x:Str) (st:Stmt):Prop :=
 ∃f fd,PySem.W.nsIn K mainGlobals x=some (some (.ref f))∧Fun K x x st f fd
theorem top_mk {K:PySem.W.Frag} {x:Str} {st:Stmt} {f:Addr} {od an:Option Addr} {sl:Array (Option Value)} {oc kV dc pm cd ct:Value}
  (a:PySem.W.nsIn K mainGlobals x=some (some (.ref f))) (l:K.lookup f=some ⟨oc,od,.func (PySem.W.fnOf x x (defArgs st) (defBody st) (defScope st) .none kV dc pm an cd ct),sl⟩) (c:PySem.W.codeIn K cd x=true) (k:PySem.W.keepIn K (.ref f)=true):TopF K x st :=
 ⟨f,_,a,fun_mk l c k⟩
theorem zrj {P:Program} {w:World} {K:PySem.W.Frag} {mg:Str→Option Value} {base h:Heap} {x:Str} {st:Stmt} {N ps:List Str} {k:Nat} {sp:Sp} (T:TopF K x st) (X:K.In h) (G:h.Ns mainGlobals mg) (S:FnScope N ps (defScope st))
  (bd:∀(kV doc pm:Value) (an:Option Addr) (cdv ct:Value) (us:List Value),us.length=ps.length→bindArgs (PySem.W.fnOf x x (defArgs st) (defBody st) (defScope st) .none kV doc pm an cdv ct) ⟨us,[]⟩=pure (ps.zip us))
  (len:∀vs H Q E,sp vs H Q E→vs.length=ps.length)
  (hbody:∀(f:Addr) (cdv:Value) (A:Around) (outer:List Env) (s:Shared) (H:Hp) (vs:List V) (Q:VK) (E:XK),Room k (A.deeper (envOfC x (defScope st) s.heap.objs.size f cdv))→sp vs H Q E →
   ∃t,PSs (cxOf CX0 P w K mg base N x (defScope st) f cdv A outer s H E).nox (defBody st) t∧t {nx:=fun _ H'=>Q .non H',rt:=Q} (start N vs) H):Callee P w K mg base x (k+1) ps sp:=by
 obtain ⟨f,fd,a,F⟩:=T
 exact ⟨f,fd,F.ok S len (hbody f),F.binds bd,F.kp,PySem.W.mg_of X G a⟩
section
variable {X:Cx}
theorem zeb : CallR X (.builtin "isinstance") (fun xs H Q => ∃ x T t b, xs = [x, .ty T] ∧ TyOf X.K H x t ∧ PySem.W.kitOne X.K t (.type T) = some b ∧ Q (.bl b) H) := by
 intro pins s σ H xs us Q I r h
 obtain ⟨x,T,t,b,rfl,ty,e,q⟩:=h
 obtain ⟨u,w',rfl,ru,rw'⟩:=vals2 r
 cases (show w'=Value.type T from rw')
 exact zqp I ru ty e fun tk=>⟨.bl b,H,I.tok tk,rfl,q⟩
noncomputable def CDivP (i j:Int):Prop:=0 < j∧j < 2 ^ 1000
theorem zka:OpR X (binaryOp .FloorDiv) (rI CDivP fun i j=>.int (i / j)):=opI fun i j _ _ _ _ _ hc q=>by
 have e:i.fdiv j=i / j:=Int.fdiv_eq_ediv_of_nonneg i (by have:=hc.1;omega)
 refine floordiv_int (by have:=hc.1;omega) (by rw[e];exact q) (.inl (PyProof.noPylong_of_log2 ?_))
 have h1:j.natAbs < 2 ^ 1000:=by
  have h2:=hc.1
  have h3:=hc.2
  have h4:(j.natAbs:Int)=j:=by omega
  have h5:(j.natAbs:Int) < ((2 ^ 1000:Nat):Int):=by
   rw[h4];exact_mod_cast h3
  exact_mod_cast h5
 have h0:j.natAbs≠0:=by have:=hc.1;omega
 have:=(Nat.log2_lt h0).mpr h1
 omega
end
end L2
namespace L2
open PySem PySem.Spec PyProof.Rows
section
variable {X:Cx} {st:Stmt} {t:TS}
end
noncomputable def compLook (XN:List Str) (xs:List (Str × NameKind)) (N:List Str) (k:Nat) (is:List Nat) (scope:Scope):Bool :=
 (scope.kind == .function) && scope.names.all (fun y=>y.2 != .cell) && scope.names.all (fun y=>y.2 != .local || scope.names.lookup y.1 == some .local) &&
 scope.names.all (fun y=>y.2 != .free || (xs.lookup y.1 == some .cell || xs.lookup y.1 == some .free)) && (N.length == k+is.length) &&
 (List.range is.length).all (fun j=>match is[j]?,N[k+j]? with
  | some i,some x=>XN[i]? == some x && scope.names.lookup x == some .free
  | _,_=>false)
theorem zcx {X:Cx} {N:List Str} {k:Nat} {is:List Nat} {scope:Scope} (h:compLook X.N X.env.scope.names N k is scope=true):CompScope X N k is scope:=by
 unfold compLook at h
 simp only[Bool.and_eq_true,List.all_eq_true] at h
 obtain ⟨⟨⟨⟨⟨h1,h2⟩,h3⟩,h4⟩,h5⟩,h6⟩:=h
 refine ⟨eq_of_beq h1,fun y hy e=>?_,fun y hy e=>?_,fun y hy e=>?_,eq_of_beq h5,fun j i e=>?_⟩
 ·have:=h2 y hy;rw[e] at this;simp at this
 ·have:=h3 y hy;rw[e] at this;simp at this;exact this
 ·have:=h4 y hy;rw[e] at this;simp at this;exact this
 ·have hj:j < is.length:=(List.getElem?_eq_some_iff.mp e).1
  have:=h6 j (List.mem_range.mpr hj)
  rw[e] at this
  cases e2:N[k+j]? with
  | none=>rw[e2] at this;cases this
  | some x =>
   rw[e2] at this
   simp only[Bool.and_eq_true,beq_iff_eq] at this
   exact ⟨x,rfl,this.1,this.2⟩
theorem bt_len : bootBuiltins "len" = some (.builtin "len") := by decide +kernel
theorem bt_abs : bootBuiltins "abs" = some (.builtin "abs") := by decide +kernel
theorem bt_min : bootBuiltins "min" = some (.builtin "min") := by decide +kernel
theorem bt_sum : bootBuiltins "sum" = some (.builtin "sum") := by decide +kernel
theorem zlv : bootBuiltins "sorted" = some (.builtin "sorted") := by decide +kernel
theorem bt_any : bootBuiltins "any" = some (.builtin "any") := by decide +kernel
theorem bt_all : bootBuiltins "all" = some (.builtin "all") := by decide +kernel
theorem zco : bootBuiltins "isinstance" = some (.builtin "isinstance") := by decide +kernel
theorem bt_int : bootBuiltins "int" = some (.type "int") := by decide +kernel
theorem zym : bootBuiltins "bool" = some (.type "bool") := by decide +kernel
theorem zcg : bootBuiltins "tuple" = some (.type "tuple") := by decide +kernel
theorem zyl : bootBuiltins "list" = some (.type "list") := by decide +kernel
theorem zsq {H:Hp} {p:Addr} {o:HO} (h:H p=some o):upd H p o=H:=by
 funext b
 unfold upd
 split
 ·subst b;exact h.symm
 ·rfl
section
variable {X:Cx} {K:PySem.W.Frag}
end
end L2
namespace Srt
open PySem PySem.W PyProof.Rows
section
variable (r:Nat→Nat)
noncomputable def lt (i j:Nat):Bool:=decide (r i < r j)
noncomputable def At (p:Array Nat) (i:Nat):Nat:=r (p.getD i 0)
noncomputable def Up (p:Array Nat) (n:Nat):Prop:=∀i j,i≤j→j < n→At r p i≤At r p j
end
section
variable {r:Nat→Nat} {p:Array Nat} {n:Nat}
end
end Srt
set_option maxHeartbeats 4000000
namespace Srt
open PySem PySem.W PyProof.Rows
section
variable {n:Nat}
end
section
variable {P:Program} {w:World} {B:Around} {E:Value→Shared→Prop} {st:Shared}
noncomputable def midHeap (h : Heap) (d : Addr) (xs : List Value) : Heap := ((h.update d (Obj.mapSeq fun _ => (#[] : Array Value))).push (seqObj "tuple" xs.toArray 0)).push (seqObj "list" #[] 0)
theorem zhl {h:Heap} {d b:Addr} {xs:List Value} {ob:Obj} (ne:b≠d) (e:h.get? b=some ob):(midHeap h d xs).get? b=some ob :=
 Heap.get?_push_of_some _ (Heap.get?_push_of_some _ ((Heap.get?_update_ne _ _ _ _ ne).trans e))
noncomputable def Answers (P:Program) (w:World) (B:Around) (r:Nat→Nat) (xs:List Value) (sg:Shared):Prop :=
 ∃κ,(∀R:SortKind→Shared→Prop,R κ sg→wpAny (model P w) B (keyKind' xs.toArray) R (fun _ _=>False) sg) ∧
  ∀i j C,i < xs.length→j < xs.length→C (lt r i j) sg→kas_ask P w B κ xs i j C sg
noncomputable def outOf (xs:List Value) (p:Array Nat):Array Value:=List.toArray (p.toList.map fun i=>xs.getD i Value.none)
theorem zps {xs:List Value} (h:xs.length < 2):(xs.toArray.zip xs.toArray).map (·.2)=outOf xs (List.toArray (List.range xs.length)):=by
 unfold outOf
 match xs,h with
 | [],_=>simp
 | [_],_=>simp[List.range_succ]
 | _::_::_,h=>exact absurd h (by simp)
end
end Srt
set_option maxHeartbeats 4000000
namespace Srt
open PySem PySem.W PyProof.Rows HT
theorem zgo:∀a:List Int,lexLt a a=false
 | []=>rfl
 | x::a=>by rw[zcw,if_pos rfl];exact zgo a
theorem zfz:∀{a b c:List Int},lexLt a b=true→lexLt b c=true→lexLt a c=true
 | _,[],[],_,h=>by rw[zds] at h;cases h
 | _,_::_,[],_,h=>by rw[zdc] at h;cases h
 | [],[],_::_,h,_=>by rw[zds] at h;cases h
 | _::_,[],_::_,h,_=>by rw[zdc] at h;cases h
 | [],_::_,_::_,_,_=>zcb _ _
 | x::a,y::b,z::c,h1,h2=>by
  rw[zcw] at h1 h2 ⊢
  by_cases e1:x=y
  ·rw[if_pos e1] at h1
   subst e1
   by_cases e2:x=z
   ·rw[if_pos e2] at h2 ⊢;exact zfz h1 h2
   ·rw[if_neg e2] at h2 ⊢;exact h2
  ·rw[if_neg e1] at h1
   have h1':=of_decide_eq_true h1
   by_cases e2:y=z
   ·subst e2
    rw[if_neg e1];exact h1
   ·rw[if_neg e2] at h2
    have h2':=of_decide_eq_true h2
    rw[if_neg (by omega)]
    exact decide_eq_true (by omega)
theorem zli:∀a b:List Int,lexLt a b=true∨a=b∨lexLt b a=true
 | [],[]=>.inr (.inl rfl)
 | [],_::_=>.inl (zcb _ _)
 | _::_,[]=>.inr (.inr (zcb _ _))
 | x::a,y::b=>by
  rw[zcw,zcw]
  by_cases e:x=y
  ·subst e
   rw[if_pos rfl,if_pos rfl]
   rcases zli a b with h | h | h
   ·exact .inl h
   ·exact .inr (.inl (by rw[h]))
   ·exact .inr (.inr h)
  ·rw[if_neg e,if_neg (fun z=>e z.symm)]
   rcases Int.lt_or_gt_of_ne e with h | h
   ·exact .inl (decide_eq_true h)
   ·exact .inr (.inr (decide_eq_true h))
theorem zqm {a b:List Int} (h:lexLt a b=true):lexLt b a=false:=by
 cases e:lexLt b a with
 | false=>rfl
 | true=>have:=zfz h e;rw[zgo] at this;cases this
theorem zoq {p q:Nat→Bool} (hpq:∀x,p x=true→q x=true):∀{l:List Nat} {y:Nat},y∈l→q y=true→p y=false→l.countP p < l.countP q
 | [],_,h,_,_=>nomatch h
 | x::l,y,h,h1,h2=>by
  have mono:∀l:List Nat,l.countP p≤l.countP q:=fun l=>List.countP_mono_left fun x _=>hpq x
  rcases List.mem_cons.mp h with rfl | h
  ·rw[List.countP_cons_of_pos h1,List.countP_cons_of_neg (by rw[h2];decide)]
   exact Nat.lt_succ_of_le (mono l)
  ·have ih:=zoq hpq h h1 h2
   by_cases c:p x=true
   ·rw[List.countP_cons_of_pos c,List.countP_cons_of_pos (hpq x c)];omega
   ·rw[List.countP_cons_of_neg c]
    by_cases d:q x=true
    ·rw[List.countP_cons_of_pos d];omega
    ·rw[List.countP_cons_of_neg d];exact ih
noncomputable def rank (ks:List (List Int)) (i:Nat):Nat:=(List.range ks.length).countP fun k=>lexLt (ks.getD k []) (ks.getD i [])
theorem znk {ks:List (List Int)} {i j:Nat} (hi:i < ks.length) (hj:j < ks.length):lt (rank ks) i j=lexLt (ks.getD i []) (ks.getD j []):=by
 have up:∀{a b:Nat},a < ks.length→lexLt (ks.getD a []) (ks.getD b [])=true→rank ks a < rank ks b:=fun {a b} ha h =>
  zoq (fun x hx=>zfz hx h) (List.mem_range.mpr ha) h (zgo _)
 cases e:lexLt (ks.getD i []) (ks.getD j []) with
 | true=>exact decide_eq_true (up hi e)
 | false =>
  refine decide_eq_false fun h=>?_
  rcases zli (ks.getD i []) (ks.getD j []) with z | z | z
  ·rw[e] at z;cases z
  ·unfold rank at h;rw[z] at h;exact absurd h (Nat.lt_irrefl _)
  ·have:=up hj z;omega
section
variable {prog:Program} {w:World} {A:Around} {s:Shared} {b:Bool} {Q:Bool→Shared→Prop}
theorem znx:∀{us ws:List Value} {ns ms:List Int} (i:Nat),IntsAre us ns→IntsAre ws ms→Q (lexLt ns ms) s→KatLex prog w A b (decide (us.length < ws.length)) Q (us.zip ws) i s
 | _,_,_,_,_,.nil,.nil,h=>h
 | _,_,_,_,_,.nil,.cons _ _ _,h=>h
 | _,_,_,_,_,.cons _ _ _,.nil,h=>h
 | _,_,_,_,i,.cons x t (vs:=us) (ns:=ns) r1,.cons y u (vs:=ws) (ns:=ms) r2,h=>by
  rw[zcw] at h
  refine kat_cons (wpAny_eqBool_int (kat_go (fun e=>kat_yes ?_) fun e=>kat_no ?_))
  ·rw[if_pos (eq_of_beq e)] at h
   have q:=znx (i+1) r1 r2 h
   have ee:decide ((Value.int x t::us).length < (Value.int y u::ws).length)=decide (us.length < ws.length):=by
    rw[List.length_cons,List.length_cons,Bool.eq_iff_iff]
    simp
   rw[ee]
   exact q
  ·rw[if_neg (beq_eq_false_iff_ne.mp e)] at h
   cases hb:(b && i == 0) with
   | true=>exact oneLt_int h
   | false=>exact kat_one _ _ (PyProof.Rows.lt_int h)
end
end Srt
namespace L2
open PySem PySem.Spec PyProof.Rows PySem.W
theorem zks:∀{as:List Addr} {us:List Value},Vals (as.map V.ref) us→us=as.map Value.ref
 | [],_,.nil=>rfl
 | a::as,_,.cons r t=>by
  rw[show _=Value.ref a from r,zks t]
  rfl
noncomputable def TupsAt (K:PySem.W.Frag) (H:Hp) (ps:List (Addr × List Int)):Prop:=∀p∈ps,SqT K H p.1 (p.2.map V.int)
theorem zk {α β:Type} (f:α→β) (d:β) {l:List α} {i:Nat} {x:α} (h:l[i]?=some x):(l.map f).getD i d=f x:=by
 rw[List.getD_eq_getElem?_getD,List.getElem?_map,h]
 rfl
section
variable {X:Cx}
end
end L2
set_option maxHeartbeats 4000000
namespace L2
open PySem PySem.Spec PyProof.Rows
mutual
inductive DAt (K:PySem.W.Frag) (H:Hp):V→PyData→Prop
 | non:DAt K H .non .none
 | bl (b:Bool):DAt K H (.bl b) (.bool b)
 | int (i:Int):DAt K H (.int i) (.int i)
 | str (x:Str):DAt K H (.str x) (.str x)
 | lst {a:Addr} {xs:List V} {ds:List PyData}:SqL K H a xs→DAll K H xs ds→DAt K H (.ref a) (.list ds)
 | tup {a:Addr} {xs:List V} {ds:List PyData}:SqT K H a xs→DAll K H xs ds→DAt K H (.ref a) (.tuple ds)
inductive DAll (K:PySem.W.Frag) (H:Hp):List V→List PyData→Prop
 | nil:DAll K H [] []
 | cons {x:V} {xs:List V} {d:PyData} {ds:List PyData}:DAt K H x d→DAll K H xs ds→DAll K H (x::xs) (d::ds)
end
section
variable {X:Cx} {pins:List (Addr × Obj)} {σ:St} {H:Hp} {s:Shared}
mutual
theorem zgm (I:Inv X pins σ H s):∀{v:V} {d:PyData} {u:Value},DAt X.K H v d→RelV v u→∃as,Reads s.heap u d as
 | _,_,_,.non,r=>by cases r;exact ⟨_,.none⟩
 | _,_,_,.bl b,r=>by cases r;exact ⟨_,.bool b⟩
 | _,_,_,.int i,r=>by obtain ⟨t,rfl⟩:=r;exact ⟨_,.int i t⟩
 | _,_,_,.str x,r=>by obtain ⟨t,rfl⟩:=r;exact ⟨_,.str x t⟩
 | _,_,_,.lst h all,r=>by
  cases r
  obtain ⟨its,rv,⟨o,n,e,c,_,dd⟩,_⟩:=I.list h
  obtain ⟨as,q⟩:=zfk I all rv
  exact ⟨_,.list e c dd q⟩
 | _,_,_,.tup h all,r=>by
  cases r
  obtain ⟨its,rv,⟨o,e,c,n,dd⟩,_⟩:=I.tuple h
  obtain ⟨as,q⟩:=zfk I all rv
  exact ⟨_,.tuple e c dd q⟩
theorem zfk (I:Inv X pins σ H s):∀{vs:List V} {ds:List PyData} {us:List Value},DAll X.K H vs ds→Vals vs us→∃as,ReadsAll s.heap us ds as
 | _,_,_,.nil,.nil=>⟨_,.nil⟩
 | _,_,_,.cons h t,.cons r rs=>by
  obtain ⟨as,q⟩:=zgm I h r
  obtain ⟨bs,q'⟩:=zfk I t rs
  exact ⟨_,.cons q q'⟩
end
end
noncomputable def rEqX (K:PySem.W.Frag) (neg:Bool):R2:=fun x y H Q=>∃dx dy,DAt K H x dx∧DAt K H y dy∧PySem.SeqAt.shaped dx=true∧PySem.SeqAt.shaped dy=true∧Q (.bl (if neg then !PyData.eqv dx dy else PyData.eqv dx dy)) H
section
variable {X:Cx}
theorem op_eqX (hu:X.A.units+64 < cLine):OpR X (compareOp .Eq) (rEqX X.K false):=by
 intro pins s σ H x y v u Q I r1 r2 h
 obtain ⟨dx,dy,a1,a2,a3,a4,q⟩:=h
 obtain ⟨as,ra⟩:=zgm I a1 r1
 obtain ⟨bs,rb⟩:=zgm I a2 r2
 exact eq_dataH ra rb a3 a4 hu ⟨.bl (PyData.eqv dx dy),H,I,rfl,q⟩
theorem op_neX (hu:X.A.units+64 < cLine):OpR X (compareOp .NotEq) (rEqX X.K true):=by
 intro pins s σ H x y v u Q I r1 r2 h
 obtain ⟨dx,dy,a1,a2,a3,a4,q⟩:=h
 obtain ⟨as,ra⟩:=zgm I a1 r1
 obtain ⟨bs,rb⟩:=zgm I a2 r2
 exact ne_dataH ra rb a3 a4 hu ⟨.bl (!PyData.eqv dx dy),H,I,rfl,q⟩
end
noncomputable def dI (ns:List Int):List PyData:=ns.map PyData.int
noncomputable def dRow (ns:List Int):PyData:=.tuple (dI ns)
theorem dI_eqv:∀a b:List Int,PyData.eqvAll (dI a) (dI b)=decide (a=b)
 | [],[]=>by rfl
 | [],_::_=>by rfl
 | _::_,[]=>by rfl
 | x::a,y::b=>by
  show (x == y && PyData.eqvAll (dI a) (dI b))=_
  rw[dI_eqv a b,Bool.eq_iff_iff]
  simp
theorem zuy (a b:List Int):PyData.eqv (dRow a) (dRow b)=decide (a=b):=dI_eqv a b
theorem zlu:∀a b:List (List Int),PyData.eqvAll (a.map dRow) (b.map dRow)=decide (a=b)
 | [],[]=>by rfl
 | [],_::_=>by rfl
 | _::_,[]=>by rfl
 | x::a,y::b=>by
  show (PyData.eqv (dRow x) (dRow y) && PyData.eqvAll (a.map dRow) (b.map dRow))=_
  rw[zlu a b,zuy,Bool.eq_iff_iff]
  simp
theorem dI_lay:∀a:List Int,PyData.canLayAll0 (dI a)=true∧PyData.depthAll (dI a)=0
 | []=>⟨rfl,rfl⟩
 | x::a=>by
  obtain ⟨h1,h2⟩:=dI_lay a
  refine ⟨?_,?_⟩
  ·show (true && PyData.canLayAll0 (dI a))=true
   rw[h1];rfl
  ·show max 0 (PyData.depthAll (dI a))=0
   rw[h2];rfl
theorem zlt:∀a:List (List Int),PyData.canLayAll0 (a.map dRow)=true∧PyData.depthAll (a.map dRow)≤1
 | []=>⟨rfl,Nat.zero_le _⟩
 | x::a=>by
  obtain ⟨h1,h2⟩:=zlt a
  obtain ⟨h3,h4⟩:=dI_lay x
  refine ⟨?_,?_⟩
  ·show (PyData.canLayAll0 (dI x) && PyData.canLayAll0 (a.map dRow))=true
   rw[h1,h3];rfl
  ·show max (PyData.depthAll (dI x)+1) (PyData.depthAll (a.map dRow))≤1
   rw[h4];omega
theorem zgw (a:List (List Int)):PySem.SeqAt.shaped (.tuple (a.map dRow))=true:=by
 obtain ⟨h1,h2⟩:=zlt a
 show (PyData.canLayAll0 (a.map dRow) && decide (PyData.depthAll (a.map dRow)+1≤64))=true
 rw[h1,decide_eq_true (by omega)];rfl
section
variable {X:Cx}
theorem zij:∀{bs:List Bool} {us:List Value},Vals (bs.map V.bl) us→us=bs.map Value.bool
 | [],_,.nil=>rfl
 | b::bs,_,.cons r t=>by
  rw[show _=Value.bool b from r,zij t]
  rfl
theorem zpv (bs:List Bool):((List.range bs.length).any fun i=>bs.getD i false)=bs.any id:=by
 rw[Bool.eq_iff_iff]
 simp only[List.any_eq_true,List.mem_range]
 constructor
 ·rintro ⟨i,hi,h⟩
  rw[List.getD_eq_getElem?_getD,List.getElem?_eq_getElem hi] at h
  exact ⟨bs[i],List.getElem_mem hi,h⟩
 ·rintro ⟨b,hb,h⟩
  obtain ⟨i,hi,rfl⟩:=List.getElem_of_mem hb
  exact ⟨i,hi,by rw[List.getD_eq_getElem?_getD,List.getElem?_eq_getElem hi];exact h⟩
theorem zpw (bs:List Bool):((List.range bs.length).all fun i=>bs.getD i false)=bs.all id:=by
 rw[Bool.eq_iff_iff]
 simp only[List.all_eq_true,List.mem_range]
 constructor
 ·intro h b hb
  obtain ⟨i,hi,rfl⟩:=List.getElem_of_mem hb
  have:=h i hi
  rw[List.getD_eq_getElem?_getD,List.getElem?_eq_getElem hi] at this
  exact this
 ·intro h i hi
  rw[List.getD_eq_getElem?_getD,List.getElem?_eq_getElem hi]
  exact h _ (List.getElem_mem hi)
noncomputable def rAny (K:PySem.W.Frag) (al:Bool):List V→Hp→VK→Prop:=fun xs H Q=>∃(l:Addr) (bs:List Bool),xs=[.ref l]∧SqL K H l (bs.map V.bl)∧Q (.bl (if al then bs.all id else bs.any id)) H
theorem zme {prog:Program} {w:World} {A:Around} (bs:List Bool):TruthOf prog w A (fun i v=>(bs.map Value.bool).toArray[i]?=some v) (fun i=>bs.getD i false):=fun i v s Q E hP hQ=>by
 have hP':(bs.map Value.bool)[i]?=some v:=by simpa using hP
 rw[List.getElem?_map] at hP'
 cases e:bs[i]? with
 | none=>rw[e] at hP';cases hP'
 | some b =>
  rw[e] at hP'
  cases hP'
  dsimp only at hQ
  rw[List.getD_eq_getElem?_getD,e] at hQ
  exact wpAny_truthy_bool hQ
theorem zpc (hc:X.calm=true) {pins:List (Addr × Obj)} {σ:St} {H:Hp} {s:Shared} {l:Addr} {bs:List Bool} {R:Bool→Prop} (I:Inv X pins σ H s) (hl:SqL X.K H l (bs.map V.bl)) {Q:Value→Shared→Prop} {F:(Nat→Bool)→Nat→Bool}
  (hQ:∀s',Inv X pins σ H s'→Q (.bool (F (fun i=>bs.getD i false) bs.length)) s') :
  wpAny (model X.prog X.w) X.A.in1 (pyIter (.ref l)) (fun it s₂=>∃I fp wr n P St tr,it=.ref I∧Walks X.prog X.w X.A.in1 I fp wr n P St∧St 0 s₂.heap∧TruthOf X.prog X.w X.A.in1 P tr ∧
   ∀h' tk,(∀b o,b∉wr→s₂.heap.get? b=some o→h'.get? b=some o)→Q (.bool (F tr n)) {s₂ with heap:=h',toks:=tk}) X.xe s:=by
 obtain ⟨its,rv,pl,hz⟩:=I.list hl
 have e:=zij rv
 subst e
 have hlt:l < s.heap.objs.size:=by obtain ⟨o,n,e,_⟩:=pl;exact Heap.lt_size e
 refine wpAny_pyIter_list pl.isList ?_
 refine ⟨s.heap.objs.size,_,[s.heap.objs.size],_,_,_,_,rfl,Walks.list (A:=X.A.in1) (I.ok.hd hc) _ l (Nat.ne_of_lt hlt) (bs.map Value.bool).toArray,⟨⟨_,Heap.get?_push_size _ rfl,rfl,rfl⟩,pl.isList.push _⟩,zme bs,fun h' tk hk=>?_⟩
 have e2:(bs.map Value.bool).toArray.size=bs.length:=by simp
 rw[e2]
 refine hQ _ ?_
 refine I.kept (t':=tk) fun b o e=>hk b o ?_ (Heap.get?_push_of_some _ e)
 intro z
 have z':b=s.heap.objs.size:=by simpa using z
 have z2:=Heap.lt_size e
 rw[z'] at z2
 exact absurd z2 (Nat.lt_irrefl _)
theorem zvb (hc : X.calm = true) : CallR X (.builtin "any") (rAny X.K false) := by
 intro pins s σ H xs us Q I r h
 obtain ⟨l,bs,rfl,hl,q⟩:=h
 obtain ⟨u,rfl,ru⟩:=vals1 r
 cases ru
 refine call_any_walk (zpc (R:=fun _=>True) hc I hl (F:=fun tr n=>(List.range n).any tr) fun s' I'=>⟨.bl ((List.range bs.length).any fun i=>bs.getD i false),H,I',rfl,?_⟩)
 rw[zpv]
 exact q
theorem zvc (hc : X.calm = true) : CallR X (.builtin "all") (rAny X.K true) := by
 intro pins s σ H xs us Q I r h
 obtain ⟨l,bs,rfl,hl,q⟩:=h
 obtain ⟨u,rfl,ru⟩:=vals1 r
 cases ru
 refine call_all_walk (zpc (R:=fun _=>True) hc I hl (F:=fun tr n=>(List.range n).all tr) fun s' I'=>⟨.bl ((List.range bs.length).all fun i=>bs.getD i false),H,I',rfl,?_⟩)
 rw[zpw]
 exact q
end
end L2
set_option maxHeartbeats 4000000
namespace Dct
open PySem PySem.W PyProof.Rows
noncomputable def Raw (h:Heap) (d:Addr) (es:Array DictEntry) (ep:Nat):Prop:=∃ob,h.get? d=some ob∧ob.ExactDict∧ob.data=.dict es ep
theorem Raw.kept {h h':Heap} {d:Addr} {es:Array DictEntry} {ep:Nat} (x:Raw h d es ep) (k:∀ob,h.get? d=some ob→h'.get? d=some ob):Raw h' d es ep :=
 let ⟨ob,e,r⟩:=x;⟨ob,k ob e,r⟩
theorem Raw.lt {h:Heap} {d:Addr} {es:Array DictEntry} {ep:Nat} (x:Raw h d es ep):d < h.objs.size:=let ⟨_,e,_⟩:=x;Heap.lt_size e
theorem Raw.is {st : Shared} {d : Addr} {es : Array DictEntry} {ep : Nat} (x : Raw st.heap d es ep) : st.TypeIs (.ref d) "dict" := let ⟨ob, e, c, _⟩ := x; ⟨ob, e, c.1⟩
section
variable {P:Program} {w:World} {B:Around} {E:Value→Shared→Prop} {st:Shared} {d it:Addr} {es:Array DictEntry} {ep k:Nat}
noncomputable def iterObj (d : Addr) (n ep : Nat) : Obj := { cls := .type "dict_keyiterator", data := .fields #[.ref d, .int 0 0, .int n 0, .int ep 0] }
theorem znj {W:Value→Shared→Prop} (ns:(d == sysModules)=false) (x:Raw st.heap d es ep) (fin:W (.ref st.heap.objs.size) {st with heap:=st.heap.push (iterObj d es.size ep)}):wpAny (model P w) B (pyIter (.ref d)) W E st:=by
 obtain ⟨ob,e,c,dt⟩:=id x
 have ty:=x.is
 refine wpAny_pyIter_slot ty F.slot_dict_iter (wpAny_call_entry F.slot_dict_iter ty F.entry_dict_iter ?body (F.args_dict_iter_1 _))
 case body =>
  unfold Builtin.«dict.__iter__» Builtin.Dict.dictSlotNone Builtin.Dict.showsAll
  refine wpAny_bind (wpAny_bind (wpAny_notOrdered_dict ty (wpAny_pure ?_)))
  show wpAny _ _ ((if (d == sysModules)=true then _ else _) >>= _) _ _ st
  rw[if_neg (fun z=>Bool.false_ne_true (ns.symm.trans z))]
  refine wpAny_bind (wpAny_pure (wpAny_bind (wpAny_dictEntries e dt (wpAny_bind (wpAny_dictEpoch e dt (wpAny_bind (wpAny_newObj_type (wpAny_pure ⟨_, rfl, "dict_keyiterator", _, ⟨_, Heap.get?_push_size _ rfl, rfl⟩, F.slot_dict_keyiterator_next.lookup, ?_⟩))))))))
  exact fin
theorem zni {W:Option Value→Shared→Prop} {en:DictEntry} (hi:st.heap.IsKeyIter it d k es.size ep) (x:Raw st.heap d es ep) (hk:es[k]?=some en)
  (fin:∀g:Heap,g.IsKeyIter it d (k+1) es.size ep→Heap.SameBut it st.heap g→W (some en.key) {st with heap:=g}):wpAny (model P w) B (pyNext (.ref it)) W E st:=by
 obtain ⟨oi,ei,ci,di⟩:=id hi
 obtain ⟨ob,e,c,dt⟩:=id x
 have lt:k < es.size:=(Array.getElem?_eq_some_iff.mp hk).1
 unfold pyNext
 refine wpAny_bind (wpAny_attempt (wpAny_callSpecial?_slot (name := Str.ofString "__next__") hi.typeIs F.slot_dict_keyiterator_next (wpAny_call_entry F.slot_dict_keyiterator_next hi.typeIs F.entry_dict_keyiterator_next ?body (F.args_dict_keyiterator_next_1 _))))
 case body =>
  refine wpAny_bind (wpAny_pure (wpAny_bind (wpAny_bind (wpAny_bind (wpAny_typeNameOfWhole_keyiter hi.typeIs (wpAny_pure (wpAny_bind (wpAny_fieldsOf ei di ?_))))))))
  simp only [show Builtin.Dict_items.ownsTuple "dict_keyiterator" = false from by decide, Bool.false_eq_true, ite_false]
  show wpAny _ _ (if (Value.ref d == Value.none)=true then _ else _) _ _ st
  have nn:¬ (Value.ref d == Value.none)=true:=Bool.false_ne_true
  rw[if_neg nn]
  refine wpAny_bind (wpAny_pure (wpAny_bind (wpAny_dictEntries e dt ?_)))
  rw[if_neg (by simp)]
  refine wpAny_bind (wpAny_pure (wpAny_bind (wpAny_dictEpoch e dt ?_)))
  rw[if_neg (by simp)]
  refine wpAny_pure ?_
  simp only[show ¬ ((k:Int) < 0) from by omega,ite_false,Int.toNat_natCast,hk]
  refine wpAny_bind (wpAny_bind (wpAny_typeNameOfWhole_keyiter hi.typeIs (wpAny_pure (wpAny_bind (wpAny_isOneOf_keyiter hi.typeIs ?_)))))
  show wpAny _ _ (setField (.ref it) 1 (rawInt ((k:Int)+1)) >>= _) _ _ st
  refine wpAny_bind (wpAny_setField ei di (by simp) ?_)
  have hi':(st.heap.update it (Obj.mapFields (·.setIfInBounds 1 (rawInt ((k:Int)+1))))).IsKeyIter it d (k+1) es.size ep :=
   ⟨_,Heap.get?_update_self _ ei (Obj.isFreed_of_fields (Obj.data_mapFields di _)),(Obj.cls_mapFields ..).trans ci,by rw[Obj.data_mapFields di];simp[rawInt]⟩
  refine wpAny_bind (wpAny_holding (wpAny_bind (wpAny_isOneOf_keyiter (s:={st with heap:=st.heap.update it (Obj.mapFields (·.setIfInBounds 1 (rawInt ((k:Int)+1))))}) hi'.typeIs ?_)))
  show wpAny _ _ (pure en.key) _ _ _
  exact wpAny_pure (wpAny_pure ⟨_,rfl,wpAny_pure (fin _ hi' (Heap.SameBut.update ..))⟩)
theorem zrs {W:Option Value→Shared→Prop} (hh:B.handled=none) (hi:st.heap.IsKeyIter it d k es.size ep) (x:Raw st.heap d es ep) (hk:es.size≤k)
  (fin:∀g:Heap,Heap.ExtBut it st.heap g→W none {st with heap:=g}):wpAny (model P w) B (pyNext (.ref it)) W E st:=by
 obtain ⟨oi,ei,ci,di⟩:=id hi
 obtain ⟨ob,e,c,dt⟩:=id x
 unfold pyNext
 refine wpAny_bind (wpAny_attempt (wpAny_callSpecial?_slot (name := Str.ofString "__next__") hi.typeIs F.slot_dict_keyiterator_next (wpAny_call_entry F.slot_dict_keyiterator_next hi.typeIs F.entry_dict_keyiterator_next ?body (F.args_dict_keyiterator_next_1 _))))
 case body =>
  refine wpAny_bind (wpAny_pure (wpAny_bind (wpAny_bind (wpAny_bind (wpAny_typeNameOfWhole_keyiter hi.typeIs (wpAny_pure (wpAny_bind (wpAny_fieldsOf ei di ?_))))))))
  simp only [show Builtin.Dict_items.ownsTuple "dict_keyiterator" = false from by decide, Bool.false_eq_true, ite_false]
  show wpAny _ _ (if (Value.ref d == Value.none)=true then _ else _) _ _ st
  have nn:¬ (Value.ref d == Value.none)=true:=Bool.false_ne_true
  rw[if_neg nn]
  refine wpAny_bind (wpAny_pure (wpAny_bind (wpAny_dictEntries e dt ?_)))
  rw[if_neg (by simp)]
  refine wpAny_bind (wpAny_pure (wpAny_bind (wpAny_dictEpoch e dt ?_)))
  rw[if_neg (by simp)]
  refine wpAny_pure ?_
  simp only[show ¬ ((k:Int) < 0) from by omega,ite_false,Int.toNat_natCast,Array.getElem?_eq_none hk]
  refine wpAny_bind (wpAny_bind (wpAny_typeNameOfWhole_keyiter hi.typeIs (wpAny_pure ?_)))
  show wpAny _ _ (setField (.ref it) 0 .none >>= _) _ _ st
  refine wpAny_bind (wpAny_setField ei di (by simp) ?_)
  show wpAny _ _ (newExc (.type "StopIteration") [] >>= _) _ _ _
  refine wpAny_bind ?_
  simp only[newExc,newTuple]
  refine wpAny_bind (wpAny_newObj_type (wpAny_bind (m:=firstArgMember _ _) (wpAny_of_eq (a:=Value.none) (by first | rfl | (simp only[firstArgMember];rfl)) (wpAny_newObj_type ?_ (by size_fits)))) (by size_fits))
  simp only[raiseNew]
  refine wpAny_bind (wpAny_handled ?_)
  rw[show B.in1.handled=none from hh]
  refine wpAny_bind (wpAny_pure (wpAny_throw ?_))
  refine wpAny_bind (wpAny_isInstance (T := "StopIteration") (b := true) ?_ isSubtype_stop (wpAny_pure (fin _ (((Heap.SameBut.update ..).extBut.push _).push _))))
  exact ⟨_,Heap.get?_push_size _ rfl,rfl⟩
theorem zpu (hh:B.handled=none) (ne:d≠it) (es:Array DictEntry) (ep:Nat) :
  Walks P w B it [it,d] [it] es.size (fun i v=>∃en,es[i]?=some en∧v=en.key) (fun i h=>h.IsKeyIter it d i es.size ep∧Raw h d es ep) where
 sub:=fun b hb=>List.mem_cons.mpr (.inl (List.mem_singleton.mp hb))
 frame:=fun _ _ _ z hk=>⟨z.1.at fun o e=>hk it List.mem_cons_self o e,z.2.kept fun o e=>hk d (List.mem_cons_of_mem _ (List.mem_singleton.mpr rfl)) o e⟩
 item:=fun i sh W' E' hi z hQ=>by
  have hx:es[i]?=some es[i]:=Array.getElem?_eq_getElem hi
  exact zni z.1 z.2 hx fun g a b=>hQ es[i].key g sh.toks ⟨_,hx,rfl⟩ ⟨a,z.2.kept fun o e=>b.extBut d o ne e⟩ fun c o hc e=>b.extBut c o (fun q=>hc (List.mem_singleton.mpr q)) e
 done:=fun sh W' E' z hQ=>zrs hh z.1 z.2 (Nat.le_refl _) fun g b=>hQ g sh.toks fun c o hc e=>b c o (fun q=>hc (List.mem_singleton.mpr q)) e
 self:=fun _ _ _ _ z hQ=>wpAny_pyIter_keyiter z.1 hQ
theorem zvr (ns : (d == sysModules) = false) (es : Array DictEntry) (ep : Nat) : KdlSrc P w "dict" d d es.size (fun i v => ∃ en, es[i]? = some en ∧ v = en.key) (fun h => Raw h d es ep) where
 type:=fun _ x=>x.is
 there:=fun _ x=>⟨x.lt,x.lt⟩
 keep:=fun _ _ x hk=>x.kept fun o e=>hk d (.inl rfl) o e
 notList:=by decide
 notTuple:=by decide
 hint:=fun _ _ _ _ x hq=>kdl_hint_dict x.is hq
 iter:=fun _ sh hh x=>⟨_,_,fun _ _ hq=>znj ns x hq,zpu hh (Nat.ne_of_lt x.lt) es ep,⟨⟨_,Heap.get?_push_size _ rfl,rfl,rfl⟩,x.kept fun o e=>Heap.get?_push_of_some _ e⟩⟩
end
end Dct
namespace Srt
open PySem PySem.W PyProof.Rows
section
variable {P:Program} {w:World} {B:Around} {E:Value→Shared→Prop} {st:Shared}
end
end Srt
set_option maxHeartbeats 4000000
namespace L2
open PySem PySem.Spec PyProof.Rows
theorem ObjOk.ob {P:Program} {w:World} {H:Hp} {h:Heap} {a:Addr} {o:HO} (x:ObjOk P w H h a o):∃ob,h.get? a=some ob:=by
 cases o with
 | lst xs=>obtain ⟨_,_,_,_,e⟩:=x;exact ⟨_,e⟩
 | tup xs=>obtain ⟨_,_,_,ob,e,_⟩:=x;exact ⟨_,e⟩
 | dK kvs=>obtain ⟨_,_,_,_,ob,_,_,e,_⟩:=x;exact ⟨_,e⟩
 | dT kvs=>obtain ⟨_,_,_,_,ob,_,_,e,_⟩:=x;exact ⟨_,e⟩
 | set S n=>obtain ⟨ob,_,_,_,e,_⟩:=x;exact ⟨_,e⟩
 | ins C dx fs=>obtain ⟨_,_,_,e,_⟩:=x;exact ⟨_,e⟩
 | own y=>obtain ⟨_,e⟩:=x;exact ⟨_,e⟩
 | xd fs=>obtain ⟨_,⟨_,_,_,e,_⟩,_⟩:=x;exact ⟨_,e⟩
 | rng lo hi=>obtain ⟨_,_,_,e⟩:=x;exact ⟨_,e⟩
 | frz ob u=>obtain ⟨e,_⟩:=x;exact ⟨_,e⟩
 | tbl ps=>exact ⟨_,(show h.get? a=some _ from x)⟩
 | met f y=>exact ⟨_,(show h.get? a=some _ from x)⟩
 | ext φ=>obtain ⟨_,⟨_,e⟩,_⟩:=x;exact ⟨_,e⟩
section
variable {X:Cx} {pins:List (Addr × Obj)} {σ:St} {H:Hp} {s:Shared}
theorem Inv.away (I:Inv X pins σ H s) {q:Addr} (ne:∀b ob,s.heap.get? b=some ob→b≠q):H q=none:=by
 cases e:H q with
 | none=>rfl
 | some o =>
  obtain ⟨ob,z⟩:=(I.hok q o e).ob
  exact absurd rfl (ne q ob z)
theorem Inv.laidN {q:Addr} {o:HO} {g:Heap} {t':Nat} (I:Inv X pins σ H s) (k:∀b u,s.heap.get? b=some u→g.get? b=some u) (ne:∀b ob,s.heap.get? b=some ob→b≠q) (new:ObjOk X.prog X.w (upd H q o) g q o) :
  Inv X pins σ (upd H q o) {s with heap:=g,toks:=t'}:=by
 have hn:=I.away ne
 have off:∀{b:Addr} {u:HO},H b=some u→upd H q o b=some u:=fun {b u} e=>by rw[upd_ne (zg e hn)];exact e
 refine I.un ⟨fun b u e _ _ _=>k b u e,fun b u e _ _ _=>⟨u.slots,k b u e⟩,fun b u e n _=>by rw[upd_ne (ne b u e)];exact n,fun b u e _=>⟨u,k b u e⟩,fun b xs e=>off e,fun b ob u e=>off e,fun b ps e=>⟨#[],by rw[off e];simp⟩⟩ fun b u e=>?_
 by_cases hb:b=q
 ·subst hb
  rw[zr] at e
  cases e
  exact new
 ·rw[upd_ne hb] at e
  exact (I.hok b u e).stay (fun c v _ z=>k c v z) (fun c z=>off z) fun c xs z=>off z
end
theorem zsa (ns:List Int):(ns.map (Sum.inl:Int→Key)).map kV=ns.map V.int:=by rw[List.map_map];rfl
theorem zjc {P:Program} {w:World} {H:Hp} {kvs:List (List Key × V)}:∀{ks:List (List Int)} {xs:List (List Key × Addr × Value)},
  Paired (fun (p:List Key × V) (q:List Key × Addr × Value)=>p.1=q.1∧H q.2.1=some (.tup (p.1.map kV))∧RelV p.2 q.2.2) kvs xs→kvs.map (·.1)=ks.map (fun ns=>ns.map Sum.inl) →
   ∃ps:List (Addr × List Int),ps.map (·.2)=ks∧(∀p∈ps,H p.1=some (.tup (p.2.map V.int)))∧xs.map (fun q=>(entryOfKey (tupleKind (mixKind P w)) q).key)=ps.map fun p=>Value.ref p.1:=by
 induction kvs with
 | nil =>
  intro ks xs r e
  cases r
  cases ks with
  | nil=>exact ⟨[],rfl,fun p hp=>(nomatch hp),rfl⟩
  | cons x ks=>cases e
 | cons kv kvs ih =>
  intro ks xs r e
  cases r with
  | cons r rs =>
   cases ks with
   | nil=>cases e
   | cons ns ks =>
    rw[List.map_cons,List.map_cons] at e
    injection e with e1 e2
    obtain ⟨ps,a1,a2,a3⟩:=ih rs e2
    rename_i b _
    obtain ⟨r1,r2,r3⟩:=r
    refine ⟨(b.2.1,ns)::ps,by rw[List.map_cons,a1],fun p hp=>?_,by rw[List.map_cons,List.map_cons,a3];rfl⟩
    rcases List.mem_cons.mp hp with z | z
    ·subst z
     rw[e1,zsa] at r2
     exact r2
    ·exact a2 p z
open PySem.W in
theorem zvg {P:Program} {w:World} {B:Around} {sg:Shared} {ps:List (Addr × List Int)} (h2:2≤ps.length)
  (tup : ∀ (i : Nat) (p : Addr × List Int), ps[i]? = some p → ∃ (us : List Value) (o : Obj) (n : Nat), IntsAre us p.2 ∧ sg.heap.get? p.1 = some o ∧ o.cls = .type "tuple" ∧ o.data = .seq us.toArray n ∧ p.2 ≠ []) :
  Srt.Answers P w B (Srt.rank (ps.map (·.2))) (ps.map fun p=>Value.ref p.1) sg:=by
 refine ⟨tuples' true,fun R hq=>?_,fun i j C hi hj hC=>?_⟩
 ·have kt:∀(l:List (Addr × List Int)),(∀p∈l,∃i:Nat,ps[i]?=some p)→∃fs:List Value,KatTups sg.heap (l.map fun p=>Value.ref p.1) fs∧fs.length=l.length∧∀v∈fs,∃i t,v=Value.int i t:=fun l=>by
   induction l with
   | nil=>intro _;exact ⟨[],KatTups.nil,rfl,fun v hv=>(nomatch hv)⟩
   | cons p l ih =>
    intro hp
    obtain ⟨fs,b1,b2,b3⟩:=ih fun p' hp'=>hp p' (List.mem_cons_of_mem _ hp')
    obtain ⟨i,hi⟩:=hp p List.mem_cons_self
    obtain ⟨us,o,n,a1,a2,a3,a4,a5⟩:=tup i p hi
    obtain ⟨pa,pn⟩:=p
    dsimp only at a1 a2 a3 a4 a5
    cases a1 with
    | nil=>exact absurd rfl a5
    | cons x t r=>exact ⟨Value.int x t::fs,KatTups.cons a2 a3 a4 rfl b1,by rw[List.length_cons,List.length_cons,b2],fun v hv=>(List.mem_cons.mp hv).elim (fun z=>⟨x,t,z⟩) (b3 v)⟩
  obtain ⟨fs,b1,b2,b3⟩:=kt ps fun p hp=>List.mem_iff_getElem?.mp hp
  exact kat_kind (T := .type "int") b1 (by omega) (fun v hv => by
   obtain ⟨i,t,rfl⟩:=b3 v hv
   exact Looks.of_pure rfl) rfl hq
 ·rw[List.length_map] at hi hj
  have ei:ps[i]?=some ps[i]:=List.getElem?_eq_getElem hi
  have ej:ps[j]?=some ps[j]:=List.getElem?_eq_getElem hj
  obtain ⟨us,o,n,a1,a2,a3,a4,a5⟩:=tup i _ ei
  obtain ⟨us2,o2,n2,c1,c2,c3,c4,c5⟩:=tup j _ ej
  unfold kas_ask
  rw[zk (fun p:Addr × List Int=>Value.ref p.1) _ ei,zk (fun p:Addr × List Int=>Value.ref p.1) _ ej]
  refine kat_lt a2 a4 c2 c4 (Srt.znx 0 a1 c1 ?_)
  rw[Srt.znk (by rw[List.length_map];exact hi) (by rw[List.length_map];exact hj),zk (fun p:Addr × List Int=>p.2) _ ei,zk (fun p:Addr × List Int=>p.2) _ ej] at hC
  exact hC
theorem znp {ps:List (Addr × List Int)} {p:Array Nat} (p1:p.Perm (List.toArray (List.range ps.length))) (p2:Srt.Up (Srt.rank (ps.map (·.2))) p ps.length) :
  ∃qs:List (Addr × List Int),qs.Perm ps∧(qs.map (·.2)).Pairwise (fun x y=>HT.lexLt y x=false)∧Srt.outOf (ps.map fun p=>Value.ref p.1) p=(qs.map fun p=>Value.ref p.1).toArray:=by
 have hps:p.size=ps.length:=by rw[p1.size_eq];simp
 have sm:∀i∈p.toList,i < ps.length:=fun i hi=>by
  have h3:=(p1.mem_iff (a:=i)).mp (by rw[← Array.mem_toList_iff];exact hi)
  exact List.mem_range.mp (List.mem_toArray.mp h3)
 refine ⟨p.toList.map fun i=>ps.getD i (0,[]),?_,?_,?_⟩
 ·have e1:p.toList.Perm (List.range ps.length):=by
   have:=Array.perm_iff_toList_perm.mp p1
   simpa using this
  have e2:=e1.map fun i=>ps.getD i (0,[])
  have e3:((List.range ps.length).map fun i=>ps.getD i (0,[]))=ps:=by
   apply List.ext_getElem
   ·simp
   ·intro i h1 h2
    simp[List.getD_eq_getElem?_getD,h2]
  rw[e3] at e2
  exact e2
 ·rw[List.map_map,List.pairwise_iff_getElem]
  intro i j hi hj hij
  rw[List.getElem_map,List.getElem_map]
  rw[List.length_map] at hi hj
  have hi':i < p.size:=by simpa using hi
  have hj':j < p.size:=by simpa using hj
  have hu:=p2 i j (Nat.le_of_lt hij) (by omega)
  have g:∀k,(hk:k < p.toList.length)→p.getD k 0=p.toList[k]:=fun k hk=>by
   have hk':k < p.size:=by simpa using hk
   rw[Array.getD_eq_getD_getElem?,Array.getElem?_eq_getElem hk']
   simp
  have si:=sm _ (List.getElem_mem hi)
  have sj:=sm _ (List.getElem_mem hj)
  have lk:=Srt.znk (ks:=ps.map (·.2)) (i:=p.toList[j]) (j:=p.toList[i]) (by rw[List.length_map];exact sj) (by rw[List.length_map];exact si)
  have hno:Srt.lt (Srt.rank (ps.map (·.2))) p.toList[j] p.toList[i]=false:=by
   refine decide_eq_false fun z=>?_
   unfold Srt.At at hu
   rw[g i hi,g j hj] at hu
   omega
  rw[hno] at lk
  have v:∀k,k < ps.length→(ps.map (·.2)).getD k []=(ps.getD k (0,[])).2:=fun k hk=>by
   have ek:ps[k]?=some ps[k]:=List.getElem?_eq_getElem hk
   rw[zk (fun p:Addr × List Int=>p.2) _ ek,List.getD_eq_getElem?_getD,ek]
   rfl
  rw[v _ sj,v _ si] at lk
  exact lk.symm
 ·unfold Srt.outOf
  rw[List.map_map]
  congr 1
  refine List.map_congr_left fun i hi=>?_
  have hi2:=sm i hi
  have ei:ps[i]?=some ps[i]:=List.getElem?_eq_getElem hi2
  rw[zk (fun p:Addr × List Int=>Value.ref p.1) _ ei]
  show _=Value.ref (ps.getD i (0,[])).1
  rw[List.getD_eq_getElem?_getD,ei]
  rfl
section
variable {X:Cx}
end
end L2
set_option maxHeartbeats 4000000
namespace L2
open PySem PySem.Spec PyProof.Rows
section
variable {X:Cx} {pins:List (Addr × Obj)} {σ:St} {H:Hp} {s:Shared}
theorem Inv.freeze {a:Addr} {kvs:List (List Key × V)} {ob:Obj} (I:Inv X pins σ H s) (h:H a=some (.dT kvs)) (e:s.heap.get? a=some ob):Inv X pins σ (upd H a (.frz ob (.dT kvs))) s:=by
 have off:∀{b:Addr} {u:HO},H b=some u→(∀l,u≠.dT l)→upd H a (.frz ob (.dT kvs)) b=some u:=fun {b u} q n=>by
  rw[upd_ne (by rintro rfl;rw[h] at q;cases q;exact n _ rfl)]
  exact q
 have z:=I.un (h':=s.heap) (t':=s.toks) (H':=upd H a (.frz ob (.dT kvs))) ⟨fun b u q _ _ _=>q,fun b u q _ _ _=>⟨u.slots,q⟩,fun b u q n _=>by
   rw[upd_ne (by rintro rfl;rw[h] at n;cases n)];exact n,fun b u q _=>⟨u,q⟩,fun b xs q=>off q (fun l z=>by cases z),fun b o u q=>off q (fun l z=>by cases z),fun b ps q=>⟨#[],by rw[off q (fun l z=>by cases z)];simp⟩⟩ (fun b u q=>by
   by_cases hb:b=a
   ·subst hb
    rw[zr] at q
    cases q
    exact ⟨e,(I.hok b _ h).stay (fun c v _ r=>r) (fun c r=>off r (fun l z=>by cases z)) fun c xs r=>off r (fun l z=>by cases z)⟩
   ·rw[upd_ne hb] at q
    exact (I.hok b u q).stay (fun c v _ r=>r) (fun c r=>off r (fun l z=>by cases z)) fun c xs r=>off r (fun l z=>by cases z))
 exact z
end
noncomputable def Itd (a:Addr) (ob:Obj) (kvs:List (List Key × V)) (ps:List (Addr × List Int)):It :=
 ⟨fun i H=>i < ps.length∧H a=some (.frz ob (.dT kvs)),fun i H x H'=>H'=H∧∃p,ps[i]?=some p∧x=.ref p.1,fun i H=>ps.length≤i∧H a=some (.frz ob (.dT kvs))⟩
theorem zpo {P:Program} {w:World} {K:PySem.W.Frag} {tg:Expr} {a it:Addr} {ob:Obj} {kvs:List (List Key × V)} {ps:List (Addr × List Int)} {es:Array DictEntry} {ep:Nat} (ex:ob.ExactDict) (dt:ob.data=.dict es ep)
  (hk:es.toList.map (·.key)=ps.map fun p=>Value.ref p.1):Turn P w K tg (Itd a ob kvs ps) [it] it (fun i h=>h.IsKeyIter it a i es.size ep) where
 mem:=List.mem_singleton.mpr rfl
 obj:=fun i h st b hb=>by
  have e:b=it:=List.mem_singleton.mp hb
  subst e
  obtain ⟨o,e,c,d⟩:=st
  exact ⟨o,e,fun v z=>by rw[d] at z;cases z⟩
 keep:=fun i h h' st k=>st.at fun o e=>k it (List.mem_singleton.mpr rfl) o e
 item:=by
  intro Y hP hw hK hc i pins s σ H E I hf st hg
  subst hP hw hK
  obtain ⟨hi,hz⟩:=hg
  have hsz:es.size=ps.length:=by
   have:=congrArg List.length hk
   rwa [List.length_map,List.length_map,Array.length_toList] at this
  obtain ⟨eo,_⟩:=(show ObjOk Y.prog Y.w H s.heap a (.frz ob (.dT kvs)) from I.hok a _ hz)
  obtain ⟨f0,f1,f2,f3,f4,f5⟩:=hf it (List.mem_singleton.mpr rfl)
  have hen:es[i]?=some es[i]:=Array.getElem?_eq_getElem (by omega)
  have hpi:ps[i]?=some ps[i]:=List.getElem?_eq_getElem hi
  have hkey:es[i].key=Value.ref ps[i].1:=by
   have q:=congrArg (fun l=>l[i]?) hk
   simp only[List.getElem?_map,Array.getElem?_toList,hen,hpi] at q
   exact Option.some.inj q
  refine Dct.zni st ⟨ob,eo,ex,dt⟩ hen fun g st' sb=>?_
  have I1:Inv Y pins σ H {s with heap:=g}:=I.turned (t':=s.toks) (fun b o hb e=>sb.extBut b o hb e) f0 f1 f3 f4 f5
  obtain ⟨o,e,c,d⟩:=id st'
  exact ⟨_,rfl,go_of (s:={s with heap:=g}) e c d (by decide) ⟨.ref ps[i].1,H,I1,hkey,⟨rfl,ps[i],hpi,rfl⟩,st',fun b hb=>(hf b hb).1⟩⟩
 done:=by
  intro Y hP hw hK hc i pins s σ H E I hf st hg
  subst hP hw hK
  obtain ⟨hi,hz⟩:=hg
  have hsz:es.size=ps.length:=by
   have:=congrArg List.length hk
   rwa [List.length_map,List.length_map,Array.length_toList] at this
  obtain ⟨eo,_⟩:=(show ObjOk Y.prog Y.w H s.heap a (.frz ob (.dT kvs)) from I.hok a _ hz)
  obtain ⟨f0,f1,f2,f3,f4,f5⟩:=hf it (List.mem_singleton.mpr rfl)
  exact Dct.zrs (I.ok.hd hc) st ⟨ob,eo,ex,dt⟩ (by omega) fun g eb=>⟨rfl,I.turned (t':=s.toks) (fun b o hb e=>eb b o hb e) f0 f1 f3 f4 f5⟩
 self:=fun _ _ _ _ _ st h=>wpAny_pyIter_keyiter st h
noncomputable def iDct (td:TE):TI:=fun σ H R=>td σ H fun x H1=>∃(a:Addr) (kvs:List (List Key × V)) (ks:List (List Int)),x=.ref a∧H1 a=some (.dT kvs)∧kvs.map (·.1)=ks.map (fun ns=>ns.map Sum.inl) ∧
 ∀(ob:Obj) (ps:List (Addr × List Int)),ps.map (·.2)=ks→(∀p∈ps,H1 p.1=some (.tup (p.2.map V.int)))→R (Itd a ob kvs ps) (upd H1 a (.frz ob (.dT kvs)))
theorem zwe {X:Cx} {tg l:Expr} {td:TE} (hl:PE X l td):PI X tg l (iDct td):=by
 intro pins s σ H R I h
 refine thn (hl pins s σ H _ I h) fun v s1 hq0=>?_
 obtain ⟨x,H1,I1,r1,q1⟩:=hq0
 obtain ⟨a,kvs,ks,rfl,hd,ek,q⟩:=q1
 cases r1
 obtain ⟨z,ns,ys,rel,ob,es,ep,e1,e2,e3,e4,e5⟩:=(show ObjOk X.prog X.w H1 s1.heap a (.dT kvs) from I1.hok a _ hd)
 obtain ⟨ps,a1,a2,a3⟩:=zjc (P:=X.prog) (w:=X.w) rel ek
 have hes:es.toList.map (·.key)=ps.map fun p=>Value.ref p.1:=by rw[e4,List.map_map];exact a3
 refine Dct.znj ns ⟨ob,e1,e2,e3⟩ ?_
 have I2:=I1.freeze hd e1
 refine ⟨s1.heap.objs.size,[s1.heap.objs.size],_,_,_,rfl,I2.kept (t':=s1.toks) fun b o e=>Heap.get?_push_of_some _ e,zpo e2 e3 hes,⟨_,Heap.get?_push_size _ rfl,rfl,rfl⟩,fun b hb=>?_,q ob ps a1 a2⟩
 have e:b=s1.heap.objs.size:=List.mem_singleton.mp hb
 subst e
 exact I2.fpOk (Nat.le_refl _) (I2.hok.fresh (Nat.le_refl _))
section
variable {g:TG} {tc:TT} {te:TE} {Q:VK} {σ:St} {H:Hp} {p:Addr}
end
end L2
set_option maxHeartbeats 4000000
namespace L2
open PySem PySem.Spec PyProof.Rows PySem.W
noncomputable def TupsG (g : Heap) (ps : List (Addr × List Int)) : Prop := ∀ p ∈ ps, ∃ (us : List Value) (o : Obj) (n : Nat), IntsAre us p.2 ∧ g.get? p.1 = some o ∧ o.cls = .type "tuple" ∧ o.data = .seq us.toArray n
section
variable {P:Program} {w:World} {B:Around} {E:Value→Shared→Prop} {sg:Shared}
theorem zlo:∀{ps:List (Addr × List Int)},TupsG sg.heap ps→∃fs:List (Option Value),fs.map Option.isSome=ps.map (fun p=>!p.2.isEmpty)∧∀(W:List (Option Value)→Shared→Prop),W fs sg→wpAny (model P w) B ((ps.map fun p=>Value.ref p.1).mapM firstOfTuple') W E sg
 | [],_=>⟨[],rfl,fun W h=>by rw[List.map_nil,List.mapM_nil];exact wpAny_pure h⟩
 | p::ps,h=>by
  obtain ⟨fs,f1,f2⟩:=zlo (ps:=ps) fun q hq=>h q (List.mem_cons_of_mem _ hq)
  obtain ⟨us,o,n,a1,a2,a3,a4⟩:=h p List.mem_cons_self
  refine ⟨us.toArray[0]?::fs,?_,fun W hW=>?_⟩
  ·rw[List.map_cons,List.map_cons,f1]
   congr 1
   obtain ⟨pa,pn⟩:=p
   dsimp only at a1 ⊢
   cases a1 with
   | nil=>rfl
   | cons x t r=>rfl
  ·rw[List.map_cons,List.mapM_cons]
   have ty:Looks (model P w) sg.heap (typeOf (.ref p.1)) o.cls:=(Looks.ld a2).andThen .now
   refine wpAny_bind ?_
   rw[kas_first_eq]
   refine wpAny_bind (Looks.here ty ?_)
   rw[a3,if_neg (by first | decide | simp)]
   exact wpAny_bind (listItems_at a2 a4 (wpAny_pure (wpAny_bind (f2 _ (wpAny_pure hW)))))
theorem znw (x y:Value):keyLt' general' x y=oneLt' false x y:=rfl
theorem zvf {κ:SortKind} (hκ:κ=general'∨κ=oneType') (hu:B.units < cLine) {a b:Addr × List Int} (ha:TupsG sg.heap [a]) (hb:TupsG sg.heap [b]) {C:Bool→Shared→Prop} (hC:C (HT.lexLt a.2 b.2) sg) :
  wpAny (model P w) B (keyLt' κ (.ref a.1) (.ref b.1)) C E sg:=by
 obtain ⟨us,o,n,a1,a2,a3,a4⟩:=ha a List.mem_cons_self
 obtain ⟨us2,o2,n2,b1,b2,b3,b4⟩:=hb b List.mem_cons_self
 rcases hκ with rfl | rfl
 ·rw[znw]
  exact kat_one _ _ (HT.ziw (items:=us.toArray) (items2:=us2.toArray) ⟨o,a2,a3,n,a4⟩ ⟨o2,b2,b3,n2,b4⟩ a1 b1 hu hC)
 ·rw[keyLt'_oneType,oneLt'_eq]
  simp only[ite_true]
  refine wpAny_bind (wpAny_cRoomFor hu (wpAny_bind (wpAny_callSpecialIfBound?_slot (T := "tuple") ⟨o, a2, a3⟩ PySem.F.slot_tuple_lt ?_)))
  obtain ⟨cls,dd,data,sl⟩:=o
  obtain ⟨cls2,dd2,data2,sl2⟩:=o2
  dsimp only at a3 a4 b3 b4
  subst a3 a4 b3 b4
  exact call_meets PySem.F.slot_tuple_lt ⟨_,a2,rfl⟩ PySem.F.entry_tuple_lt (PySem.F.args_tuple_lt_2 _ _) (HT.zfo a.1 b.1 us.toArray us2.toArray n n2 dd dd2 sl sl2 a.2 b.2 a1 b1) ⟨a2,b2,wpAny_truthy_bool hC⟩
theorem zvh {ps:List (Addr × List Int)} (hu:B.units < cLine) (tup:TupsG sg.heap ps) (emp:∃p∈ps,p.2=[]):Srt.Answers P w B (Srt.rank (ps.map (·.2))) (ps.map fun p=>Value.ref p.1) sg:=by
 obtain ⟨fs,f1,f2⟩:=zlo (P:=P) (w:=w) (B:=B) (E:=fun _ _=>False) tup
 have notAll:¬ (fs.toArray.all fun x=>x.isSome)=true:=fun z=>by
  have z':fs.all (fun x=>x.isSome)=true:=by simpa using z
  obtain ⟨p,hp,he⟩:=emp
  have m:(!p.2.isEmpty)∈fs.map Option.isSome:=by rw[f1];exact List.mem_map_of_mem (f:=fun p:Addr × List Int=>!p.2.isEmpty) hp
  obtain ⟨o,ho,e⟩:=List.mem_map.mp m
  have:=List.all_eq_true.mp z' o ho
  rw[e,he] at this
  cases this
 have cmp:∀{κ:SortKind},κ=general'∨κ=oneType'→∀i j C,i < (ps.map fun p=>Value.ref p.1).length→j < (ps.map fun p=>Value.ref p.1).length→C (Srt.lt (Srt.rank (ps.map (·.2))) i j) sg→kas_ask P w B κ (ps.map fun p=>Value.ref p.1) i j C sg:=fun {κ} hκ i j C hi hj hC=>by
  rw[List.length_map] at hi hj
  have ei:ps[i]?=some ps[i]:=List.getElem?_eq_getElem hi
  have ej:ps[j]?=some ps[j]:=List.getElem?_eq_getElem hj
  unfold kas_ask
  rw[zk (fun p:Addr × List Int=>Value.ref p.1) _ ei,zk (fun p:Addr × List Int=>Value.ref p.1) _ ej]
  rw[Srt.znk (by rw[List.length_map];exact hi) (by rw[List.length_map];exact hj),zk (fun p:Addr × List Int=>p.2) _ ei,zk (fun p:Addr × List Int=>p.2) _ ej] at hC
  have one:∀k,(hk:k < ps.length)→TupsG sg.heap [ps[k]]:=fun k hk q hq=>by
   rw[List.mem_singleton.mp hq]
   exact tup _ (List.getElem_mem hk)
  exact zvf hκ hu (one i hi) (one j hj) hC
 by_cases fst:(fs.toArray[0]?.bind id).isSome=true
 ·refine ⟨general',fun R hR=>?_,cmp (.inl rfl)⟩
  rw[kat_kind_eq,List.mapM_toArray,map_eq_pure_bind]
  refine wpAny_bind (wpAny_bind (f2 _ (wpAny_pure ?_)))
  rw[if_neg notAll,if_pos fst]
  exact wpAny_pure hR
 ·refine ⟨oneType',fun R hR=>?_,cmp (.inr rfl)⟩
  rw[kat_kind_eq,List.mapM_toArray,map_eq_pure_bind]
  refine wpAny_bind (wpAny_bind (f2 _ (wpAny_pure ?_)))
  rw[if_neg notAll,if_neg fst,oneTypeOnly'_eq,List.mapM_toArray,map_eq_pure_bind]
  have ty : ∀ v ∈ (ps.map fun p => Value.ref p.1), ∀ W : Value → Shared → Prop, W (.type "tuple") sg → wpAny (model P w) B (typeOf v) W (fun _ _ => False) sg := fun v hv W hW => by
   obtain ⟨p,hp,rfl⟩:=List.mem_map.mp hv
   obtain ⟨us,o,n,a1,a2,a3,a4⟩:=tup p hp
   have lk:Looks (model P w) sg.heap (typeOf (.ref p.1)) o.cls:=(Looks.ld a2).andThen .now
   rw[a3] at lk
   exact lk.here hW
  refine wpAny_bind (wpAny_bind (wpAny_bind (kas_mapM (r := Value.type "tuple") _ ty (wpAny_pure ?_))))
  obtain ⟨p,hp,_⟩:=emp
  obtain ⟨p0,rest,rfl⟩:∃p0 rest,ps=p0::rest:=by
   cases ps with
   | nil=>exact nomatch hp
   | cons p0 rest=>exact ⟨p0,rest,rfl⟩
  have all : ((List.map (fun _ => Value.type "tuple") ((p0 :: rest).map fun p => Value.ref p.1)).toArray.all fun x => x == Value.type "tuple") = true := by
   rw[List.all_toArray,List.all_eq_true]
   intro x hx
   obtain ⟨_,_,rfl⟩:=List.mem_map.mp hx
   rfl
  have zero : (List.map (fun _ => Value.type "tuple") ((p0 :: rest).map fun p => Value.ref p.1)).toArray[0]? = some (Value.type "tuple") := by simp
  rw[zero]
  simp only[all,ite_true]
  exact wpAny_pure (wpAny_pure hR)
theorem zsm {ps:List (Addr × List Int)} (hu:B.units < cLine) (h2:2≤ps.length) (tup:TupsG sg.heap ps):Srt.Answers P w B (Srt.rank (ps.map (·.2))) (ps.map fun p=>Value.ref p.1) sg:=by
 by_cases c:∃p∈ps,p.2=[]
 ·exact zvh hu tup c
 ·refine zvg h2 fun i p hi=>?_
  have hp:=List.mem_of_getElem? hi
  obtain ⟨us,o,n,a1,a2,a3,a4⟩:=tup p hp
  exact ⟨us,o,n,a1,a2,a3,a4,fun z=>c ⟨p,hp,z⟩⟩
end
theorem zge (z:List (Addr × List Int)):Vals (z.map fun p=>V.ref p.1) (z.map fun p=>Value.ref p.1):=by
 induction z with
 | nil=>exact .nil
 | cons x z ih=>exact .cons rfl ih
section
variable {X:Cx}
end
end L2
set_option maxHeartbeats 4000000
namespace TS
open PySem PyProof.Rows
noncomputable def kA (R:Keyed→Nat) (xs:Array Keyed) (i:Nat):Nat:=match xs[i]? with
 | some p=>R p
 | none=>0
theorem zdd {R:Keyed→Nat} {xs ys:Array Keyed} {i j:Nat} (h:xs[i]?=ys[j]?):kA R xs i=kA R ys j:=by unfold kA;rw[h]
theorem kA_get {R:Keyed→Nat} {xs:Array Keyed} {i:Nat} {x:Keyed} (h:xs[i]?=some x):kA R xs i=R x:=by unfold kA;rw[h]
noncomputable def UpA (R:Keyed→Nat) (xs:Array Keyed) (a b:Nat):Prop:=∀i j,a≤i→i≤j→j < b→kA R xs i≤kA R xs j
noncomputable def DnA (R:Keyed→Nat) (xs:Array Keyed) (a b:Nat):Prop:=∀i j,a≤i→i≤j→j < b→kA R xs j≤kA R xs i
section
variable {prog:Program} {w:World} {A:Around} {E:Value→Shared→Prop} {s:Shared} {κ:SortKind} {a₀:Array Keyed} {R:Keyed→Nat}
noncomputable def Orc (prog:Program) (w:World) (A:Around) (s:Shared) (κ:SortKind) (a₀:Array Keyed) (R:Keyed→Nat):Prop :=
 ∀x,x∈a₀.toList→∀y,y∈a₀.toList→∀(C:Bool→Shared→Prop),C (decide (R x < R y)) s→wpAny (model prog w) A (keyLt' κ x.1 y.1) C (fun _ _=>False) s
structure B (κ:SortKind) (a₀:Array Keyed) (st:SortSt):Prop where
 perm:(arrOf st).Perm a₀
 kind:kindOf st=κ
 failed:failedOf st=none
theorem B.size {st:SortSt} (h:B κ a₀ st):(arrOf st).size=a₀.size:=h.perm.size_eq
theorem B.set {st:SortSt} (h:B κ a₀ st) {xs:Array Keyed} (hp:xs.Perm (arrOf st)):B κ a₀ (setArr st xs):=⟨hp.trans h.perm,h.kind,h.failed⟩
theorem B.mem {st:SortSt} (h:B κ a₀ st) {i:Nat} (hi:i < a₀.size):∃x,(arrOf st)[i]?=some x∧x∈a₀.toList:=by
 have hi':i < (arrOf st).size:=by rw[h.size];exact hi
 exact ⟨_,getElem?_pos _ i hi',(Array.perm_iff_toList_perm.mp h.perm).mem_iff.mp (by simp)⟩
theorem w_lt {x y:Keyed} {st:SortSt} {Q:Option Bool→SortSt→Prop} (O:Orc prog w A s κ a₀ R) (hk:kindOf st=κ) (hx:x∈a₀.toList) (hy:y∈a₀.toList) (h:Q (some (decide (R x < R y))) st):wpS (model prog w) A E s (lt' x y) Q st:=by
 rw[lt'_eq]
 refine wpS_bind (wpS_get ?_)
 rw[hk]
 refine wpS_bind (wpS_lift (wpAny_attempt (wpAny_mono (O x hx y hy (fun b s'=>s'=s∧b=decide (R x < R y)) ⟨rfl,rfl⟩) (fun b s' hb=>?_) fun _ _ f=>f.elim)))
 obtain ⟨rfl,rfl⟩:=hb
 exact ⟨rfl,wpS_pure h⟩
theorem w_elem {arr:Array Keyed} {i:Nat} {x:Keyed} {st:SortSt} {Q:Keyed→SortSt→Prop} (e:arr[i]?=some x) (h:Q x st):wpS (model prog w) A E s (elem' arr i) Q st:=by
 rw[elem'_eq,e]
 exact wpS_pure h
theorem w_ltAt {i j:Nat} {st:SortSt} {Q:Option Bool→SortSt→Prop} (O:Orc prog w A s κ a₀ R) (b:B κ a₀ st) (hi:i < a₀.size) (hj:j < a₀.size) (h:Q (some (decide (kA R (arrOf st) i < kA R (arrOf st) j))) st):wpS (model prog w) A E s (ltAt' i j) Q st:=by
 obtain ⟨x,e1,m1⟩:=b.mem hi
 obtain ⟨y,e2,m2⟩:=b.mem hj
 rw[kA_get e1,kA_get e2] at h
 rw[ltAt'_eq]
 exact wpS_bind (wpS_get (wpS_bind (w_elem e1 (wpS_bind (w_elem e2 (w_lt O b.kind m1 m2 h))))))
theorem w_rev {i j:Nat} {st:SortSt} {Q:Unit→SortSt→Prop} (h:Q () (setArr st (mirror (arrOf st) i j ((j - i) / 2)))):wpS (model prog w) A E s (reverseSlice' i j) Q st:=by
 rw[reverseSlice'_eq]
 exact wpS_modify h
theorem w_move {i j:Nat} {st:SortSt} {Q:Unit→SortSt→Prop} (h:Q () (setArr st (bubble (arrOf st) i (i - j)))):wpS (model prog w) A E s (moveDown' i j) Q st:=by
 rw[moveDown'_eq]
 exact wpS_modify h
theorem zib {xs:Array Keyed} {i j:Nat} (hj:j≤xs.size) (k:Nat):kA R (mirror xs i j ((j - i) / 2)) k=if i≤k∧k < j then kA R xs (i+j - 1 - k) else kA R xs k:=by
 have e:=getElem?_mirror_all (i:=i) hj k
 split
 ·rename_i c;rw[if_pos c] at e;exact zdd e
 ·rename_i c;rw[if_neg c] at e;exact zdd e
noncomputable def Out (xs ys:Array Keyed) (a b:Nat):Prop:=∀k,k < a∨b≤k→xs[k]?=ys[k]?
theorem Out.refl (xs:Array Keyed) (a b:Nat):Out xs xs a b:=fun _ _=>rfl
theorem Out.trans {xs ys zs:Array Keyed} {a b:Nat} (h1:Out xs ys a b) (h2:Out ys zs a b):Out xs zs a b:=fun k hk=>(h1 k hk).trans (h2 k hk)
theorem Out.mirror {xs:Array Keyed} {i j a b:Nat} (hj:j≤xs.size) (hi:a≤i) (hb:j≤b):Out (mirror xs i j ((j - i) / 2)) xs a b:=fun k hk=>by
 rw[getElem?_mirror_all (i:=i) hj k,if_neg (by omega)]
theorem Out.bubble {xs:Array Keyed} {src d a b:Nat} (hs:src < xs.size) (hd:d≤src) (ha:a≤src - d) (hb:src < b):Out (bubble xs src d) xs a b:=fun k hk=>by
 rw[getElem?_bubble hs d hd k,if_neg (by omega),if_neg (by omega)]
structure Sm (st st':SortSt) (a b:Nat):Prop where
 out:Out (arrOf st') (arrOf st) a b
 pend:pendingOf st'=pendingOf st
theorem w_asc {lo a nrem:Nat} {st:SortSt} {Q:Option (Option Nat) × Nat→SortSt→Prop} (O:Orc prog w A s κ a₀ R) (b:B κ a₀ st) (hn:lo+nrem≤a₀.size) (ha:1≤a) (han:a≤nrem) (hs:UpA R (arrOf st) lo (lo+a))
  (h:∀n,a≤n→n≤nrem→UpA R (arrOf st) lo (lo+n)→(n=nrem∨kA R (arrOf st) (lo+n) < kA R (arrOf st) (lo+n - 1))→Q (none,n) st) :
  wpS (model prog w) A E s (forIn [a:nrem] ((none,a):Option (Option Nat) × Nat) fun _ r=>do
   let x ← ltAt' (lo+r.2) (lo+r.2 - 1)
   match x with
   | some smaller=>if smaller=true then pure (ForInStep.done (none,r.2)) else pure (ForInStep.yield (none,r.2+1))
   | _=>pure (ForInStep.done (some none,r.2))) Q st:=by
 refine wpS_forRange (I:=fun x c st'=>st'=st∧c=(none,x)∧UpA R (arrOf st) lo (lo+x)) ?_ ?_ ⟨rfl,rfl,hs⟩
 ·rintro x c st' h1 h2 ⟨rfl,rfl,h3⟩
  dsimp only
  refine wpS_bind (w_ltAt O b (by omega) (by omega) ?_)
  by_cases c:kA R (arrOf st') (lo+x) < kA R (arrOf st') (lo+x - 1)
  ·simp only[c,decide_true,if_true]
   exact wpS_pure (h x h1 (by omega) h3 (.inr c))
  ·simp only[c,decide_false,Bool.false_eq_true,if_false]
   refine wpS_pure ⟨rfl,rfl,fun i j hi hij hj=>?_⟩
   by_cases e:j=lo+x
   ·subst e
    by_cases e2:i=lo+x
    ·rw[e2];exact Nat.le_refl _
    ·have:=h3 i (lo+x - 1) hi (by omega) (by omega);omega
   ·exact h3 i j hi hij (by omega)
 ·rintro c st' ⟨rfl,rfl,h3⟩
  rw[show max a nrem=nrem by omega] at h3 ⊢
  exact h nrem han (Nat.le_refl _) h3 (.inl rfl)
theorem zgq {xs:Array Keyed} {i j:Nat} (hj:j≤xs.size) (he:∀k,i≤k→k < j→kA R xs k=kA R xs (j - 1)) (k:Nat):kA R (mirror xs i j ((j - i) / 2)) k=kA R xs k:=by
 rw[zib hj]
 split
 ·rw[he _ (by omega) (by omega),he k (by omega) (by omega)]
 ·rfl
structure Fl (κ:SortKind) (a₀:Array Keyed) (R:Keyed→Nat) (st₀ st:SortSt) (lo n neq b:Nat):Prop where
 base:B κ a₀ st
 same:Sm st₀ st lo b
 dn:DnA R (arrOf st) lo (lo+n)
 hq:neq+1≤n
 eqs:∀i,lo+n - (neq+1)≤i→i < lo+n→kA R (arrOf st) i=kA R (arrOf st) (lo+n - 1)
theorem Fl.turn {st₀ st:SortSt} {lo n neq b:Nat} (h:Fl κ a₀ R st₀ st lo n neq b) (hb:lo+n≤b) (hs:b≤a₀.size) :
  Fl κ a₀ R st₀ (setArr st (mirror (arrOf st) (lo+n - (neq+1)) (lo+n) ((lo+n - (lo+n - (neq+1))) / 2))) lo n neq b∧∀k,kA R (mirror (arrOf st) (lo+n - (neq+1)) (lo+n) ((lo+n - (lo+n - (neq+1))) / 2)) k=kA R (arrOf st) k:=by
 have hz:=h.base.size
 have hq:=h.hq
 have e:=zgq (R:=R) (xs:=arrOf st) (i:=lo+n - (neq+1)) (j:=lo+n) (by omega) h.eqs
 refine ⟨⟨h.base.set (mirror_perm _ _ _ _),⟨(Out.mirror (by omega) (by omega) hb).trans h.same.out,h.same.pend⟩,fun i j a1 a2 a3=>?_,h.hq,fun i a1 a2=>?_⟩,e⟩
 ·show kA R (mirror _ _ _ _) j≤kA R (mirror _ _ _ _) i
  rw[e,e];exact h.dn i j a1 a2 a3
 ·show kA R (mirror _ _ _ _) i=kA R (mirror _ _ _ _) _
  rw[e,e];exact h.eqs i a1 a2
theorem Fl.less {st₀ st:SortSt} {lo n neq b:Nat} (h:Fl κ a₀ R st₀ st lo n neq b) (c:kA R (arrOf st) (lo+n)≤kA R (arrOf st) (lo+n - 1)):DnA R (arrOf st) lo (lo+(n+1)):=fun i j a1 a2 a3=>by
 have hq:=h.hq
 by_cases e:j=lo+n
 ·subst e
  by_cases e2:i=lo+n
  ·rw[e2];exact Nat.le_refl _
  ·exact Nat.le_trans c (h.dn i (lo+n - 1) a1 (by omega) (by omega))
 ·exact h.dn i j a1 a2 (by omega)
theorem Fl.fresh {st₀ st:SortSt} {lo n neq b:Nat} (h:Fl κ a₀ R st₀ st lo n neq b) (c:kA R (arrOf st) (lo+n)≤kA R (arrOf st) (lo+n - 1)):Fl κ a₀ R st₀ st lo (n+1) 0 b:=⟨h.base,h.same,h.less c,by omega,fun i g1 g2=>by
 have:i=lo+(n+1) - 1:=by omega
 rw[this]⟩
theorem Fl.more {st₀ st:SortSt} {lo n neq b:Nat} (h:Fl κ a₀ R st₀ st lo n neq b) (c:kA R (arrOf st) (lo+n)=kA R (arrOf st) (lo+n - 1)):Fl κ a₀ R st₀ st lo (n+1) (neq+1) b:=by
 have hq:=h.hq
 refine ⟨h.base,h.same,h.less (by omega),by omega,fun i g1 g2=>?_⟩
 rw[show lo+(n+1) - 1=lo+n by omega]
 by_cases e:i=lo+n
 ·rw[e]
 ·rw[c];exact h.eqs i (by omega) (by omega)
theorem zvj {lo nrem:Nat} {st:SortSt} {Q:Option Nat→SortSt→Prop} (O:Orc prog w A s κ a₀ R) (b:B κ a₀ st) (hn:lo+nrem≤a₀.size) (h1:1≤nrem)
  (h:∀m st',1≤m→m≤nrem→B κ a₀ st'→Sm st st' lo (lo+nrem)→UpA R (arrOf st') lo (lo+m)→Q (some m) st'):wpS (model prog w) A E s (countRun' lo nrem) Q st:=by
 have sm0:Sm st st lo (lo+nrem):=⟨Out.refl _ _ _,rfl⟩
 have one:∀xs:Array Keyed,UpA R xs lo (lo+1):=fun xs i j a1 a2 a3=>by
  have:i=j:=by omega
  subst this;exact Nat.le_refl _
 have oneD:∀xs:Array Keyed,DnA R xs lo (lo+1):=fun xs i j a1 a2 a3=>by
  have:i=j:=by omega
  subst this;exact Nat.le_refl _
 rw[countRun'_eq]
 dsimp only
 refine wpS_bind (w_asc O b hn (Nat.le_refl _) h1 (one _) fun n n1 n2 hu hlast=>?_)
 dsimp only
 split
 ·exact wpS_pure (h n st n1 n2 b sm0 hu)
 rename_i hne
 have hne':n≠nrem:=fun z=>hne (by simp[z])
 have hlt:n < nrem:=by omega
 have hl:kA R (arrOf st) (lo+n) < kA R (arrOf st) (lo+n - 1):=by
  rcases hlast with z | z
  ·exact absurd z hne'
  ·exact z
 have hz:=b.size
 have fin:∀(n:Nat) (st1:SortSt),B κ a₀ st1→Sm st st1 lo (lo+nrem)→1≤n→n≤nrem→DnA R (arrOf st1) lo (lo+n) →
   B κ a₀ (setArr st1 (mirror (arrOf st1) lo (lo+n) ((lo+n - lo) / 2)))∧Sm st (setArr st1 (mirror (arrOf st1) lo (lo+n) ((lo+n - lo) / 2))) lo (lo+nrem)∧UpA R (mirror (arrOf st1) lo (lo+n) ((lo+n - lo) / 2)) lo (lo+n):=fun n st1 b1 sm1 m1 m2 dn1=>by
  have hz:=b1.size
  refine ⟨b1.set (mirror_perm _ _ _ _),⟨(Out.mirror (by omega) (Nat.le_refl _) (by omega)).trans sm1.out,sm1.pend⟩,fun i j a1 a2 a3=>?_⟩
  rw[zib (by omega),zib (by omega),if_pos (by omega),if_pos (by omega)]
  exact dn1 _ _ (by omega) (by omega) (by omega)
 have eqs:¬ kA R (arrOf st) lo < kA R (arrOf st) (lo+n - 1)→∀k,lo≤k→k < lo+n→kA R (arrOf st) k=kA R (arrOf st) (lo+n - 1):=fun c k k1 k2=>by
  have g1:=hu lo k (Nat.le_refl _) k1 k2
  have g2:=hu k (lo+n - 1) k1 (by omega) (by omega)
  omega
 have dnx:∀xs:Array Keyed,(∀k,kA R xs k=kA R (arrOf st) k)→¬ kA R (arrOf st) lo < kA R (arrOf st) (lo+n - 1)→DnA R xs lo (lo+(n+1)):=fun xs e c i j a1 a2 a3=>by
  rw[e,e]
  by_cases e2:j=lo+n
  ·subst e2
   by_cases e3:i=lo+n
   ·rw[e3];exact Nat.le_refl _
   ·rw[eqs c i a1 (by omega)];omega
  ·rw[eqs c i a1 (by omega),eqs c j (by omega) (by omega)];exact Nat.le_refl _
 split
 ·refine wpS_bind (w_ltAt O b (by omega) (by omega) ?_)
  by_cases c:kA R (arrOf st) lo < kA R (arrOf st) (lo+n - 1)
  ·simp only[c,decide_true,if_true]
   exact wpS_pure (h n st n1 n2 b sm0 hu)
  ·simp only[c,decide_false,Bool.false_eq_true,if_false]
   refine wpS_bind (w_rev ?_)
   have b1:B κ a₀ (setArr st (mirror (arrOf st) lo (lo+n) ((lo+n - lo) / 2))):=b.set (mirror_perm _ _ _ _)
   have sm1:Sm st (setArr st (mirror (arrOf st) lo (lo+n) ((lo+n - lo) / 2))) lo (lo+nrem):=⟨Out.mirror (by omega) (Nat.le_refl _) (by omega),rfl⟩
   have dn1:DnA R (arrOf (setArr st (mirror (arrOf st) lo (lo+n) ((lo+n - lo) / 2)))) lo (lo+(n+1)):=dnx _ (zgq (by omega) (eqs c)) c
   generalize (setArr st (mirror (arrOf st) lo (lo+n) ((lo+n - lo) / 2)))=st1 at b1 sm1 dn1 ⊢
   refine wpS_bind (wpS_lift (wpAny_rule ⟨rfl,?_⟩))
   refine wpS_bind (wpS_mono (wpS_forRange (I:=fun x c st'=>∃neq,c=(none,x,neq)∧Fl κ a₀ R st st' lo x neq (lo+nrem)) (Q:=fun c st'=>∃m neq,c=(none,m,neq)∧n+1≤m∧m≤nrem∧Fl κ a₀ R st st' lo m neq (lo+nrem)) ?_ ?_ ?_) ?_)
   ·rintro x c st' a1 a2 ⟨neq,rfl,f⟩
    dsimp only
    refine wpS_bind (w_ltAt O f.base (by omega) (by omega) ?_)
    by_cases c:kA R (arrOf st') (lo+x) < kA R (arrOf st') (lo+x - 1)
    ·simp only[c,decide_true,if_true]
     split
     ·obtain ⟨f2,e⟩:=f.turn (by omega) hn
      refine wpS_bind (w_rev (wpS_pure ⟨0,rfl,f2.fresh ?_⟩))
      refine Nat.le_of_lt (?_:kA R (mirror _ _ _ _) _ < kA R (mirror _ _ _ _) _)
      rw[e,e];exact c
     ·exact wpS_pure ⟨0,rfl,f.fresh (by omega)⟩
    ·simp only[c,decide_false,Bool.false_eq_true,if_false]
     refine wpS_bind (w_ltAt O f.base (by omega) (by omega) ?_)
     by_cases c2:kA R (arrOf st') (lo+x - 1) < kA R (arrOf st') (lo+x)
     ·simp only[c2,decide_true,if_true]
      exact wpS_pure ⟨x,neq,rfl,a1,by omega,f⟩
     ·simp only[c2,decide_false,Bool.false_eq_true,if_false]
      exact wpS_pure ⟨neq+1,rfl,f.more (by omega)⟩
   ·rintro c st' ⟨neq,rfl,f⟩
    rw[show max (n+1) nrem=nrem by omega] at f ⊢
    exact ⟨nrem,neq,rfl,by omega,Nat.le_refl _,f⟩
   ·exact ⟨0,rfl,b1,sm1,dn1,by omega,fun i g1 g2=>by
     have:i=lo+(n+1) - 1:=by omega
     rw[this]⟩
   ·rintro c st' ⟨m,neq,rfl,a1,a2,f⟩
    dsimp only
    split
    ·obtain ⟨f2,e⟩:=f.turn (by omega) hn
     refine wpS_bind (w_rev (wpS_bind (w_rev ?_)))
     obtain ⟨b3,s3,u3⟩:=fin m _ f2.base f2.same (by omega) a2 f2.dn
     exact wpS_bind (w_asc O b3 hn (by omega) a2 u3 fun m' m1 m2 hu' _=>wpS_pure (h m' _ (by omega) m2 b3 s3 hu'))
    ·refine wpS_bind (w_rev ?_)
     obtain ⟨b3,s3,u3⟩:=fin m _ f.base f.same (by omega) a2 f.dn
     exact wpS_bind (w_asc O b3 hn (by omega) a2 u3 fun m' m1 m2 hu' _=>wpS_pure (h m' _ (by omega) m2 b3 s3 hu'))
 ·rename_i hn1
  have b1:=b
  have sm1:=sm0
  have dn1:DnA R (arrOf st) lo (lo+(n+1)):=dnx _ (fun _=>rfl) (by
   have:n=1:=by omega
   subst this
   simp)
  refine wpS_bind (wpS_lift (wpAny_rule ⟨rfl,?_⟩))
  refine wpS_bind (wpS_mono (wpS_forRange (I:=fun x c st'=>∃neq,c=(none,x,neq)∧Fl κ a₀ R st st' lo x neq (lo+nrem)) (Q:=fun c st'=>∃m neq,c=(none,m,neq)∧n+1≤m∧m≤nrem∧Fl κ a₀ R st st' lo m neq (lo+nrem)) ?_ ?_ ?_) ?_)
  ·rintro x c st' a1 a2 ⟨neq,rfl,f⟩
   dsimp only
   refine wpS_bind (w_ltAt O f.base (by omega) (by omega) ?_)
   by_cases c:kA R (arrOf st') (lo+x) < kA R (arrOf st') (lo+x - 1)
   ·simp only[c,decide_true,if_true]
    split
    ·obtain ⟨f2,e⟩:=f.turn (by omega) hn
     refine wpS_bind (w_rev (wpS_pure ⟨0,rfl,f2.fresh ?_⟩))
     refine Nat.le_of_lt (?_:kA R (mirror _ _ _ _) _ < kA R (mirror _ _ _ _) _)
     rw[e,e];exact c
    ·exact wpS_pure ⟨0,rfl,f.fresh (by omega)⟩
   ·simp only[c,decide_false,Bool.false_eq_true,if_false]
    refine wpS_bind (w_ltAt O f.base (by omega) (by omega) ?_)
    by_cases c2:kA R (arrOf st') (lo+x - 1) < kA R (arrOf st') (lo+x)
    ·simp only[c2,decide_true,if_true]
     exact wpS_pure ⟨x,neq,rfl,a1,by omega,f⟩
    ·simp only[c2,decide_false,Bool.false_eq_true,if_false]
     exact wpS_pure ⟨neq+1,rfl,f.more (by omega)⟩
  ·rintro c st' ⟨neq,rfl,f⟩
   rw[show max (n+1) nrem=nrem by omega] at f ⊢
   exact ⟨nrem,neq,rfl,by omega,Nat.le_refl _,f⟩
  ·exact ⟨0,rfl,b1,sm1,dn1,by omega,fun i g1 g2=>by
    have:i=lo+(n+1) - 1:=by omega
    rw[this]⟩
  ·rintro c st' ⟨m,neq,rfl,a1,a2,f⟩
   dsimp only
   split
   ·obtain ⟨f2,e⟩:=f.turn (by omega) hn
    refine wpS_bind (w_rev (wpS_bind (w_rev ?_)))
    obtain ⟨b3,s3,u3⟩:=fin m _ f2.base f2.same (by omega) a2 f2.dn
    exact wpS_bind (w_asc O b3 hn (by omega) a2 u3 fun m' m1 m2 hu' _=>wpS_pure (h m' _ (by omega) m2 b3 s3 hu'))
   ·refine wpS_bind (w_rev ?_)
    obtain ⟨b3,s3,u3⟩:=fin m _ f.base f.same (by omega) a2 f.dn
    exact wpS_bind (w_asc O b3 hn (by omega) a2 u3 fun m' m1 m2 hu' _=>wpS_pure (h m' _ (by omega) m2 b3 s3 hu'))
end
end TS
set_option maxHeartbeats 4000000
namespace TS
open PySem PyProof.Rows
section
variable {prog:Program} {w:World} {A:Around} {E:Value→Shared→Prop} {s:Shared} {κ:SortKind} {a₀:Array Keyed} {R:Keyed→Nat}
theorem zll {xs:Array Keyed} {src d:Nat} (hs:src < xs.size) (hd:d≤src) (k:Nat):kA R (bubble xs src d) k=if k=src - d then kA R xs src else if src - d < k∧k≤src then kA R xs (k - 1) else kA R xs k:=by
 have e:=getElem?_bubble hs d hd k
 split
 ·rename_i c;rw[if_pos c] at e;exact zdd e
 ·rename_i c
  rw[if_neg c] at e
  split
  ·rename_i c2;rw[if_pos c2] at e;exact zdd e
  ·rename_i c2;rw[if_neg c2] at e;exact zdd e
theorem w_bin {lo n ok:Nat} {st:SortSt} {Q:Bool→SortSt→Prop} (O:Orc prog w A s κ a₀ R) (b:B κ a₀ st) (hn:lo+n≤a₀.size) (h1:1≤ok) (h2:ok≤n) (up:UpA R (arrOf st) lo (lo+ok))
  (h:∀st',B κ a₀ st'→Sm st st' lo (lo+n)→UpA R (arrOf st') lo (lo+n)→Q true st'):wpS (model prog w) A E s (binarySort' lo n ok) Q st:=by
 rw[binarySort'_eq]
 refine wpS_bind (wpS_mono (wpS_forRange (I:=fun k c st'=>c=(none,())∧B κ a₀ st'∧Sm st st' lo (lo+n)∧UpA R (arrOf st') lo (lo+min k n))
  (Q:=fun c st'=>c=(none,())∧B κ a₀ st'∧Sm st st' lo (lo+n)∧UpA R (arrOf st') lo (lo+n)) ?_ ?_ ?_) ?_)
 ·rintro k c st' k1 k2 ⟨rfl,b1,sm1,up1⟩
  rw[show min k n=k by omega] at up1
  have hz:=b1.size
  refine wpS_bind (wpS_mono (wpS_forRange (I:=fun x c st2=>st2=st'∧∃l r,c=(none,l,r)∧l≤r∧r≤k∧r - l≤k - x∧(∀i,i < l→kA R (arrOf st') (lo+i)≤kA R (arrOf st') (lo+k))∧(∀i,r≤i→i < k→kA R (arrOf st') (lo+k)≤kA R (arrOf st') (lo+i)))
   (Q:=fun c st2=>st2=st'∧∃l r,c=(none,l,r)∧l≤k∧(∀i,i < l→kA R (arrOf st') (lo+i)≤kA R (arrOf st') (lo+k))∧(∀i,l≤i→i < k→kA R (arrOf st') (lo+k)≤kA R (arrOf st') (lo+i))) ?_ ?_ ?_) ?_)
  ·rintro x c st2 x1 x2 ⟨rfl,l,r,rfl,g1,g2,g3,g4,g5⟩
   dsimp only
   by_cases hge:l ≥ r
   ·rw[if_pos hge]
    have e:l=r:=by omega
    subst e
    exact wpS_pure ⟨rfl,l,l,rfl,g2,g4,g5⟩
   ·rw[if_neg hge]
    refine wpS_bind (w_ltAt O b1 (by omega) (by omega) ?_)
    by_cases c:kA R (arrOf st2) (lo+k) < kA R (arrOf st2) (lo+(l+r) / 2)
    ·simp only[c,decide_true,if_true]
     exact wpS_pure ⟨rfl,l,(l+r) / 2,rfl,by omega,by omega,by omega,g4,fun i a1 a2=>Nat.le_trans (Nat.le_of_lt c) (up1 _ _ (by omega) (by omega) (by omega))⟩
    ·simp only[c,decide_false,Bool.false_eq_true,if_false]
     exact wpS_pure ⟨rfl,(l+r) / 2+1,r,rfl,by omega,by omega,by omega,fun i a1=>Nat.le_trans (up1 (lo+i) (lo+(l+r) / 2) (by omega) (by omega) (by omega)) (by omega),g5⟩
  ·rintro c st2 ⟨rfl,l,r,rfl,g1,g2,g3,g4,g5⟩
   have e:l=r:=by omega
   subst e
   exact ⟨rfl,l,l,rfl,g2,g4,g5⟩
  ·exact ⟨rfl,0,k,rfl,by omega,by omega,by omega,fun i hi=>by omega,fun i a1 a2=>by omega⟩
  ·rintro c st2 ⟨rfl,l,r,rfl,g1,g2,g3⟩
   dsimp only
   refine wpS_bind (w_move (wpS_pure ⟨rfl,b1.set (bubble_perm _ _ _),⟨(Out.bubble (by omega) (by omega) (by omega) (by omega)).trans sm1.out,sm1.pend⟩,fun i j a1 a2 a3=>?_⟩))
   show kA R (bubble (arrOf st2) (lo+k) (lo+k - (lo+l))) i≤kA R (bubble (arrOf st2) (lo+k) (lo+k - (lo+l))) j
   have hd:lo+k - (lo+k - (lo+l))=lo+l:=by omega
   rw[zll (by omega) (by omega),zll (by omega) (by omega),hd]
   have low:∀q,lo≤q→q < lo+l→kA R (arrOf st2) q≤kA R (arrOf st2) (lo+k):=fun q q1 q2=>by
    have:=g2 (q - lo) (by omega)
    rw[show lo+(q - lo)=q by omega] at this
    exact this
   have hig:∀q,lo+l≤q→q < lo+k→kA R (arrOf st2) (lo+k)≤kA R (arrOf st2) q:=fun q q1 q2=>by
    have:=g3 (q - lo) (by omega) (by omega)
    rw[show lo+(q - lo)=q by omega] at this
    exact this
   by_cases i1:i=lo+l
   ·rw[if_pos i1]
    by_cases j1:j=lo+l
    ·rw[if_pos j1];exact Nat.le_refl _
    ·rw[if_neg j1,if_pos (by omega)];exact hig _ (by omega) (by omega)
   ·rw[if_neg i1]
    by_cases i2:lo+l < i∧i≤lo+k
    ·rw[if_pos i2,if_neg (by omega),if_pos (by omega)]
     exact up1 _ _ (by omega) (by omega) (by omega)
    ·rw[if_neg i2]
     by_cases j1:j=lo+l
     ·rw[if_pos j1];exact low i a1 (by omega)
     ·rw[if_neg j1]
      by_cases j2:lo+l < j∧j≤lo+k
      ·rw[if_pos j2];exact up1 _ _ a1 (by omega) (by omega)
      ·rw[if_neg j2];exact up1 _ _ a1 a2 (by omega)
 ·rintro c st' ⟨rfl,b1,sm1,up1⟩
  rw[show min (max (max ok 1) n) n=n by omega] at up1
  exact ⟨rfl,b1,sm1,up1⟩
 ·refine ⟨rfl,b,⟨Out.refl _ _ _,rfl⟩,fun i j a1 a2 a3=>up i j a1 a2 (by omega)⟩
 ·rintro c st' ⟨rfl,b1,sm1,up1⟩
  exact wpS_pure (h st' b1 sm1 up1)
noncomputable def gallop':Bool→Keyed→Array Keyed→Nat→Nat→Nat→StateT SortSt Sem (Option Nat):=sortPriv% PySem.Builtin.gallop
noncomputable def Cut (left:Bool) (R:Keyed→Nat) (key:Keyed) (arr:Array Keyed) (base n h:Nat):Prop:=h≤n∧(∀i,i < h→if left then kA R arr (base+i) < R key else kA R arr (base+i)≤R key)∧(∀i,h≤i→i < n→if left then R key≤kA R arr (base+i) else R key < kA R arr (base+i))
noncomputable def ahead (left:Bool) (R:Keyed→Nat) (key:Keyed) (arr:Array Keyed) (base i:Nat):Bool:=if left then decide (kA R arr (base+i) < R key) else decide (kA R arr (base+i)≤R key)
theorem zii {left:Bool} {key:Keyed} {arr:Array Keyed} {base i:Nat} {st:SortSt} {Q:Option Bool→SortSt→Prop} (O:Orc prog w A s κ a₀ R) (hk:kindOf st=κ) (mk:key∈a₀.toList) (ma:∃x,arr[base+i]?=some x∧x∈a₀.toList) (h:Q (some (ahead left R key arr base i)) st) :
  wpS (model prog w) A E s (do
   let x ← elem' arr (base+i)
   if left=true then lt' x key else do
    let y ← lt' key x
    pure (Option.map (fun x=>!x) y)) Q st:=by
 obtain ⟨x,e,m⟩:=ma
 refine wpS_bind (w_elem e ?_)
 unfold ahead at h
 rw[kA_get e] at h
 cases left with
 | true =>
  rw[if_pos rfl] at h ⊢
  exact w_lt O hk m mk h
 | false =>
  rw[if_neg (by decide)] at h ⊢
  refine wpS_bind (w_lt O hk mk m (wpS_pure ?_))
  have q:(!decide (R key < R x))=decide (R x≤R key):=by
   by_cases c:R key < R x
   ·rw[decide_eq_true c,decide_eq_false (by omega)];rfl
   ·rw[decide_eq_false c,decide_eq_true (by omega)];rfl
  show Q (some (!decide (R key < R x))) st
  rw[q]
  exact h
theorem zpd {left:Bool} {key:Keyed} {arr:Array Keyed} {base n i j:Nat} (up:UpA R arr base (base+n)) (hij:i≤j) (hj:j < n) (h:ahead left R key arr base j=true):ahead left R key arr base i=true:=by
 have:=up (base+i) (base+j) (by omega) (by omega) (by omega)
 unfold ahead at h ⊢
 cases left with
 | true=>rw[if_pos rfl] at h ⊢;exact decide_eq_true (by have:=of_decide_eq_true h;omega)
 | false=>rw[if_neg (by decide)] at h ⊢;exact decide_eq_true (by have:=of_decide_eq_true h;omega)
theorem cut_of {left:Bool} {key:Keyed} {arr:Array Keyed} {base n h:Nat} (h0:h≤n) (h1:∀i,i < h→ahead left R key arr base i=true) (h2:∀i,h≤i→i < n→ahead left R key arr base i=false):Cut left R key arr base n h:=by
 refine ⟨h0,fun i hi=>?_,fun i a1 a2=>?_⟩
 ·have:=h1 i hi
  unfold ahead at this
  cases left with
  | true=>rw[if_pos rfl] at this ⊢;exact of_decide_eq_true this
  | false=>rw[if_neg (by decide)] at this ⊢;exact of_decide_eq_true this
 ·have:=h2 i a1 a2
  unfold ahead at this
  cases left with
  | true=>rw[if_pos rfl] at this ⊢;have:=of_decide_eq_false this;omega
  | false=>rw[if_neg (by decide)] at this ⊢;have:=of_decide_eq_false this;omega
theorem zfg {left:Bool} {key:Keyed} {arr:Array Keyed} {base n hint:Nat} {st:SortSt} {Q:Option Nat→SortSt→Prop} (O:Orc prog w A s κ a₀ R) (hk:kindOf st=κ) (mk:key∈a₀.toList) (ma:∀i,i < n→∃x,arr[base+i]?=some x∧x∈a₀.toList) (hh:hint < n)
  (up:UpA R arr base (base+n)) (h:∀k,Cut left R key arr base n k→Q (some k) st):wpS (model prog w) A E s (gallop' left key arr base n hint) Q st:=by
 have mono:∀i j,i≤j→j < n→ahead left R key arr base j=true→ahead left R key arr base i=true:=fun i j a1 a2=>zpd up a1 a2
 have monoF:∀i j,i≤j→j < n→ahead left R key arr base i=false→ahead left R key arr base j=false:=fun i j a1 a2 e=>by
  cases c:ahead left R key arr base j with
  | false=>rfl
  | true=>rw[mono i j a1 a2 c] at e;cases e
 refine wpS_bind (zii O hk mk (ma hint hh) ?_)
 dsimp only
 cases hr:ahead left R key arr base hint with
 | true =>
  rw[if_pos rfl]
  refine wpS_bind (wpS_mono (wpS_forRange (I:=fun x c st'=>st'=st∧∃l o,c=(none,l,o)∧l < o∧hint+l < n∧ahead left R key arr base (hint+l)=true∧x+1≤o)
   (Q:=fun c st'=>st'=st∧∃l o,c=(none,l,o)∧l < o∧hint+l < n∧ahead left R key arr base (hint+l)=true∧(n - hint≤o∨(hint+o < n∧ahead left R key arr base (hint+o)=false))) ?_ ?_ ?_) ?_)
  ·rintro x c st' x1 x2 ⟨rfl,l,o,rfl,g1,g2,g3,g4⟩
   dsimp only
   by_cases c:o ≥ n - hint
   ·rw[if_pos c]
    exact wpS_pure ⟨rfl,l,o,rfl,g1,g2,g3,.inl c⟩
   ·rw[if_neg c]
    refine wpS_bind (zii O hk mk (ma (hint+o) (by omega)) ?_)
    dsimp only
    cases c2:ahead left R key arr base (hint+o) with
    | true=>exact wpS_pure ⟨rfl,o,2 * o+1,rfl,by omega,by omega,c2,by omega⟩
    | false=>exact wpS_pure ⟨rfl,l,o,rfl,g1,g2,g3,.inr ⟨by omega,c2⟩⟩
  ·rintro c st' ⟨rfl,l,o,rfl,g1,g2,g3,g4⟩
   exact ⟨rfl,l,o,rfl,g1,g2,g3,.inl (by omega)⟩
  ·exact ⟨rfl,0,1,rfl,by omega,by omega,by rw[Nat.add_zero];exact hr,by omega⟩
  ·rintro c st' ⟨rfl,l,o,rfl,g1,g2,g3,g4⟩
   dsimp only
   have f1:∀i,i < hint+l+1→ahead left R key arr base i=true:=fun i hi=>mono i (hint+l) (by omega) g2 g3
   have f2:∀i,hint+min o (n - hint)≤i→i < n→ahead left R key arr base i=false:=fun i a1 a2=>by
    rcases g4 with g | ⟨ga,gb⟩
    ·omega
    ·exact monoF (hint+o) i (by omega) a2 gb
   have f3:hint+l+1≤hint+min o (n - hint):=by omega
   have f4:hint+min o (n - hint)≤n:=by omega
   generalize hint+l+1=lo at f1 f3 ⊢
   generalize hint+min o (n - hint)=hi at f2 f3 f4 ⊢
   refine wpS_bind (wpS_mono (wpS_forRange (I:=fun x c st2=>st2=st'∧∃a b,c=(none,a,b)∧a≤b∧b≤n∧b - a≤n - x∧(∀i,i < a→ahead left R key arr base i=true)∧(∀i,b≤i→i < n→ahead left R key arr base i=false))
    (Q:=fun c st2=>st2=st'∧∃b,c=(none,b,b)∧b≤n∧(∀i,i < b→ahead left R key arr base i=true)∧(∀i,b≤i→i < n→ahead left R key arr base i=false)) ?_ ?_ ⟨rfl,lo,hi,rfl,f3,f4,by omega,f1,f2⟩) ?_)
   ·rintro x c st2 x1 x2 ⟨rfl,a,b,rfl,q1,q2,q3,q4,q5⟩
    dsimp only
    by_cases c:a ≥ b
    ·rw[if_pos c]
     have e:a=b:=by omega
     subst e
     exact wpS_pure ⟨rfl,a,rfl,q2,q4,q5⟩
    ·rw[if_neg c]
     refine wpS_bind (zii O hk mk (ma (a+(b - a) / 2) (by omega)) ?_)
     dsimp only
     cases c2:ahead left R key arr base (a+(b - a) / 2) with
     | true=>exact wpS_pure ⟨rfl,a+(b - a) / 2+1,b,rfl,by omega,q2,by omega,fun i hi=>mono i (a+(b - a) / 2) (by omega) (by omega) c2,q5⟩
     | false=>exact wpS_pure ⟨rfl,a,a+(b - a) / 2,rfl,by omega,by omega,by omega,q4,fun i a1 a2=>monoF (a+(b - a) / 2) i a1 a2 c2⟩
   ·rintro c st2 ⟨rfl,a,b,rfl,q1,q2,q3,q4,q5⟩
    have e:a=b:=by omega
    subst e
    exact ⟨rfl,a,rfl,q2,q4,q5⟩
   ·rintro c st2 ⟨rfl,b,rfl,q2,q4,q5⟩
    exact wpS_pure (h b (cut_of q2 q4 q5))
 | false =>
  rw[if_neg (by decide)]
  refine wpS_bind (wpS_mono (wpS_forRange (I:=fun x c st'=>st'=st∧∃l o,c=(none,l,o)∧l < o∧l≤hint∧ahead left R key arr base (hint - l)=false∧x+1≤o)
   (Q:=fun c st'=>st'=st∧∃l o,c=(none,l,o)∧l < o∧l≤hint∧ahead left R key arr base (hint - l)=false∧(hint+1≤o∨(o≤hint∧ahead left R key arr base (hint - o)=true))) ?_ ?_ ?_) ?_)
  ·rintro x c st' x1 x2 ⟨rfl,l,o,rfl,g1,g2,g3,g4⟩
   dsimp only
   by_cases c:o ≥ hint+1
   ·rw[if_pos c]
    exact wpS_pure ⟨rfl,l,o,rfl,g1,g2,g3,.inl c⟩
   ·rw[if_neg c]
    refine wpS_bind (zii O hk mk (ma (hint - o) (by omega)) ?_)
    dsimp only
    cases c2:ahead left R key arr base (hint - o) with
    | true=>exact wpS_pure ⟨rfl,l,o,rfl,g1,g2,g3,.inr ⟨by omega,c2⟩⟩
    | false=>exact wpS_pure ⟨rfl,o,2 * o+1,rfl,by omega,by omega,c2,by omega⟩
  ·rintro c st' ⟨rfl,l,o,rfl,g1,g2,g3,g4⟩
   exact ⟨rfl,l,o,rfl,g1,g2,g3,.inl (by omega)⟩
  ·exact ⟨rfl,0,1,rfl,by omega,by omega,hr,by omega⟩
  ·rintro c st' ⟨rfl,l,o,rfl,g1,g2,g3,g4⟩
   dsimp only
   have f1:∀i,i < hint+1 - min o (hint+1)→ahead left R key arr base i=true:=fun i hi=>by
    rcases g4 with g | ⟨ga,gb⟩
    ·omega
    ·exact mono i (hint - o) (by omega) (by omega) gb
   have f2:∀i,hint - l≤i→i < n→ahead left R key arr base i=false:=fun i a1 a2=>monoF (hint - l) i a1 a2 g3
   have f3:hint+1 - min o (hint+1)≤hint - l:=by omega
   have f4:hint - l≤n:=by omega
   generalize hint+1 - min o (hint+1)=lo at f1 f3 ⊢
   generalize hint - l=hi at f2 f3 f4 ⊢
   refine wpS_bind (wpS_mono (wpS_forRange (I:=fun x c st2=>st2=st'∧∃a b,c=(none,a,b)∧a≤b∧b≤n∧b - a≤n - x∧(∀i,i < a→ahead left R key arr base i=true)∧(∀i,b≤i→i < n→ahead left R key arr base i=false))
    (Q:=fun c st2=>st2=st'∧∃b,c=(none,b,b)∧b≤n∧(∀i,i < b→ahead left R key arr base i=true)∧(∀i,b≤i→i < n→ahead left R key arr base i=false)) ?_ ?_ ⟨rfl,lo,hi,rfl,f3,f4,by omega,f1,f2⟩) ?_)
   ·rintro x c st2 x1 x2 ⟨rfl,a,b,rfl,q1,q2,q3,q4,q5⟩
    dsimp only
    by_cases c:a ≥ b
    ·rw[if_pos c]
     have e:a=b:=by omega
     subst e
     exact wpS_pure ⟨rfl,a,rfl,q2,q4,q5⟩
    ·rw[if_neg c]
     refine wpS_bind (zii O hk mk (ma (a+(b - a) / 2) (by omega)) ?_)
     dsimp only
     cases c2:ahead left R key arr base (a+(b - a) / 2) with
     | true=>exact wpS_pure ⟨rfl,a+(b - a) / 2+1,b,rfl,by omega,q2,by omega,fun i hi=>mono i (a+(b - a) / 2) (by omega) (by omega) c2,q5⟩
     | false=>exact wpS_pure ⟨rfl,a,a+(b - a) / 2,rfl,by omega,by omega,by omega,q4,fun i a1 a2=>monoF (a+(b - a) / 2) i a1 a2 c2⟩
   ·rintro c st2 ⟨rfl,a,b,rfl,q1,q2,q3,q4,q5⟩
    have e:a=b:=by omega
    subst e
    exact ⟨rfl,a,rfl,q2,q4,q5⟩
   ·rintro c st2 ⟨rfl,b,rfl,q2,q4,q5⟩
    exact wpS_pure (h b (cut_of q2 q4 q5))
end
end TS
set_option maxHeartbeats 4000000
namespace TS
open PySem PyProof.Rows
section
variable {prog:Program} {w:World} {A:Around} {E:Value→Shared→Prop} {s:Shared} {κ:SortKind} {a₀:Array Keyed} {R:Keyed→Nat}
noncomputable abbrev Ord (R:Keyed→Nat) (l:List Keyed):Prop:=l.Pairwise fun x y=>R x≤R y
structure SmG (st st':SortSt):Prop where
 arr:arrOf st'=arrOf st
 pend:pendingOf st'=pendingOf st
 kind:kindOf st'=kindOf st
 failed:failedOf st'=failedOf st
theorem SmG.refl (st:SortSt):SmG st st:=⟨rfl,rfl,rfl,rfl⟩
theorem SmG.trans {a b c:SortSt} (x:SmG a b) (y:SmG b c):SmG a c:=⟨y.arr.trans x.arr,y.pend.trans x.pend,y.kind.trans x.kind,y.failed.trans x.failed⟩
noncomputable def mergeLo':Array Keyed→Array Keyed→StateT SortSt Sem (Array Keyed):=sortPriv% PySem.Builtin.mergeLo
noncomputable def mergeHi':Array Keyed→Array Keyed→StateT SortSt Sem (Array Keyed):=sortPriv% PySem.Builtin.mergeHi
structure ML (R:Keyed→Nat) (all out rest:List Keyed):Prop where
 perm:(out++rest).Perm all
 ord:Ord R out
 le:∀x∈out,∀y∈rest,R x≤R y
theorem ML.grow {all out rest xs rest':List Keyed} (m:ML R all out rest) (p:rest.Perm (xs++rest')) (o:Ord R xs) (h:∀x∈xs,∀y∈rest',R x≤R y):ML R all (out++xs) rest':=by
 refine ⟨?_,List.pairwise_append.mpr ⟨m.ord,o,fun x hx y hy=>m.le x hx y (p.mem_iff.mpr (List.mem_append_left _ hy))⟩,fun x hx y hy=>?_⟩
 ·rw[List.append_assoc]
  exact (List.Perm.append_left out p.symm).trans m.perm
 ·rcases List.mem_append.mp hx with hx | hx
  ·exact m.le x hx y (p.mem_iff.mpr (List.mem_append_right _ hy))
  ·exact h x hx y hy
theorem ML.fin {all out rest rest':List Keyed} (m:ML R all out rest) (p:rest'.Perm rest) (o:Ord R rest'):(out++rest').Perm all∧Ord R (out++rest') :=
 ⟨(List.Perm.append_left out p).trans m.perm,List.pairwise_append.mpr ⟨m.ord,o,fun x hx y hy=>m.le x hx y (p.mem_iff.mp hy)⟩⟩
theorem Ord.at {l:List Keyed} (h:Ord R l) {i j:Nat} {x y:Keyed} (hi:l[i]?=some x) (hj:l[j]?=some y) (hij:i≤j):R x≤R y:=by
 obtain ⟨h1,e1⟩:=List.getElem?_eq_some_iff.mp hi
 obtain ⟨h2,e2⟩:=List.getElem?_eq_some_iff.mp hj
 by_cases c:i=j
 ·subst c;rw[← e1,← e2];exact Nat.le_refl _
 ·rw[← e1,← e2];exact List.pairwise_iff_getElem.mp h i j h1 h2 (by omega)
theorem Ord.drop {l:List Keyed} (h:Ord R l) (n:Nat):Ord R (l.drop n):=List.Pairwise.sublist (List.drop_sublist _ _) h
theorem Ord.take {l:List Keyed} (h:Ord R l) (n:Nat):Ord R (l.take n):=List.Pairwise.sublist (List.take_sublist _ _) h
theorem zbh {l:List Keyed} {n:Nat} {y:Keyed} (h:y∈l.drop n):∃j,n≤j∧l[j]?=some y:=by
 obtain ⟨i,hi,e⟩:=List.getElem_of_mem h
 refine ⟨n+i,by omega,?_⟩
 rw[← e,List.getElem_drop]
 exact List.getElem?_eq_getElem _
theorem zo {l:List Keyed} {n:Nat} {y:Keyed} (h:y∈l.take n):∃j,j < n∧l[j]?=some y:=by
 obtain ⟨i,hi,e⟩:=List.getElem_of_mem h
 have hi2:i < n∧i < l.length:=by rw[List.length_take] at hi;omega
 refine ⟨i,hi2.1,?_⟩
 rw[← e,List.getElem_take]
 exact List.getElem?_eq_getElem _
theorem zgu {l:List Keyed} {i:Nat} {x:Keyed} (h:l[i]?=some x):l.drop i=x::l.drop (i+1):=by
 obtain ⟨h1,rfl⟩:=List.getElem?_eq_some_iff.mp h
 exact List.drop_eq_getElem_cons h1
theorem zjb (l:List Keyed) (i k:Nat):l.drop i=(l.drop i).take k++l.drop (i+k):=by
 rw[← List.drop_drop,List.take_append_drop]
structure Two (R:Keyed→Nat) (la lb:List Keyed):Prop where
 oa:Ord R la
 ob:Ord R lb
 last:∀x,la[la.length - 1]?=some x→∀y∈lb,R y≤R x
noncomputable def Fin (R:Keyed→Nat) (la lb:List Keyed) (r:Array Keyed):Prop:=r.toList.Perm (la++lb)∧Ord R r.toList
variable {la lb:List Keyed} {out:Array Keyed} {ia ib:Nat}
theorem ML.pushB {R:Keyed→Nat} {all:List Keyed} (T:Two R la lb) (m:ML R all out.toList (la.drop ia++lb.drop ib)) {y:Keyed} (hy:lb[ib]?=some y) (h:∀z∈la.drop ia,R y≤R z):ML R all (out.push y).toList (la.drop ia++lb.drop (ib+1)):=by
 rw[Array.toList_push]
 refine m.grow ?_ (List.pairwise_singleton _ _) fun x hx z hz=>?_
 ·rw[zgu hy]
  exact List.perm_middle
 ·simp at hx;subst hx
  rcases List.mem_append.mp hz with hz | hz
  ·exact h z hz
  ·obtain ⟨j,hj,e⟩:=zbh hz
   exact T.ob.at hy e (by omega)
theorem ML.pushA {R:Keyed→Nat} {all:List Keyed} (T:Two R la lb) (m:ML R all out.toList (la.drop ia++lb.drop ib)) {x:Keyed} (hx:la[ia]?=some x) (h:∀z∈lb.drop ib,R x≤R z):ML R all (out.push x).toList (la.drop (ia+1)++lb.drop ib):=by
 rw[Array.toList_push]
 refine m.grow ?_ (List.pairwise_singleton _ _) fun w hw z hz=>?_
 ·rw[zgu hx]
  exact .refl _
 ·simp at hw;subst hw
  rcases List.mem_append.mp hz with hz | hz
  ·obtain ⟨j,hj,e⟩:=zbh hz
   exact T.oa.at hx e (by omega)
  ·exact h z hz
theorem zbs (xs:Array Keyed) (i j:Nat):(xs.extract i j).toList=(xs.toList.drop i).take (j - i):=by
 rw[Array.toList_extract,List.extract_eq_take_drop]
theorem zlp (xs:Array Keyed) (i:Nat):(xs.extract i).toList=xs.toList.drop i:=by
 rw[zbs]
 exact List.take_of_length_le (by simp)
theorem zbn {xs:Array Keyed} {i:Nat} {x:Keyed} (h:xs.toList[i]?=some x):kA R xs i=R x:=kA_get (by rw[← Array.getElem?_toList];exact h)
end
section
variable {prog:Program} {w:World} {A:Around} {E:Value→Shared→Prop} {s:Shared} {κ:SortKind} {a₀:Array Keyed} {R:Keyed→Nat} {a b out:Array Keyed} {ia ib k:Nat} {y x:Keyed} {all:List Keyed}
theorem ML.galA (T:Two R a.toList b.toList) (m:ML R all out.toList (a.toList.drop ia++b.toList.drop ib)) (hy:b.toList[ib]?=some y) (c:Cut false R y a ia (a.size - ia) k):ML R all (out++a.extract ia (ia+k)).toList (a.toList.drop (ia+k)++b.toList.drop ib)∧∀z∈a.toList.drop (ia+k),R y≤R z:=by
 have up:∀z∈a.toList.drop (ia+k),R y≤R z:=fun z hz=>by
  obtain ⟨j,hj,e⟩:=zbh hz
  have hj2:j < a.size:=by have:=(List.getElem?_eq_some_iff.mp e).1;simpa using this
  have:=c.2.2 (j - ia) (by omega) (by omega)
  rw[show ia+(j - ia)=j by omega,zbn e] at this
  exact Nat.le_of_lt this
 have low:∀z∈(a.toList.drop ia).take k,R z≤R y:=fun z hz=>by
  obtain ⟨j,hj,e⟩:=zo hz
  rw[List.getElem?_drop] at e
  have:=c.2.1 j hj
  rw[zbn e] at this
  exact this
 refine ⟨?_,up⟩
 rw[Array.toList_append,zbs,show ia+k - ia=k by omega]
 refine m.grow ?_ ((T.oa.drop ia).take k) fun z hz v hv=>?_
 ·conv=>lhs;rw[zjb a.toList ia k]
  rw[List.append_assoc]
 ·rcases List.mem_append.mp hv with hv | hv
  ·exact Nat.le_trans (low z hz) (up v hv)
  ·obtain ⟨j,hj,e⟩:=zbh hv
   exact Nat.le_trans (low z hz) (T.ob.at hy e hj)
theorem ML.galB (T:Two R a.toList b.toList) (m:ML R all out.toList (a.toList.drop ia++b.toList.drop ib)) (hx:a.toList[ia]?=some x) (c:Cut true R x b ib (b.size - ib) k):ML R all (out++b.extract ib (ib+k)).toList (a.toList.drop ia++b.toList.drop (ib+k))∧∀z∈b.toList.drop (ib+k),R x≤R z:=by
 have up:∀z∈b.toList.drop (ib+k),R x≤R z:=fun z hz=>by
  obtain ⟨j,hj,e⟩:=zbh hz
  have hj2:j < b.size:=by have:=(List.getElem?_eq_some_iff.mp e).1;simpa using this
  have:=c.2.2 (j - ib) (by omega) (by omega)
  rw[show ib+(j - ib)=j by omega,zbn e] at this
  exact this
 have low:∀z∈(b.toList.drop ib).take k,R z≤R x:=fun z hz=>by
  obtain ⟨j,hj,e⟩:=zo hz
  rw[List.getElem?_drop] at e
  have:=c.2.1 j hj
  rw[zbn e] at this
  exact Nat.le_of_lt this
 refine ⟨?_,up⟩
 rw[Array.toList_append,zbs,show ib+k - ib=k by omega]
 refine m.grow ?_ ((T.ob.drop ib).take k) fun z hz v hv=>?_
 ·conv=>lhs;rw[zjb b.toList ib k]
  rw[← List.append_assoc,← List.append_assoc]
  exact List.Perm.append_right _ List.perm_append_comm
 ·rcases List.mem_append.mp hv with hv | hv
  ·obtain ⟨j,hj,e⟩:=zbh hv
   exact Nat.le_trans (low z hz) (T.oa.at hx e hj)
  ·exact Nat.le_trans (low z hz) (up v hv)
theorem ML.done (T:Two R a.toList b.toList) (m:ML R (a.toList++b.toList) out.toList (a.toList.drop ia++b.toList.drop ib)) (h:ia=a.size∨ib=b.size):Fin R a.toList b.toList (out++a.extract ia++b.extract ib):=by
 unfold Fin
 rw[Array.toList_append,Array.toList_append,zlp,zlp,List.append_assoc]
 refine m.fin (.refl _) ?_
 rcases h with rfl | rfl
 ·rw[List.drop_eq_nil_of_le (by simp),List.nil_append];exact T.ob.drop _
 ·rw[List.drop_eq_nil_of_le (as:=b.toList) (by simp),List.append_nil];exact T.oa.drop _
theorem ML.lastA (T:Two R a.toList b.toList) (m:ML R (a.toList++b.toList) out.toList (a.toList.drop ia++b.toList.drop ib)) (h:ia+1=a.size):Fin R a.toList b.toList (out++b.extract ib++a.extract ia):=by
 unfold Fin
 rw[Array.toList_append,Array.toList_append,zlp,zlp,List.append_assoc]
 refine m.fin List.perm_append_comm (List.pairwise_append.mpr ⟨T.ob.drop _,T.oa.drop _,fun v hv z hz=>?_⟩)
 obtain ⟨j,hj,e⟩:=zbh hz
 have hj2:j < a.size:=by have:=(List.getElem?_eq_some_iff.mp e).1;simpa using this
 have:j=a.toList.length - 1:=by simp;omega
 subst this
 exact T.last z e v (List.mem_of_mem_drop hv)
noncomputable def setG':Nat→StateT SortSt Sem Unit:=sortPriv% PySem.Builtin.setMinGallop
theorem w_setG {g:Nat} {st:SortSt} {Q:Unit→SortSt→Prop} (h:∀st',SmG st st'→Q () st'):wpS (model prog w) A E s (setG' g) Q st :=
 wpS_modify (h _ ⟨rfl,rfl,rfl,rfl⟩)
theorem w_two {α:Type} {K:Nat→StateT SortSt Sem α} {Q:α→SortSt→Prop} {st:SortSt} (h:∀v,wpS (model prog w) A E s (K v) Q st):∀y x:Nat,wpS (model prog w) A E s (if y > 1 then K x else K y) Q st:=fun y x=>by
 by_cases e:y > 1
 ·rw[if_pos e];exact h x
 ·rw[if_neg e];exact h y
theorem w_cut {α:Type} {c c2:Prop} [Decidable c] [Decidable c2] {X Y Y':StateT SortSt Sem α} {Q:α→SortSt→Prop} {st:SortSt} (hY:¬c→Y'=Y) (h1:c→c2→wpS (model prog w) A E s X Q st) (h2:(c→¬c2)→wpS (model prog w) A E s Y Q st):wpS (model prog w) A E s (if c then (if c2 then X else Y) else Y') Q st:=by
 by_cases e:c
 ·rw[if_pos e]
  by_cases e2:c2
  ·rw[if_pos e2];exact h1 e e2
  ·rw[if_neg e2];exact h2 fun _=>e2
 ·rw[if_neg e,hY e];exact h2 fun z=>absurd z e
theorem w_cut3 {α:Type} {c c2 c3:Prop} [Decidable c] [Decidable c2] [Decidable c3] {X X3 Y Y':StateT SortSt Sem α} {Q:α→SortSt→Prop} {st:SortSt} (hY:¬c→Y'=Y) (h1:c→c2→wpS (model prog w) A E s X Q st) (h3:c→c3→wpS (model prog w) A E s X3 Q st) (h2:(c→¬c2∧¬c3)→wpS (model prog w) A E s Y Q st):wpS (model prog w) A E s (if c then (if c2 then X else if c3 then X3 else Y) else Y') Q st:=by
 by_cases e:c
 ·rw[if_pos e]
  by_cases e2:c2
  ·rw[if_pos e2];exact h1 e e2
  ·rw[if_neg e2]
   by_cases e3:c3
   ·rw[if_pos e3];exact h3 e e3
   ·rw[if_neg e3];exact h2 fun _=>⟨e2,e3⟩
 ·rw[if_neg e,hY e];exact h2 fun z=>absurd z e
theorem w_ifs {α:Type} {c c2:Prop} [Decidable c] [Decidable c2] {X X2 Y:StateT SortSt Sem α} {Q:α→SortSt→Prop} {st:SortSt} (h1:c→wpS (model prog w) A E s X Q st) (h2:c2→wpS (model prog w) A E s X2 Q st) (h3:¬c→¬c2→wpS (model prog w) A E s Y Q st):wpS (model prog w) A E s (if c then X else if c2 then X2 else Y) Q st:=by
 by_cases e:c
 ·rw[if_pos e];exact h1 e
 ·rw[if_neg e]
  by_cases e2:c2
  ·rw[if_pos e2];exact h2 e2
  ·rw[if_neg e2];exact h3 e e2
theorem w_if {α:Type} {c:Prop} [Decidable c] {X Y:StateT SortSt Sem α} {Q:α→SortSt→Prop} {st:SortSt} (h1:c→wpS (model prog w) A E s X Q st) (h2:¬c→wpS (model prog w) A E s Y Q st):wpS (model prog w) A E s (if c then X else Y) Q st:=by
 by_cases e:c
 ·rw[if_pos e];exact h1 e
 ·rw[if_neg e];exact h2 e
theorem w_el {α:Type} {arr:Array Keyed} {i:Nat} {x:Keyed} {f:Keyed→StateT SortSt Sem α} {Q:α→SortSt→Prop} {st:SortSt} (e:arr[i]?=some x) (h:wpS (model prog w) A E s (f x) Q st):wpS (model prog w) A E s (elem' arr i >>= f) Q st:=wpS_bind (w_elem e h)
theorem w_less {α:Type} {x y:Keyed} {f:Option Bool→StateT SortSt Sem α} {Q:α→SortSt→Prop} {st:SortSt} (O:Orc prog w A s κ a₀ R) (hk:kindOf st=κ) (hx:x∈a₀.toList) (hy:y∈a₀.toList) (h1:R x < R y→wpS (model prog w) A E s (f (some true)) Q st) (h2:R y≤R x→wpS (model prog w) A E s (f (some false)) Q st):wpS (model prog w) A E s (lt' x y >>= f) Q st:=by
 refine wpS_bind (w_lt O hk hx hy ?_)
 by_cases c:R x < R y
 ·rw[decide_eq_true c];exact h1 c
 ·rw[decide_eq_false c];exact h2 (Nat.le_of_not_lt c)
inductive Dn {β:Type} (R:Keyed→Nat) (a b:Array Keyed) (st:SortSt):Option (Array Keyed) × β→SortSt→Prop where
 | mk {r:Array Keyed} {z:β} {st':SortSt} (sm:SmG st st') (f:Fin R a.toList b.toList r):Dn R a b st (some r,z) st'
inductive L1 (R:Keyed→Nat) (a b:Array Keyed) (st:SortSt) (x:Nat):Option (Array Keyed) × Array Keyed × Nat × Nat × Nat→SortSt→Prop where
 | mk {out:Array Keyed} {ia ib g:Nat} {st':SortSt} (sm:SmG st st') (m:ML R (a.toList++b.toList) out.toList (a.toList.drop ia++b.toList.drop ib)) (ha:ia+1 < a.size) (hb:ib < b.size) (hx:x < ia+ib):L1 R a b st x (none,out,ia,ib,g) st'
inductive L2' (R:Keyed→Nat) (a b:Array Keyed) (st:SortSt) (x:Nat):Option (Array Keyed) × Array Keyed × Nat × Nat × Nat × Nat→SortSt→Prop where
 | mk {out:Array Keyed} {ia ib ac bc:Nat} {st':SortSt} (sm:SmG st st') (m:ML R (a.toList++b.toList) out.toList (a.toList.drop ia++b.toList.drop ib)) (ha:ia+1 < a.size) (hb:ib < b.size) (hx:x≤ia+ib):L2' R a b st x (none,out,ia,ib,ac,bc) st'
inductive L3 (R:Keyed→Nat) (a b:Array Keyed) (st:SortSt) (x:Nat):Option (Array Keyed) × Array Keyed × Nat × Nat × Nat × Nat × Nat→SortSt→Prop where
 | mk {out:Array Keyed} {ia ib g ac bc:Nat} {st':SortSt} (sm:SmG st st') (m:ML R (a.toList++b.toList) out.toList (a.toList.drop ia++b.toList.drop ib)) (ha:ia+1 < a.size) (hb:ib < b.size) (hx:x≤ia+ib):L3 R a b st x (none,out,ia,ib,g,ac,bc) st'
theorem zpi {st:SortSt} {Q:Array Keyed→SortSt→Prop} (O:Orc prog w A s κ a₀ R) (hk:kindOf st=κ) (ma:∀x∈a.toList,x∈a₀.toList) (mb:∀x∈b.toList,x∈a₀.toList) (T:Two R a.toList b.toList) (ha:1≤a.size) (hb:1≤b.size)
  (fst:∀y,b.toList[0]?=some y→∀x∈a.toList,R y≤R x) (h:∀r st',SmG st st'→Fin R a.toList b.toList r→Q r st'):wpS (model prog w) A E s (mergeLo' a b) Q st:=by
 have atA:∀i,i < a.size→∃x,a[i]?=some x∧a.toList[i]?=some x∧x∈a₀.toList:=fun i hi=>⟨a[i],getElem?_pos a i hi,by rw[Array.getElem?_toList];exact getElem?_pos a i hi,ma _ (by simp)⟩
 have atB:∀i,i < b.size→∃x,b[i]?=some x∧b.toList[i]?=some x∧x∈a₀.toList:=fun i hi=>⟨b[i],getElem?_pos b i hi,by rw[Array.getElem?_toList];exact getElem?_pos b i hi,mb _ (by simp)⟩
 have upA:∀i,UpA R a i (i+(a.size - i)):=fun i p q a1 a2 a3=>by
  have hq:q < a.size:=by omega
  obtain ⟨x,_,e1,_⟩:=atA p (by omega)
  obtain ⟨y,_,e2,_⟩:=atA q hq
  rw[zbn e1,zbn e2]
  exact T.oa.at e1 e2 a2
 have upB:∀i,UpA R b i (i+(b.size - i)):=fun i p q a1 a2 a3=>by
  have hq:q < b.size:=by omega
  obtain ⟨x,_,e1,_⟩:=atB p (by omega)
  obtain ⟨y,_,e2,_⟩:=atB q hq
  rw[zbn e1,zbn e2]
  exact T.ob.at e1 e2 a2
 obtain ⟨y0,f0,f1,f2⟩:=atB 0 (by omega)
 have start:ML R (a.toList++b.toList) (#[y0]:Array Keyed).toList (a.toList.drop 0++b.toList.drop 1):=by
  have z:ML R (a.toList++b.toList) (#[]:Array Keyed).toList (a.toList.drop 0++b.toList.drop 0):=⟨by simp,List.Pairwise.nil,by simp⟩
  exact z.pushB T f1 fun x hx=>fst y0 f1 x (List.mem_of_mem_drop hx)
 refine wpS_bind (wpS_lift (wpAny_rule ⟨rfl,wpS_bind (w_elem f0 (w_ifs (fun c1=>?_) (fun c2=>?_) fun c1 c2=>?_))⟩))
 ·exact wpS_pure (h _ _ (.refl _) (start.done T (.inr (by simpa using c1))))
 ·exact wpS_pure (h _ _ (.refl _) (start.lastA T (by simpa using c2)))
 simp only[beq_iff_eq] at c1 c2
 refine wpS_bind (wpS_get ?_)
 refine wpS_bind (wpS_mono (wpS_forRange (I:=L1 R a b st) (Q:=Dn R a b st) ?_ ?_ (.mk (.refl _) start (by omega) (by omega) (by omega))) ?_)
 ·rintro x c st1 x1 x2 @⟨out,ia,ib,g,st1,sm1,m,ha1,hb1,hx⟩
  dsimp only
  refine wpS_bind (wpS_mono (wpS_forRange (I:=fun _=>L2' R a b st (ia+ib)) (Q:=fun c st'=>Dn R a b st c st'∨L2' R a b st (ia+ib) c st') ?_ ?_ (.mk sm1 m ha1 hb1 (Nat.le_refl _))) ?_)
  ·rintro x' c st2 _ _ @⟨out,ia',ib',ac,bc,st2,sm2,m,ha2,hb2,hp⟩
   dsimp only
   obtain ⟨xa,ea,ela,mea⟩:=atA ia' (by omega)
   obtain ⟨yb,eb,elb,meb⟩:=atB ib' (by omega)
   refine w_el eb (w_el ea (w_less O (sm2.kind.trans hk) meb mea (fun cw=>w_el eb ?_) fun cw=>w_el ea ?_))
   ·skip
    have m2:=m.pushB T elb fun z hz=>by
     obtain ⟨j,hj,e⟩:=zbh hz
     exact Nat.le_trans (Nat.le_of_lt cw) (T.oa.at ela e hj)
    refine w_if (fun c5=>wpS_pure (.inl (.mk sm2 (m2.done T (.inr (eq_of_beq c5)))))) fun c5=>?_
    rw[beq_iff_eq] at c5
    have hb3:ib'+1 < b.size:=by omega
    have hp3:ia+ib≤ia'+(ib'+1):=by omega
    exact w_if (fun _=>wpS_pure (.inr (.mk sm2 m2 ha2 hb3 hp3))) fun _=>wpS_pure (.mk sm2 m2 ha2 hb3 hp3)
   ·skip
    have m2:=m.pushA T ela fun z hz=>by
     obtain ⟨j,hj,e⟩:=zbh hz
     exact Nat.le_trans cw (T.ob.at elb e hj)
    refine w_if (fun c5=>wpS_pure (.inl (.mk sm2 (m2.lastA T (eq_of_beq c5))))) fun c5=>?_
    rw[beq_iff_eq] at c5
    have ha3:ia'+1+1 < a.size:=by omega
    have hp3:ia+ib≤ia'+1+ib':=by omega
    exact w_if (fun _=>wpS_pure (.inr (.mk sm2 m2 ha3 hb2 hp3))) fun _=>wpS_pure (.mk sm2 m2 ha3 hb2 hp3)
  ·exact fun c st2 k=>.inr k
  ·rintro c st2 (⟨sm2,f⟩ | @⟨out,ia',ib',ac,bc,st2,sm2,m,ha2,hb2,hp⟩)
   ·exact wpS_pure (.mk sm2 f)
   ·dsimp only
    refine wpS_bind (wpS_lift (wpAny_rule ⟨rfl,?_⟩))
    refine wpS_bind (wpS_mono (wpS_forRange (I:=fun x'=>L3 R a b st (ia+ib+x')) (Q:=fun c st'=>Dn R a b st c st'∨L3 R a b st (ia+ib+1) c st') ?_ ?_ (.mk sm2 m ha2 hb2 hp)) ?_)
    ·rintro x' c st3 _ x2' @⟨out,ia',ib',g',ac,bc,st3,sm3,m,ha2,hb2,hp⟩
     dsimp only
     obtain ⟨yb,eb,elb,meb⟩:=atB ib' (by omega)
     generalize g' - 1=g1
     generalize g'=y
     revert g1;revert y
     refine w_two ?_
     intro gg
     refine wpS_bind (w_setG fun st4 sg=>?_)
     have sm4:=sm3.trans sg
     refine w_el eb (wpS_bind (zfg O (sm4.kind.trans hk) meb (fun i hi=>by obtain ⟨q,q1,q2,q3⟩:=atA (ia'+i) (by omega);exact ⟨q,q1,q3⟩) (by omega) (upA ia') fun k1 cut1=>?_))
     obtain ⟨m5,u5⟩:=m.galA T elb cut1
     have hk1:=cut1.1
     dsimp only
     refine w_cut3 (fun c6=>?_) (fun c6 c7=>?_) (fun c6 c8=>?_) fun hh=>?_
     ·have z:k1=0:=by omega
      subst z
      simp only[Nat.add_zero,Array.extract_eq_empty_of_le (Nat.min_le_left _ _),Array.append_empty]
     ·exact wpS_pure (.inl (.mk sm4 (m5.lastA T (eq_of_beq c7))))
     ·exact wpS_pure (.inl (.mk sm4 (m5.done T (.inl (eq_of_beq c8)))))
     have ha5:ia'+k1+1 < a.size:=by
      by_cases c6:k1 > 0
      ·have:=hh c6;simp at this;omega
      ·omega
     have hp5:ia+ib+x'≤ia'+k1+ib':=by omega
     clear hh
     generalize ia'+k1=ia5 at m5 u5 ha5 hp5 ⊢
     generalize out++a.extract ia' ia5=out5 at m5 ⊢
     have m6:=m5.pushB T elb u5
     obtain ⟨xa,ea,ela,mea⟩:=atA _ (Nat.lt_of_succ_lt ha5)
     refine w_el eb (w_if (fun c9=>wpS_pure (.inl (.mk sm4 (m6.done T (.inr (eq_of_beq c9)))))) fun c9=>w_el ea ?_)
     rw[beq_iff_eq] at c9
     refine wpS_bind (zfg O (sm4.kind.trans hk) mea (fun i hi=>by obtain ⟨q,q1,q2,q3⟩:=atB (ib'+1+i) (by omega);exact ⟨q,q1,q3⟩) (by omega) (upB (ib'+1)) fun k2 cut2=>?_)
     obtain ⟨m7,u7⟩:=m6.galB T ela cut2
     have hk2:=cut2.1
     dsimp only
     refine w_cut (fun d6=>?_) (fun d6 d7=>?_) fun hh=>?_
     ·have z2:k2=0:=by omega
      subst z2
      simp only[Nat.add_zero,Array.extract_eq_empty_of_le (Nat.min_le_left _ _),Array.append_empty]
     ·exact wpS_pure (.inl (.mk sm4 (m7.done T (.inr (eq_of_beq d7)))))
     have h20:ib'+1+k2≠b.size:=by
      by_cases d6:k2 > 0
      ·have:=hh d6;simp at this;omega
      ·omega
     have m8:=m7.pushA T ela u7
     refine w_el ea (w_if (fun d8=>wpS_pure (.inl (.mk sm4 (m8.lastA T (eq_of_beq d8))))) fun d8=>?_)
     rw[beq_iff_eq] at d8
     have ha9:ia5+1+1 < a.size:=by omega
     have hb9:ib'+1+k2 < b.size:=by omega
     have hp9:ia+ib+(x'+1)≤ia5+1+(ib'+1+k2):=by omega
     exact w_if (fun _=>wpS_pure (.inr (.mk sm4 m8 ha9 hb9 (Nat.le_trans (Nat.add_le_add_left (Nat.le_add_left 1 x') _) hp9)))) fun _=>wpS_pure (.mk sm4 m8 ha9 hb9 hp9)
    ·rintro c st3 ⟨sm3,m,ha2,hb2,hp⟩
     exact .inr (.mk sm3 m ha2 hb2 (by omega))
    ·rintro c st3 (⟨sm3,f⟩ | ⟨sm3,m,ha2,hb2,hp⟩)
     ·exact wpS_pure (.mk sm3 f)
     ·exact wpS_bind (w_setG fun st4 sg=>wpS_pure (.mk (sm3.trans sg) m ha2 hb2 (Nat.lt_of_lt_of_le (Nat.succ_lt_succ hx) hp)))
 ·rintro c st1 ⟨sm1,m,ha1,hb1,hx⟩
  omega
 ·rintro c st1 ⟨sm1,f⟩
  exact wpS_pure (h _ st1 sm1 f)
end
end TS
set_option maxHeartbeats 4000000
namespace TS
open PySem PyProof.Rows
structure MH (R:Keyed→Nat) (all out rest:List Keyed):Prop where
 perm:(rest++out.reverse).Perm all
 ord:Ord R out.reverse
 le:∀x∈rest,∀y∈out,R x≤R y
section
variable {R:Keyed→Nat}
theorem MH.grow {all out rest xs rest':List Keyed} (m:MH R all out rest) (p:rest.Perm (rest'++xs.reverse)) (o:Ord R xs.reverse) (h:∀x∈rest',∀y∈xs,R x≤R y):MH R all (out++xs) rest':=by
 refine ⟨?_,?_,fun x hx y hy=>?_⟩
 ·rw[List.reverse_append,← List.append_assoc]
  exact (List.Perm.append_right _ p.symm).trans m.perm
 ·rw[List.reverse_append]
  exact List.pairwise_append.mpr ⟨o,m.ord,fun x hx y hy=>m.le x (p.mem_iff.mpr (List.mem_append_right _ hx)) y (List.mem_reverse.mp hy)⟩
 ·rcases List.mem_append.mp hy with hy | hy
  ·exact m.le x (p.mem_iff.mpr (List.mem_append_left _ hx)) y hy
  ·exact h x hx y hy
theorem MH.fin {all out rest rest':List Keyed} (m:MH R all out rest) (p:rest'.Perm rest) (o:Ord R rest'):(rest'++out.reverse).Perm all∧Ord R (rest'++out.reverse) :=
 ⟨(List.Perm.append_right _ p).trans m.perm,List.pairwise_append.mpr ⟨o,m.ord,fun x hx y hy=>m.le x (p.mem_iff.mp hx) y (List.mem_reverse.mp hy)⟩⟩
theorem zgf {l:List Keyed} {i:Nat} {x:Keyed} (h:l[i]?=some x):l.take (i+1)=l.take i++[x]:=by
 obtain ⟨h1,rfl⟩:=List.getElem?_eq_some_iff.mp h
 exact List.take_succ_eq_append_getElem h1
structure TwoH (R:Keyed→Nat) (la lb:List Keyed):Prop where
 oa:Ord R la
 ob:Ord R lb
 first:∀y,lb[0]?=some y→∀x∈la,R y≤R x
variable {la lb all:List Keyed} {out:Array Keyed} {na nb:Nat}
theorem MH.pushB (T:TwoH R la lb) (m:MH R all out.toList (la.take na++lb.take (nb+1))) {y:Keyed} (hy:lb[nb]?=some y) (h:∀z∈la.take na,R z≤R y):MH R all (out.push y).toList (la.take na++lb.take nb):=by
 rw[Array.toList_push]
 refine m.grow ?_ (by simp) fun z hz w hw=>?_
 ·rw[zgf hy]
  simp
 ·simp at hw;subst hw
  rcases List.mem_append.mp hz with hz | hz
  ·exact h z hz
  ·obtain ⟨j,hj,e⟩:=zo hz
   exact T.ob.at e hy (by omega)
theorem MH.pushA (T:TwoH R la lb) (m:MH R all out.toList (la.take (na+1)++lb.take nb)) {x:Keyed} (hx:la[na]?=some x) (h:∀z∈lb.take nb,R z≤R x):MH R all (out.push x).toList (la.take na++lb.take nb):=by
 rw[Array.toList_push]
 refine m.grow ?_ (by simp) fun z hz w hw=>?_
 ·rw[zgf hx]
  simp only[List.reverse_singleton,List.append_assoc]
  exact List.Perm.append_left _ List.perm_append_comm
 ·simp at hw;subst hw
  rcases List.mem_append.mp hz with hz | hz
  ·obtain ⟨j,hj,e⟩:=zo hz
   exact T.oa.at e hx (by omega)
  ·exact h z hz
end
section
variable {prog:Program} {w:World} {A:Around} {E:Value→Shared→Prop} {s:Shared} {κ:SortKind} {a₀:Array Keyed} {R:Keyed→Nat} {a b out:Array Keyed} {na nb k:Nat} {y x:Keyed} {all:List Keyed}
theorem zoo (l:List Keyed) {k n:Nat} (h:k≤n):l.take n=l.take k++(l.drop k).take (n - k):=by
 conv=>lhs;rw[show n=k+(n - k) by omega,List.take_add]
theorem MH.galA (T:TwoH R a.toList b.toList) (m:MH R all out.toList (a.toList.take na++b.toList.take (nb+1))) (hy:b.toList[nb]?=some y) (hn:na≤a.size) (c:Cut false R y a 0 na k):MH R all (out++(a.extract k na).reverse).toList (a.toList.take k++b.toList.take (nb+1))∧∀z∈a.toList.take k,R z≤R y:=by
 have low:∀z∈a.toList.take k,R z≤R y:=fun z hz=>by
  obtain ⟨j,hj,e⟩:=zo hz
  have:=c.2.1 j hj
  rw[Nat.zero_add,zbn e] at this
  exact this
 have up:∀z∈(a.toList.drop k).take (na - k),R y≤R z:=fun z hz=>by
  obtain ⟨j,hj,e⟩:=zo hz
  rw[List.getElem?_drop] at e
  have:=c.2.2 (k+j) (by omega) (by omega)
  rw[Nat.zero_add,zbn e] at this
  exact Nat.le_of_lt this
 refine ⟨?_,low⟩
 rw[Array.toList_append,Array.toList_reverse,zbs]
 refine m.grow ?_ (by rw[List.reverse_reverse];exact (T.oa.drop k).take _) fun v hv z hz=>?_
 ·rw[List.reverse_reverse,zoo a.toList c.1,List.append_assoc,List.append_assoc]
  exact List.Perm.append_left _ List.perm_append_comm
 ·have hz:=up z (List.mem_reverse.mp hz)
  rcases List.mem_append.mp hv with hv | hv
  ·exact Nat.le_trans (low v hv) hz
  ·obtain ⟨j,hj,e⟩:=zo hv
   exact Nat.le_trans (T.ob.at e hy (by omega)) hz
theorem MH.galB (T:TwoH R a.toList b.toList) (m:MH R all out.toList (a.toList.take (na+1)++b.toList.take nb)) (hx:a.toList[na]?=some x) (hn:nb≤b.size) (c:Cut true R x b 0 nb k):MH R all (out++(b.extract k nb).reverse).toList (a.toList.take (na+1)++b.toList.take k)∧∀z∈b.toList.take k,R z≤R x:=by
 have low:∀z∈b.toList.take k,R z≤R x:=fun z hz=>by
  obtain ⟨j,hj,e⟩:=zo hz
  have:=c.2.1 j hj
  rw[Nat.zero_add,zbn e] at this
  exact Nat.le_of_lt this
 have up:∀z∈(b.toList.drop k).take (nb - k),R x≤R z:=fun z hz=>by
  obtain ⟨j,hj,e⟩:=zo hz
  rw[List.getElem?_drop] at e
  have:=c.2.2 (k+j) (by omega) (by omega)
  rw[Nat.zero_add,zbn e] at this
  exact this
 refine ⟨?_,low⟩
 rw[Array.toList_append,Array.toList_reverse,zbs]
 refine m.grow ?_ (by rw[List.reverse_reverse];exact (T.ob.drop k).take _) fun v hv z hz=>?_
 ·rw[List.reverse_reverse,zoo b.toList c.1,List.append_assoc]
 ·have hz:=up z (List.mem_reverse.mp hz)
  rcases List.mem_append.mp hv with hv | hv
  ·obtain ⟨j,hj,e⟩:=zo hv
   exact Nat.le_trans (T.oa.at e hx (by omega)) hz
  ·exact Nat.le_trans (low v hv) hz
theorem zie (xs:Array Keyed) (n:Nat):(xs.extract 0 n).toList=xs.toList.take n:=by
 rw[zbs,List.drop_zero,Nat.sub_zero]
theorem MH.done (T:TwoH R a.toList b.toList) (m:MH R (a.toList++b.toList) out.toList (a.toList.take na++b.toList.take nb)) (h:na=0∨nb=0):Fin R a.toList b.toList (a.extract 0 na++b.extract 0 nb++out.reverse):=by
 unfold Fin
 rw[Array.toList_append,Array.toList_append,zie,zie,Array.toList_reverse]
 refine m.fin (.refl _) ?_
 rcases h with rfl | rfl
 ·rw[List.take_zero,List.nil_append];exact T.ob.take _
 ·rw[List.take_zero,List.append_nil];exact T.oa.take _
theorem MH.firstB (T:TwoH R a.toList b.toList) (m:MH R (a.toList++b.toList) out.toList (a.toList.take na++b.toList.take nb)) (h:nb=1):Fin R a.toList b.toList (b.extract 0 nb++a.extract 0 na++out.reverse):=by
 unfold Fin
 rw[Array.toList_append,Array.toList_append,zie,zie,Array.toList_reverse]
 refine m.fin List.perm_append_comm (List.pairwise_append.mpr ⟨T.ob.take _,T.oa.take _,fun v hv z hz=>?_⟩)
 obtain ⟨j,hj,e⟩:=zo hv
 have:j=0:=by omega
 subst this
 exact T.first v e z (List.mem_of_mem_take hz)
inductive H1 (R:Keyed→Nat) (a b:Array Keyed) (st:SortSt) (x:Nat):Option (Array Keyed) × Nat × Nat × Array Keyed × Nat→SortSt→Prop where
 | mk {na nb:Nat} {out:Array Keyed} {g:Nat} {st':SortSt} (sm:SmG st st') (m:MH R (a.toList++b.toList) out.toList (a.toList.take na++b.toList.take nb)) (a1:1≤na) (a2:na≤a.size) (b1:2≤nb) (b2:nb≤b.size) (hx:x+na+nb < a.size+b.size):H1 R a b st x (none,na,nb,out,g) st'
inductive H2 (R:Keyed→Nat) (a b:Array Keyed) (st:SortSt) (x:Nat):Option (Array Keyed) × Nat × Nat × Array Keyed × Nat × Nat→SortSt→Prop where
 | mk {na nb:Nat} {out:Array Keyed} {ac bc:Nat} {st':SortSt} (sm:SmG st st') (m:MH R (a.toList++b.toList) out.toList (a.toList.take na++b.toList.take nb)) (a1:1≤na) (a2:na≤a.size) (b1:2≤nb) (b2:nb≤b.size) (hx:na+nb≤x):H2 R a b st x (none,na,nb,out,ac,bc) st'
inductive H3 (R:Keyed→Nat) (a b:Array Keyed) (st:SortSt) (x y:Nat):Option (Array Keyed) × Nat × Nat × Array Keyed × Nat × Nat × Nat→SortSt→Prop where
 | mk {na nb:Nat} {out:Array Keyed} {g ac bc:Nat} {st':SortSt} (sm:SmG st st') (m:MH R (a.toList++b.toList) out.toList (a.toList.take na++b.toList.take nb)) (a1:1≤na) (a2:na≤a.size) (b1:2≤nb) (b2:nb≤b.size) (hx:y+na+nb≤x):H3 R a b st x y (none,na,nb,out,g,ac,bc) st'
theorem zpj {st:SortSt} {Q:Array Keyed→SortSt→Prop} (O:Orc prog w A s κ a₀ R) (hk:kindOf st=κ) (ma:∀x∈a.toList,x∈a₀.toList) (mb:∀x∈b.toList,x∈a₀.toList) (T:TwoH R a.toList b.toList) (ha:1≤a.size) (hb:1≤b.size)
  (lst:∀x,a.toList[a.size - 1]?=some x→∀y∈b.toList,R y≤R x) (h:∀r st',SmG st st'→Fin R a.toList b.toList r→Q r st'):wpS (model prog w) A E s (mergeHi' a b) Q st:=by
 have atA:∀i,i < a.size→∃x,a[i]?=some x∧a.toList[i]?=some x∧x∈a₀.toList:=fun i hi=>⟨a[i],getElem?_pos a i hi,by rw[Array.getElem?_toList];exact getElem?_pos a i hi,ma _ (by simp)⟩
 have atB:∀i,i < b.size→∃x,b[i]?=some x∧b.toList[i]?=some x∧x∈a₀.toList:=fun i hi=>⟨b[i],getElem?_pos b i hi,by rw[Array.getElem?_toList];exact getElem?_pos b i hi,mb _ (by simp)⟩
 have upA:∀n,n≤a.size→UpA R a 0 (0+n):=fun n hn p q a1 a2 a3=>by
  obtain ⟨x,_,e1,_⟩:=atA p (by omega)
  obtain ⟨y,_,e2,_⟩:=atA q (by omega)
  rw[zbn e1,zbn e2]
  exact T.oa.at e1 e2 a2
 have upB:∀n,n≤b.size→UpA R b 0 (0+n):=fun n hn p q a1 a2 a3=>by
  obtain ⟨x,_,e1,_⟩:=atB p (by omega)
  obtain ⟨y,_,e2,_⟩:=atB q (by omega)
  rw[zbn e1,zbn e2]
  exact T.ob.at e1 e2 a2
 obtain ⟨x0,f0,f1,f2⟩:=atA (a.size - 1) (by omega)
 have start:MH R (a.toList++b.toList) (#[x0]:Array Keyed).toList (a.toList.take (a.size - 1)++b.toList.take b.size):=by
  have z:MH R (a.toList++b.toList) (#[]:Array Keyed).toList (a.toList.take (a.size - 1+1)++b.toList.take b.size):=by
   refine ⟨?_,List.Pairwise.nil,by simp⟩
   rw[show a.size - 1+1=a.size by omega,List.take_of_length_le (by simp),List.take_of_length_le (by simp)]
   simp
  exact z.pushA T f1 fun y hy=>lst x0 f1 y (List.mem_of_mem_take hy)
 refine wpS_bind (wpS_lift (wpAny_rule ⟨rfl,wpS_bind (w_elem f0 (w_ifs (fun c1=>?_) (fun c2=>?_) fun c1 c2=>?_))⟩))
 ·exact wpS_pure (h _ _ (.refl _) (start.done T (.inl (by simpa using c1))))
 ·exact wpS_pure (h _ _ (.refl _) (start.firstB T (by simpa using c2)))
 simp only[beq_iff_eq] at c1 c2
 refine wpS_bind (wpS_get ?_)
 refine wpS_bind (wpS_mono (wpS_forRange (I:=H1 R a b st) (Q:=Dn R a b st) ?_ ?_ (.mk (.refl _) start (by omega) (by omega) (by omega) (Nat.le_refl _) (by omega))) ?_)
 ·rintro x c st1 x1 x2 @⟨na,nb,out,g,st1,sm1,m,a1,a2,b1,b2,hx⟩
  dsimp only
  refine wpS_bind (wpS_mono (wpS_forRange (I:=fun _=>H2 R a b st (na+nb)) (Q:=fun c st'=>Dn R a b st c st'∨H2 R a b st (na+nb) c st') ?_ ?_ (.mk sm1 m a1 a2 b1 b2 (Nat.le_refl _))) ?_)
  ·rintro x' c st2 _ _ @⟨na',nb',out,ac,bc,st2,sm2,m,g1,g2,g3,g4,hp⟩
   obtain ⟨p,rfl⟩:∃p,na'=p+1:=⟨na' - 1,by omega⟩
   obtain ⟨q,rfl⟩:∃q,nb'=q+1:=⟨nb' - 1,by omega⟩
   dsimp only
   simp only[Nat.add_sub_cancel]
   obtain ⟨xa,ea,ela,mea⟩:=atA p (by omega)
   obtain ⟨yb,eb,elb,meb⟩:=atB q (by omega)
   refine w_el eb (w_el ea (w_less O (sm2.kind.trans hk) meb mea (fun cw=>w_el ea ?_) fun cw=>w_el eb ?_))
   ·skip
    have m2:=m.pushA T ela fun z hz=>by
     obtain ⟨j,hj,e⟩:=zo hz
     exact Nat.le_trans (T.ob.at e elb (by omega)) (Nat.le_of_lt cw)
    refine w_if (fun c5=>wpS_pure (.inl (.mk sm2 (m2.done T (.inl (eq_of_beq c5)))))) fun c5=>?_
    rw[beq_iff_eq] at c5
    have a3:1≤p:=by omega
    have a4:p≤a.size:=by omega
    have a5:p+(q+1)≤na+nb:=by omega
    exact w_if (fun _=>wpS_pure (.inr (.mk sm2 m2 a3 a4 g3 g4 a5))) fun _=>wpS_pure (.mk sm2 m2 a3 a4 g3 g4 a5)
   ·skip
    have m2:=m.pushB T elb fun z hz=>by
     obtain ⟨j,hj,e⟩:=zo hz
     exact Nat.le_trans (T.oa.at e ela (by omega)) cw
    refine w_if (fun c5=>wpS_pure (.inl (.mk sm2 (m2.firstB T (eq_of_beq c5))))) fun c5=>?_
    rw[beq_iff_eq] at c5
    have a3:2≤q:=by omega
    have a4:q≤b.size:=by omega
    have a5:p+1+q≤na+nb:=by omega
    exact w_if (fun _=>wpS_pure (.inr (.mk sm2 m2 g1 g2 a3 a4 a5))) fun _=>wpS_pure (.mk sm2 m2 g1 g2 a3 a4 a5)
  ·exact fun c st2 k=>.inr k
  ·rintro c st2 (⟨sm2,f⟩ | @⟨na',nb',out,ac,bc,st2,sm2,m,g1,g2,g3,g4,hp⟩)
   ·exact wpS_pure (.mk sm2 f)
   ·dsimp only
    refine wpS_bind (wpS_lift (wpAny_rule ⟨rfl,?_⟩))
    refine wpS_bind (wpS_mono (wpS_forRange (I:=H3 R a b st (na+nb)) (Q:=fun c st'=>Dn R a b st c st'∨H3 R a b st (na+nb) 1 c st') ?_ ?_ (.mk sm2 m g1 g2 g3 g4 (by rw[Nat.zero_add];exact hp))) ?_)
    ·rintro x' c st3 _ x2' @⟨na',nb',out,g',ac,bc,st3,sm3,m,g1,g2,g3,g4,hp⟩
     obtain ⟨q,rfl⟩:∃q,nb'=q+1:=⟨nb' - 1,by omega⟩
     dsimp only
     simp only[Nat.add_sub_cancel]
     obtain ⟨yb,eb,elb,meb⟩:=atB q (by omega)
     generalize g' - 1=g1
     generalize g'=y
     revert g1;revert y
     refine w_two ?_
     intro gg
     refine wpS_bind (w_setG fun st4 sg=>?_)
     have sm4:=sm3.trans sg
     refine w_el eb (wpS_bind (zfg O (sm4.kind.trans hk) meb (fun i hi=>by obtain ⟨v,q1,q2,q3⟩:=atA (0+i) (by omega);exact ⟨v,q1,q3⟩) (by omega) (upA na' g2) fun k1 cut1=>?_))
     obtain ⟨m5,u5⟩:=m.galA T elb g2 cut1
     have hk1:=cut1.1
     dsimp only
     refine w_cut (fun c6=>?_) (fun c6 c7=>?_) fun hh=>?_
     ·have z:k1=na':=by omega
      subst z
      rw[show out++(a.extract k1 k1).reverse=out by simp[Nat.min_le_left]]
     ·exact wpS_pure (.inl (.mk sm4 (m5.done T (.inl (eq_of_beq c7)))))
     have g5:1≤k1:=by
      by_cases c6:na' - k1 > 0
      ·have:=hh c6;simp at this;omega
      ·omega
     have g6:k1≤a.size:=by omega
     have hp5:x'+k1+(q+1)≤na+nb:=by omega
     clear hh hk1 cut1
     generalize out++(a.extract k1 na').reverse=out5 at m5 ⊢
     obtain ⟨p,rfl⟩:∃p,k1=p+1:=⟨k1 - 1,by omega⟩
     simp only[Nat.add_sub_cancel]
     have m6:=m5.pushB T elb u5
     obtain ⟨xa,ea,ela,mea⟩:=atA p (by omega)
     refine w_el eb (w_if (fun c9=>wpS_pure (.inl (.mk sm4 (m6.firstB T (eq_of_beq c9))))) fun c9=>w_el ea ?_)
     rw[beq_iff_eq] at c9
     refine wpS_bind (zfg O (sm4.kind.trans hk) mea (fun i hi=>by obtain ⟨v,q1,q2,q3⟩:=atB (0+i) (by omega);exact ⟨v,q1,q3⟩) (by omega) (upB q (by omega)) fun k2 cut2=>?_)
     obtain ⟨m7,u7⟩:=m6.galB T ela (by omega) cut2
     have hk2:=cut2.1
     dsimp only
     refine w_cut3 (fun d6=>?_) (fun d6 d7=>?_) (fun d6 d9=>?_) fun hh=>?_
     ·have z2:k2=q:=by omega
      subst z2
      simp only[Array.extract_eq_empty_of_le (Nat.le_trans (Nat.min_le_left _ _) (Nat.le_refl _)),Array.reverse_empty,Array.append_empty]
     ·exact wpS_pure (.inl (.mk sm4 (m7.firstB T (eq_of_beq d7))))
     ·exact wpS_pure (.inl (.mk sm4 (m7.done T (.inr (eq_of_beq d9)))))
     have h20:2≤k2:=by
      by_cases d6:q - k2 > 0
      ·have:=hh d6;simp at this;omega
      ·omega
     have m8:=m7.pushA T ela u7
     refine w_el ea (w_if (fun d8=>wpS_pure (.inl (.mk sm4 (m8.done T (.inl (eq_of_beq d8)))))) fun d8=>?_)
     rw[beq_iff_eq] at d8
     have a3:1≤p:=by omega
     have a4:p≤a.size:=by omega
     have a5:k2≤b.size:=by omega
     have a6:x'+1+p+k2≤na+nb:=by omega
     exact w_if (fun _=>wpS_pure (.inr (.mk sm4 m8 a3 a4 h20 a5 (by omega)))) fun _=>wpS_pure (.mk sm4 m8 a3 a4 h20 a5 a6)
    ·rintro c st3 ⟨sm3,m,g1,g2,g3,g4,hp⟩
     exact .inr (.mk sm3 m g1 g2 g3 g4 (by omega))
    ·rintro c st3 (⟨sm3,f⟩ | @⟨na',nb',out,g',ac,bc,st3,sm3,m,g1,g2,g3,g4,hp⟩)
     ·exact wpS_pure (.mk sm3 f)
     ·have h9:x+1+na'+nb' < a.size+b.size:=by omega
      exact wpS_bind (w_setG fun st4 sg=>wpS_pure (.mk (sm3.trans sg) m g1 g2 g3 g4 h9))
 ·rintro c st1 ⟨sm1,m,a1,a2,b1,b2,hx⟩
  omega
 ·rintro c st1 ⟨sm1,f⟩
  exact wpS_pure (h _ st1 sm1 f)
end
end TS
set_option maxHeartbeats 4000000
namespace TS
open PySem PyProof.Rows
theorem znm:∀(l:List Keyed) (n off:Nat) (xs:Array Keyed),off+n+l.length≤xs.size→∀i,((l.zipIdx n).foldl (fun a p=>a.setIfInBounds (off+p.2) p.1) xs)[i]?=if off+n≤i∧i < off+n+l.length then l[i - (off+n)]? else xs[i]?
 | [],n,off,xs,h,i=>by
  rw[if_neg (by simp)]
  rfl
 | x::l,n,off,xs,h,i=>by
  rw[List.zipIdx_cons,List.foldl_cons]
  rw[List.length_cons] at h
  rw[znm l (n+1) off _ (by simp;omega) i]
  rw[List.length_cons]
  by_cases c:off+(n+1)≤i∧i < off+(n+1)+l.length
  ·rw[if_pos c,if_pos (by omega),show i - (off+n)=i - (off+(n+1))+1 by omega,List.getElem?_cons_succ]
  ·rw[if_neg c]
   by_cases c2:i=off+n
   ·rw[if_pos (by omega),c2,Nat.sub_self,List.getElem?_cons_zero]
    exact Array.getElem?_setIfInBounds_self_of_lt (by omega)
   ·rw[if_neg (by omega)]
    exact Array.getElem?_setIfInBounds_ne (fun z=>c2 (by omega))
theorem zta {m xs:Array Keyed} {off:Nat} (h:off+m.size≤xs.size):(m.toList.zipIdx.foldl (fun a p=>a.setIfInBounds (off+p.2) p.1) xs).toList=xs.toList.take off++m.toList++xs.toList.drop (off+m.size):=by
 apply List.ext_getElem?
 intro i
 rw[Array.getElem?_toList,znm m.toList 0 off xs (by simpa using h) i]
 simp only[Nat.add_zero,Array.length_toList]
 have l1:(xs.toList.take off).length=off:=by rw[List.length_take];simp;omega
 by_cases c:off≤i∧i < off+m.size
 ·rw[if_pos c,List.append_assoc,List.getElem?_append_right (by omega),l1,List.getElem?_append_left (by simp;omega)]
 ·rw[if_neg c]
  by_cases c2:i < off
  ·rw[List.append_assoc,List.getElem?_append_left (by omega),List.getElem?_take,if_pos c2,Array.getElem?_toList]
  ·rw[List.getElem?_append_right (by simp;omega),List.getElem?_drop]
   simp only[List.length_append,l1,Array.length_toList]
   rw[show off+m.size+(i - (off+m.size))=i by omega,Array.getElem?_toList]
section
variable {prog:Program} {w:World} {A:Around} {E:Value→Shared→Prop} {s:Shared} {κ:SortKind} {a₀:Array Keyed} {R:Keyed→Nat}
theorem zrv {xs:Array Keyed} {i j:Nat} (up:UpA R xs i j) (hj:j≤xs.size):Ord R (xs.extract i j).toList:=by
 rw[zbs]
 refine List.pairwise_iff_getElem.mpr fun p q hp hq hpq=>?_
 simp only[List.length_take,List.length_drop,Array.length_toList] at hp hq
 simp only[List.getElem_take,List.getElem_drop,Array.getElem_toList]
 have:=up (i+p) (i+q) (by omega) (by omega) (by omega)
 rw[kA_get (getElem?_pos xs (i+p) (by omega)),kA_get (getElem?_pos xs (i+q) (by omega))] at this
 exact this
theorem zhm {xs:Array Keyed} {i j:Nat} {x:Keyed} (h:x∈(xs.extract i j).toList):∃q,i≤q∧q < j∧xs[q]?=some x:=by
 rw[zbs] at h
 obtain ⟨q,hq,e⟩:=zo h
 rw[List.getElem?_drop,Array.getElem?_toList] at e
 exact ⟨i+q,by omega,by omega,e⟩
theorem ext_at {xs:Array Keyed} {i j q:Nat} (h:q < j - i):(xs.extract i j).toList[q]?=xs[i+q]?:=by
 rw[zbs,List.getElem?_take,if_pos h,List.getElem?_drop,Array.getElem?_toList]
structure Mg (R:Keyed→Nat) (xs ys:Array Keyed) (lo hi:Nat):Prop where
 perm:ys.Perm xs
 out:Out ys xs lo hi
 up:UpA R ys lo hi
theorem zqk {xs m:Array Keyed} {sa sb ea k nb':Nat} {y0 xl:Keyed} (hsb:sb≤ea) (hea:ea≤xs.size) (hk:sa+k < sb) (hnb:sb+nb'≤ea) (hnb1:1≤nb') (upA:UpA R xs sa sb) (upB:UpA R xs sb ea)
  (e0:xs[sb]?=some y0) (el:xs[sb - 1]?=some xl) (c1:Cut false R y0 xs sa (sb - sa) k) (c2:Cut true R xl xs sb (ea - sb) nb')
  (f:Fin R (xs.extract (sa+k) sb).toList (xs.extract sb (sb+nb')).toList m):Mg R xs (m.toList.zipIdx.foldl (fun a p=>a.setIfInBounds (sa+k+p.2) p.1) xs) sa ea:=by
 have lx:(xs.extract (sa+k) sb).toList.length=sb - (sa+k):=by rw[zbs];simp;omega
 have ly:(xs.extract sb (sb+nb')).toList.length=nb':=by rw[zbs];simp;omega
 have lm:m.size=sb+nb' - (sa+k):=by
  have:=f.1.length_eq
  rw[List.length_append,lx,ly,Array.length_toList] at this
  omega
 have hsz:sa+k+m.size≤xs.size:=by omega
 have g:∀i,(m.toList.zipIdx.foldl (fun a p=>a.setIfInBounds (sa+k+p.2) p.1) xs)[i]?=if sa+k≤i∧i < sb+nb' then m.toList[i - (sa+k)]? else xs[i]?:=fun i=>by
  have:=znm m.toList 0 (sa+k) xs (by simpa using hsz) i
  simp only[Nat.add_zero,Array.length_toList] at this
  rw[show sa+k+m.size=sb+nb' by omega] at this
  exact this
 have mid:∀v∈m.toList,R y0≤R v∧R v≤R xl:=fun v hv=>by
  rcases List.mem_append.mp (f.1.mem_iff.mp hv) with hv | hv
  ·obtain ⟨q,q1,q2,e⟩:=zhm hv
   have h1:=c1.2.2 (q - sa) (by omega) (by omega)
   rw[show sa+(q - sa)=q by omega,kA_get e] at h1
   have h2:=upA q (sb - 1) (by omega) (by omega) (by omega)
   rw[kA_get e,kA_get el] at h2
   have h1':R y0 < R v:=h1
   exact ⟨by omega,h2⟩
  ·obtain ⟨q,q1,q2,e⟩:=zhm hv
   have h1:=upB sb q (Nat.le_refl _) q1 (by omega)
   rw[kA_get e,kA_get e0] at h1
   have h2:=c2.2.1 (q - sb) (by omega)
   rw[show sb+(q - sb)=q by omega,kA_get e] at h2
   have h2':R v < R xl:=h2
   exact ⟨h1,by omega⟩
 have low:∀i,sa≤i→i < sa+k→kA R xs i≤R y0:=fun i a1 a2=>by
  have:=c1.2.1 (i - sa) (by omega)
  rw[show sa+(i - sa)=i by omega] at this
  exact this
 have hig:∀i,sb+nb'≤i→i < ea→R xl≤kA R xs i:=fun i a1 a2=>by
  have:=c2.2.2 (i - sb) (by omega) (by omega)
  rw[show sb+(i - sb)=i by omega] at this
  exact this
 have kk:∀i,kA R (m.toList.zipIdx.foldl (fun a p=>a.setIfInBounds (sa+k+p.2) p.1) xs) i=if sa+k≤i∧i < sb+nb' then kA R m (i - (sa+k)) else kA R xs i:=fun i=>by
  have:=g i
  split
  ·rename_i c;rw[if_pos c,Array.getElem?_toList] at this;exact zdd this
  ·rename_i c;rw[if_neg c] at this;exact zdd this
 have mm:∀i,i < m.size→∃v,m.toList[i]?=some v∧v∈m.toList:=fun i hi=>⟨m.toList[i]'(by simpa using hi),List.getElem?_eq_getElem _,List.getElem_mem _⟩
 refine ⟨?_,fun i hi=>?_,fun i j a1 a2 a3=>?_⟩
 ·refine Array.perm_iff_toList_perm.mpr ?_
  rw[zta hsz,show sa+k+m.size=sb+nb' by omega]
  have split:xs.toList=xs.toList.take (sa+k)++((xs.extract (sa+k) sb).toList++(xs.extract sb (sb+nb')).toList)++xs.toList.drop (sb+nb'):=by
   rw[zbs,zbs]
   rw[show sb+nb' - sb=nb' by omega]
   conv=>lhs;rw[← List.take_append_drop (sa+k) xs.toList,← List.take_append_drop (sb - (sa+k)) (xs.toList.drop (sa+k)),List.drop_drop,show sa+k+(sb - (sa+k))=sb by omega,← List.take_append_drop nb' (xs.toList.drop sb),List.drop_drop]
   simp only[List.append_assoc]
  conv=>rhs;rw[split]
  exact List.Perm.append_right _ (List.Perm.append_left _ f.1)
 ·rw[g i,if_neg (by omega)]
 ·rw[kk,kk]
  by_cases ci:sa+k≤i∧i < sb+nb'
  ·rw[if_pos ci]
   obtain ⟨v,ev,mv⟩:=mm (i - (sa+k)) (by omega)
   rw[zbn ev]
   by_cases cj:sa+k≤j∧j < sb+nb'
   ·rw[if_pos cj]
    obtain ⟨u,eu,mu⟩:=mm (j - (sa+k)) (by omega)
    rw[zbn eu]
    exact f.2.at ev eu (by omega)
   ·rw[if_neg cj]
    exact Nat.le_trans (mid v mv).2 (hig j (by omega) a3)
  ·rw[if_neg ci]
   by_cases ci2:i < sa+k
   ·have h1:=low i a1 ci2
    by_cases cj:sa+k≤j∧j < sb+nb'
    ·rw[if_pos cj]
     obtain ⟨u,eu,mu⟩:=mm (j - (sa+k)) (by omega)
     rw[zbn eu]
     exact Nat.le_trans h1 (mid u mu).1
    ·rw[if_neg cj]
     by_cases cj2:j < sa+k
     ·exact upA i j a1 a2 (by omega)
     ·have h2:=hig j (by omega) a3
      have h3:R y0≤R xl:=by
       have h4:=c1.2.2 (sb - 1 - sa) (by omega) (by omega)
       rw[show sa+(sb - 1 - sa)=sb - 1 by omega,kA_get el] at h4
       have h4':R y0 < R xl:=h4
       omega
      omega
   ·rw[if_neg (by omega)]
    exact upB i j (by omega) a2 a3
end
end TS
set_option maxHeartbeats 4000000
namespace TS
open PySem PyProof.Rows
section
variable {prog:Program} {w:World} {A:Around} {E:Value→Shared→Prop} {s:Shared} {κ:SortKind} {a₀:Array Keyed} {R:Keyed→Nat}
theorem w_set {x st:SortSt} {Q:Unit→SortSt→Prop} (h:Q () x):wpS (model prog w) A E s (set x:StateT SortSt Sem PUnit) Q st:=by
 unfold wpS
 rw[StateT.run_set]
 exact wpAny_pure ⟨rfl,h⟩
theorem zpk {i sa na pw sb nb pw':Nat} {st:SortSt} {Q:Bool→SortSt→Prop} (O:Orc prog w A s κ a₀ R) (b:B κ a₀ st) (p1:(pendingOf st)[i]?=some (sa,na,pw)) (p2:(pendingOf st)[i+1]?=some (sb,nb,pw')) (hsb:sb=sa+na) (hna:1≤na) (hnb:1≤nb) (hz:sb+nb≤a₀.size)
  (upA:UpA R (arrOf st) sa sb) (upB:UpA R (arrOf st) sb (sb+nb))
  (h:∀st',B κ a₀ st'→pendingOf st'=((pendingOf st).setIfInBounds i (sa,na+nb,pw)).eraseIdxIfInBounds (i+1)→Out (arrOf st') (arrOf st) sa (sb+nb)→UpA R (arrOf st') sa (sb+nb)→Q true st'):wpS (model prog w) A E s (mergeAt' i) Q st:=by
 have hsz:=b.size
 refine wpS_bind (wpS_get ?_)
 dsimp only
 have q1:(sortPriv% PySem.Builtin.SortState.pending) st=pendingOf st:=rfl
 rw[q1,p1,p2]
 dsimp only
 refine wpS_bind (w_set ?_)
 obtain ⟨y0,e0,my0⟩:=b.mem (i:=sb) (by omega)
 have inA:∀q,q < a₀.size→∃x,(arrOf st)[q]?=some x∧x∈a₀.toList:=fun q hq=>b.mem hq
 refine wpS_bind (w_elem e0 ?_)
 refine wpS_bind (zfg O b.kind my0 (fun q hq=>inA (sa+q) (by omega)) (by omega) (by rw[← hsb];exact upA) fun k c1=>?_)
 dsimp only
 have hk:=c1.1
 have c1':Cut false R y0 (arrOf st) sa (sb - sa) k:=by rw[show sb - sa=na by omega];exact c1
 by_cases d1:na - k=0
 ·rw[if_pos (by simpa using d1)]
  refine wpS_pure (h _ ⟨b.perm,b.kind,b.failed⟩ rfl (Out.refl _ _ _) fun p q a1 a2 a3=>?_)
  by_cases z1:q < sb
  ·exact upA p q a1 a2 z1
  ·by_cases z2:p < sb
   ·have h1:=c1.2.1 (p - sa) (by omega)
    rw[show sa+(p - sa)=p by omega] at h1
    have h2:=upB sb q (Nat.le_refl _) (by omega) a3
    rw[kA_get e0] at h2
    exact Nat.le_trans h1 h2
   ·exact upB p q (by omega) a2 a3
 ·rw[if_neg (by simpa using d1)]
  obtain ⟨xl,el,mxl⟩:=inA (sb - 1) (by omega)
  have el':(arrOf st)[sa+k+(na - k) - 1]?=some xl:=by rw[show sa+k+(na - k) - 1=sb - 1 by omega];exact el
  refine wpS_bind (w_elem el' ?_)
  refine wpS_bind (zfg O b.kind mxl (fun q hq=>inA (sb+q) (by omega)) (by omega) upB fun nb' c2=>?_)
  dsimp only
  have hn2:=c2.1
  have c2':Cut true R xl (arrOf st) sb (sb+nb - sb) nb':=by rw[show sb+nb - sb=nb by omega];exact c2
  by_cases d2:nb'=0
  ·rw[if_pos (by simpa using d2)]
   refine wpS_pure (h _ ⟨b.perm,b.kind,b.failed⟩ rfl (Out.refl _ _ _) fun p q a1 a2 a3=>?_)
   subst d2
   by_cases z1:q < sb
   ·exact upA p q a1 a2 z1
   ·by_cases z2:p < sb
    ·have h1:=upA p (sb - 1) a1 (by omega) (by omega)
     rw[kA_get el] at h1
     have h2:=c2.2.2 (q - sb) (by omega) (by omega)
     rw[show sb+(q - sb)=q by omega] at h2
     exact Nat.le_trans h1 h2
    ·exact upB p q (by omega) a2 a3
  ·rw[if_neg (by simpa using d2)]
   have oa:Ord R ((arrOf st).extract (sa+k) sb).toList:=zrv (fun p q a1 a2 a3=>upA p q (by omega) a2 a3) (by omega)
   have ob:Ord R ((arrOf st).extract sb (sb+nb')).toList:=zrv (fun p q a1 a2 a3=>upB p q a1 a2 (by omega)) (by omega)
   have ma:∀x∈((arrOf st).extract (sa+k) sb).toList,x∈a₀.toList:=fun x hx=>by
    obtain ⟨q,q1,q2,e⟩:=zhm hx
    obtain ⟨x',e',m'⟩:=inA q (by omega)
    rw[e] at e';cases e';exact m'
   have mb:∀x∈((arrOf st).extract sb (sb+nb')).toList,x∈a₀.toList:=fun x hx=>by
    obtain ⟨q,q1,q2,e⟩:=zhm hx
    obtain ⟨x',e',m'⟩:=inA q (by omega)
    rw[e] at e';cases e';exact m'
   have sx:((arrOf st).extract (sa+k) sb).size=sb - (sa+k):=by simp;omega
   have sy:((arrOf st).extract sb (sb+nb')).size=nb':=by simp;omega
   have fst:∀y,((arrOf st).extract sb (sb+nb')).toList[0]?=some y→∀x∈((arrOf st).extract (sa+k) sb).toList,R y≤R x:=fun y hy x hx=>by
    rw[ext_at (by omega),Nat.add_zero,e0] at hy
    cases hy
    obtain ⟨q,q1,q2,e⟩:=zhm hx
    have:=c1.2.2 (q - sa) (by omega) (by omega)
    rw[show sa+(q - sa)=q by omega,kA_get e] at this
    exact Nat.le_of_lt this
   have lst:∀x,((arrOf st).extract (sa+k) sb).toList[sb - (sa+k) - 1]?=some x→∀y∈((arrOf st).extract sb (sb+nb')).toList,R y≤R x:=fun x hx y hy=>by
    rw[ext_at (by omega),show sa+k+(sb - (sa+k) - 1)=sb - 1 by omega,el] at hx
    cases hx
    obtain ⟨q,q1,q2,e⟩:=zhm hy
    have:=c2.2.1 (q - sb) (by omega)
    rw[show sb+(q - sb)=q by omega,kA_get e] at this
    exact Nat.le_of_lt this
   have post:∀m st2,SmG st st2∨True→Fin R ((arrOf st).extract (sa+k) sb).toList ((arrOf st).extract sb (sb+nb')).toList m→Mg R (arrOf st) (m.toList.zipIdx.foldl (fun a p=>a.setIfInBounds (sa+k+p.2) p.1) (arrOf st)) sa (sb+nb):=fun m _ _ f =>
    zqk (by omega) (by omega) (by omega) (by omega) (by omega) upA upB e0 el c1' c2' f
   by_cases d3:na - k≤nb'
   ·rw[if_pos d3]
    refine wpS_bind (zpi O b.kind ma mb ⟨oa,ob,fun x hx=>lst x (by rw[Array.length_toList,sx] at hx;exact hx)⟩ (by show 1≤((arrOf st).extract (sa+k) sb).size;rw[sx];omega) (by show 1≤((arrOf st).extract sb (sb+nb')).size;rw[sy];omega) fst fun m st2 sg f=>?_)
    have mg:=post m st2 (.inr trivial) f
    refine wpS_bind (wpS_modify (wpS_bind (wpS_get ?_)))
    have a2:arrOf st2=arrOf st:=sg.arr
    have f2:failedOf st2=none:=sg.failed.trans b.failed
    refine wpS_pure (?_:Q ((failedOf st2).isNone) (setArr st2 (m.toList.zipIdx.foldl (fun a p=>a.setIfInBounds (sa+k+p.2) p.1) (arrOf st2))))
    rw[f2,a2]
    exact h _ ⟨mg.perm.trans b.perm,sg.kind.trans b.kind,f2⟩ sg.pend mg.out mg.up
   ·rw[if_neg d3]
    refine wpS_bind (zpj O b.kind ma mb ⟨oa,ob,fst⟩ (by show 1≤((arrOf st).extract (sa+k) sb).size;rw[sx];omega) (by show 1≤((arrOf st).extract sb (sb+nb')).size;rw[sy];omega) (fun x hx=>lst x (by rw[sx] at hx;exact hx)) fun m st2 sg f=>?_)
    have mg:=post m st2 (.inr trivial) f
    refine wpS_bind (wpS_modify (wpS_bind (wpS_get ?_)))
    have a2:arrOf st2=arrOf st:=sg.arr
    have f2:failedOf st2=none:=sg.failed.trans b.failed
    refine wpS_pure (?_:Q ((failedOf st2).isNone) (setArr st2 (m.toList.zipIdx.foldl (fun a p=>a.setIfInBounds (sa+k+p.2) p.1) (arrOf st2))))
    rw[f2,a2]
    exact h _ ⟨mg.perm.trans b.perm,sg.kind.trans b.kind,f2⟩ sg.pend mg.out mg.up
end
end TS
set_option maxHeartbeats 4000000
namespace TS
open PySem PyProof.Rows
noncomputable def Segs (R:Keyed→Nat) (xs:Array Keyed):Nat→List (Nat × Nat × Nat)→Nat→Prop
 | s,[],e=>s=e
 | s,p::r,e=>p.1=s∧1≤p.2.1∧UpA R xs s (s+p.2.1)∧Segs R xs (s+p.2.1) r e
section
variable {R:Keyed→Nat} {xs ys:Array Keyed}
theorem Segs.le:∀{l:List (Nat × Nat × Nat)} {s e:Nat},Segs R xs s l e→s+l.length≤e
 | [],s,e,h=>by cases h;simp
 | p::r,s,e,h=>by
  have:=Segs.le h.2.2.2
  have:=h.2.1
  simp;omega
theorem Segs.append:∀{l m:List (Nat × Nat × Nat)} {s e:Nat},Segs R xs s (l++m) e↔∃k,Segs R xs s l k∧Segs R xs k m e
 | [],m,s,e=>⟨fun h=>⟨s,rfl,h⟩,fun ⟨k,h1,h2⟩=>by cases h1;exact h2⟩
 | p::r,m,s,e=>by
  constructor
  ·rintro ⟨h1,h2,h3,h4⟩
   obtain ⟨k,g1,g2⟩:=Segs.append.mp h4
   exact ⟨k,⟨h1,h2,h3,g1⟩,g2⟩
  ·rintro ⟨k,⟨h1,h2,h3,h4⟩,g2⟩
   exact ⟨h1,h2,h3,Segs.append.mpr ⟨k,h4,g2⟩⟩
theorem UpA.same {a b:Nat} (h:UpA R xs a b) (e:∀i,a≤i→i < b→ys[i]?=xs[i]?):UpA R ys a b:=fun i j a1 a2 a3=>by
 rw[zdd (e i a1 (by omega)),zdd (e j (by omega) a3)]
 exact h i j a1 a2 a3
theorem Segs.same:∀{l:List (Nat × Nat × Nat)} {s e:Nat},Segs R xs s l e→(∀i,s≤i→i < e→ys[i]?=xs[i]?)→Segs R ys s l e
 | [],s,e,h,_=>h
 | p::r,s,e,h,k=>by
  have:=Segs.le h.2.2.2
  exact ⟨h.1,h.2.1,h.2.2.1.same fun i a1 a2=>k i a1 (by omega),Segs.same h.2.2.2 fun i a1 a2=>k i (by omega) a2⟩
theorem Segs.power {s e:Nat}:∀{l m:List (Nat × Nat × Nat)},l.map (fun p=>(p.1,p.2.1))=m.map (fun p=>(p.1,p.2.1))→Segs R xs s l e→Segs R xs s m e:=by
 intro l
 induction l generalizing s with
 | nil=>intro m h k;cases m with
  | nil=>exact k
  | cons=>cases h
 | cons p r ih=>intro m h k;cases m with
  | nil=>cases h
  | cons q t =>
   rw[List.map_cons,List.map_cons] at h
   obtain ⟨h1,h2⟩:=List.cons.inj h
   obtain ⟨g1,g2⟩:=Prod.mk.inj h1
   obtain ⟨k1,k2,k3,k4⟩:=k
   rw[g2] at k2 k3 k4
   exact ⟨g1.symm.trans k1,k2,k3,ih h2 k4⟩
end
section
variable {prog:Program} {w:World} {A:Around} {E:Value→Shared→Prop} {s:Shared} {κ:SortKind} {a₀:Array Keyed} {R:Keyed→Nat}
theorem zub {l:List (Nat × Nat × Nat)} {i:Nat} (h:i+1 < l.length):∃pre p q post,l=pre++p::q::post∧pre.length=i:=by
 refine ⟨l.take i,l[i],l[i+1],l.drop (i+2),?_,by rw[List.length_take];omega⟩
 conv=>lhs;rw[← List.take_append_drop i l,List.drop_eq_getElem_cons (by omega),List.drop_eq_getElem_cons h]
theorem w_at {i e:Nat} {st:SortSt} {Q:Bool→SortSt→Prop} (O:Orc prog w A s κ a₀ R) (b:B κ a₀ st) (sg:Segs R (arrOf st) 0 (pendingOf st).toList e) (he:e≤a₀.size) (hi:i+1 < (pendingOf st).size)
  (h:∀st',B κ a₀ st'→Segs R (arrOf st') 0 (pendingOf st').toList e→(pendingOf st').size+1=(pendingOf st).size→(∀k,e≤k→(arrOf st')[k]?=(arrOf st)[k]?)→Q true st'):wpS (model prog w) A E s (mergeAt' i) Q st:=by
 obtain ⟨pre,p,q,post,el,hl⟩:=zub (l:=(pendingOf st).toList) (i:=i) (by simpa using hi)
 obtain ⟨sa,na,pw⟩:=p
 obtain ⟨sb,nb,pw'⟩:=q
 rw[el] at sg
 obtain ⟨k,g1,g2⟩:=Segs.append.mp sg
 obtain ⟨h1,h2,h3,h4,h5,h6,h7⟩:=g2
 dsimp only at h1 h2 h3 h4 h5 h6 h7
 subst h1
 have l7:=Segs.le h7
 have l1:=Segs.le g1
 have p1:(pendingOf st)[i]?=some (sa,na,pw):=by rw[← Array.getElem?_toList,el,List.getElem?_append_right (by omega),hl,Nat.sub_self];rfl
 have p2:(pendingOf st)[i+1]?=some (sb,nb,pw'):=by rw[← Array.getElem?_toList,el,List.getElem?_append_right (by omega),hl,show i+1 - i=1 by omega];rfl
 refine zpk O b p1 p2 h4 h2 h5 (by omega) (by rw[h4];exact h3) (by rw[h4];exact h6) fun st' b' pe ou up=>?_
 have pl:(pendingOf st').toList=pre++(sa,na+nb,pw)::post:=by
  rw[pe]
  rw[Array.toList_eraseIdxIfInBounds,Array.toList_setIfInBounds,el]
  rw[List.set_append_right _ _ (by omega),hl,Nat.sub_self,List.set_cons_zero,List.eraseIdx_append_of_length_le (by omega),hl,show i+1 - i=1 by omega]
  rfl
 have keep:∀j,j < sa∨sb+nb≤j→(arrOf st')[j]?=(arrOf st)[j]?:=ou
 refine h st' b' ?_ ?_ fun j hj=>keep j (.inr (by omega))
 ·rw[pl]
  refine Segs.append.mpr ⟨sa,g1.same fun j a1 a2=>keep j (.inl a2),rfl,by show 1≤na+nb;omega,?_,?_⟩
  ·show UpA R (arrOf st') sa (sa+(na+nb))
   rw[show sa+(na+nb)=sb+nb by omega];exact up
  ·show Segs R (arrOf st') (sa+(na+nb)) post e
   rw[show sa+(na+nb)=sa+na+nb by omega]
   exact h7.same fun j a1 a2=>keep j (.inr (by omega))
 ·have e1:(pendingOf st').size=(pendingOf st').toList.length:=by simp
  have e2:(pendingOf st).size=(pendingOf st).toList.length:=by simp
  rw[e1,e2,pl,el]
  simp only[List.length_append,List.length_cons]
  omega
theorem lt_ite {c:Prop} [Decidable c] {a b n:Nat} (h1:a+1 < n) (h2:b+1 < n):(if c then a else b)+1 < n:=by split<;>assumption
theorem zry {g:Nat × Nat × Nat→Nat × Nat} {f:Nat × Nat × Nat→Nat × Nat × Nat} (h:∀x,g (f x)=g x):∀(l:List (Nat × Nat × Nat)) (i:Nat),(l.modify i f).map g=l.map g
 | [],i=>by simp
 | x::l,0=>by simp[h]
 | x::l,i+1=>by simp[zry h l i]
theorem Segs.mod {xs:Array Keyed} {s e:Nat} {l:List (Nat × Nat × Nat)} (h:Segs R xs s l e) (i c:Nat):Segs R xs s (l.modify i fun x=>(x.1,x.2.1,c)) e :=
 h.power (zry (g:=fun p=>(p.1,p.2.1)) (f:=fun x=>(x.1,x.2.1,c)) (fun _=>rfl) l i).symm
theorem w_runs {st:SortSt} {Q:Unit→SortSt→Prop} (O:Orc prog w A s κ a₀ R) (b:B κ a₀ st) (pe:pendingOf st=#[]) (h2:2≤a₀.size)
  (h:∀st',B κ a₀ st'→UpA R (arrOf st') 0 a₀.size→Q () st'):wpS (model prog w) A E s sortRuns' Q st:=by
 have hz:=b.size
 rw[sortRuns'_eq]
 refine wpS_bind (wpS_get ?_)
 dsimp only
 rw[hz]
 refine wpS_bind (wpS_mono (wpS_forRange (I:=fun x c st'=>∃lo,c=(none,lo)∧B κ a₀ st'∧Segs R (arrOf st') 0 (pendingOf st').toList lo∧lo≤a₀.size∧x≤lo)
  (Q:=fun c st'=>c=(none,a₀.size)∧B κ a₀ st'∧Segs R (arrOf st') 0 (pendingOf st').toList a₀.size) ?_ ?_ ⟨0,rfl,b,by rw[pe];rfl,by omega,by omega⟩) ?_)
 ·rintro x c st1 x1 x2 ⟨lo,rfl,b1,sg1,hlo,hx⟩
  dsimp only
  by_cases c1:lo ≥ a₀.size
  ·rw[if_pos c1]
   have:lo=a₀.size:=by omega
   subst this
   exact wpS_pure ⟨rfl,b1,sg1⟩
  rw[if_neg c1]
  refine wpS_bind (zvj O b1 (by omega) (by omega) fun m st2 m1 m2 b2 sm2 up2=>?_)
  dsimp only
  have sg2:Segs R (arrOf st2) 0 (pendingOf st2).toList lo:=by
   rw[sm2.pend]
   exact sg1.same fun i a1 a2=>sm2.out i (.inl a2)
  by_cases c2:m < minRun' a₀.size a₀.size 0
  ·rw[if_pos c2]
   refine wpS_bind (wpS_lift (wpAny_rule ⟨rfl,?_⟩))
   refine wpS_bind (w_bin O b2 (by omega) m1 (by omega) up2 fun st3 b3 sm3 up3=>?_)
   have sg3:Segs R (arrOf st3) 0 (pendingOf st3).toList lo:=by
    rw[sm3.pend]
    exact sg2.same fun i a1 a2=>sm3.out i (.inl a2)
   have hn1:1≤min (a₀.size - lo) (minRun' a₀.size a₀.size 0):=by omega
   have hn2:lo+min (a₀.size - lo) (minRun' a₀.size a₀.size 0)≤a₀.size:=by omega
   simp only[Bool.not_true,Bool.false_eq_true,if_false]
   generalize min (a₀.size - lo) (minRun' a₀.size a₀.size 0)=n at up3 hn1 hn2 sm3 ⊢
   refine wpS_bind (wpS_get ?_)
   cases hb:(pendingOf st3).back? with
   | none =>
    dsimp only
    refine wpS_bind (wpS_modify (wpS_pure ⟨lo+n,rfl,⟨b3.perm,b3.kind,b3.failed⟩,?_,hn2,by omega⟩))
    show Segs R (arrOf st3) 0 ((pendingOf st3).push (lo,n,0)).toList (lo+n)
    rw[Array.toList_push]
    exact Segs.append.mpr ⟨lo,sg3,rfl,hn1,up3,rfl⟩
   | some p =>
    obtain ⟨s1,n1,p1⟩:=p
    dsimp only
    refine wpS_bind (wpS_mono (wpS_forRange (I:=fun _ c st'=>c=(none,())∧B κ a₀ st'∧Segs R (arrOf st') 0 (pendingOf st').toList lo∧UpA R (arrOf st') lo (lo+n)) (Q:=fun c st'=>c=(none,())∧B κ a₀ st'∧Segs R (arrOf st') 0 (pendingOf st').toList lo∧UpA R (arrOf st') lo (lo+n)) ?_ (fun _ _ hh=>hh) ⟨rfl,b3,sg3,up3⟩) ?_)
    ·rintro x' c st4 _ _ ⟨rfl,b4,sg4,up4⟩
     refine wpS_bind (wpS_get ?_)
     by_cases hs:(pendingOf st4).size > 1
     ·rw[if_pos hs,getElem?_pos (pendingOf st4) ((pendingOf st4).size - 2) (by omega)]
      obtain ⟨s2,n2,p2⟩:=(pendingOf st4)[(pendingOf st4).size - 2]'(by omega)
      dsimp only
      split
      ·exact wpS_pure ⟨rfl,b4,sg4,up4⟩
      ·refine wpS_bind (w_at O b4 sg4 hlo (by omega) fun st5 b5 sg5 _ k5=>?_)
       exact wpS_pure ⟨rfl,b5,sg5,up4.same fun i a1 a2=>k5 i a1⟩
     ·rw[if_neg hs]
      exact wpS_pure ⟨rfl,b4,sg4,up4⟩
    ·rintro c st4 ⟨rfl,b4,sg4,up4⟩
     dsimp only
     refine wpS_bind (wpS_modify (wpS_bind (wpS_modify (wpS_pure ⟨lo+n,rfl,⟨b4.perm,b4.kind,b4.failed⟩,?_,hn2,by omega⟩))))
     refine (?_:Segs R (arrOf st4) 0 (((pendingOf st4).modify ((pendingOf st4).size - 1) fun x=>(x.1,x.2.1,_)).push (lo,n,0)).toList (lo+n))
     rw[Array.toList_push,Array.toList_modify]
     exact Segs.append.mpr ⟨lo,sg4.mod _ _,rfl,hn1,up4,rfl⟩
  ·rw[if_neg c2]
   have b3:=b2
   have sg3:=sg2
   have up3:=up2
   have hn1:=m1
   have hn2:lo+m≤a₀.size:=by omega
   generalize st2=st3 at b3 sg3 up3 ⊢
   generalize m=n at up3 hn1 hn2 ⊢
   refine wpS_bind (wpS_get ?_)
   cases hb:(pendingOf st3).back? with
   | none =>
    dsimp only
    refine wpS_bind (wpS_modify (wpS_pure ⟨lo+n,rfl,⟨b3.perm,b3.kind,b3.failed⟩,?_,hn2,by omega⟩))
    show Segs R (arrOf st3) 0 ((pendingOf st3).push (lo,n,0)).toList (lo+n)
    rw[Array.toList_push]
    exact Segs.append.mpr ⟨lo,sg3,rfl,hn1,up3,rfl⟩
   | some p =>
    obtain ⟨s1,n1,p1⟩:=p
    dsimp only
    refine wpS_bind (wpS_mono (wpS_forRange (I:=fun _ c st'=>c=(none,())∧B κ a₀ st'∧Segs R (arrOf st') 0 (pendingOf st').toList lo∧UpA R (arrOf st') lo (lo+n)) (Q:=fun c st'=>c=(none,())∧B κ a₀ st'∧Segs R (arrOf st') 0 (pendingOf st').toList lo∧UpA R (arrOf st') lo (lo+n)) ?_ (fun _ _ hh=>hh) ⟨rfl,b3,sg3,up3⟩) ?_)
    ·rintro x' c st4 _ _ ⟨rfl,b4,sg4,up4⟩
     refine wpS_bind (wpS_get ?_)
     by_cases hs:(pendingOf st4).size > 1
     ·rw[if_pos hs,getElem?_pos (pendingOf st4) ((pendingOf st4).size - 2) (by omega)]
      obtain ⟨s2,n2,p2⟩:=(pendingOf st4)[(pendingOf st4).size - 2]'(by omega)
      dsimp only
      split
      ·exact wpS_pure ⟨rfl,b4,sg4,up4⟩
      ·refine wpS_bind (w_at O b4 sg4 hlo (by omega) fun st5 b5 sg5 _ k5=>?_)
       exact wpS_pure ⟨rfl,b5,sg5,up4.same fun i a1 a2=>k5 i a1⟩
     ·rw[if_neg hs]
      exact wpS_pure ⟨rfl,b4,sg4,up4⟩
    ·rintro c st4 ⟨rfl,b4,sg4,up4⟩
     dsimp only
     refine wpS_bind (wpS_modify (wpS_bind (wpS_modify (wpS_pure ⟨lo+n,rfl,⟨b4.perm,b4.kind,b4.failed⟩,?_,hn2,by omega⟩))))
     refine (?_:Segs R (arrOf st4) 0 (((pendingOf st4).modify ((pendingOf st4).size - 1) fun x=>(x.1,x.2.1,_)).push (lo,n,0)).toList (lo+n))
     rw[Array.toList_push,Array.toList_modify]
     exact Segs.append.mpr ⟨lo,sg4.mod _ _,rfl,hn1,up4,rfl⟩
 ·rintro c st1 ⟨lo,rfl,b1,sg1,hlo,hx⟩
  have:lo=a₀.size:=by omega
  subst this
  exact ⟨rfl,b1,sg1⟩
 ·rintro c st1 ⟨rfl,b1,sg1⟩
  dsimp only
  refine wpS_bind (wpS_mono (wpS_forRange (I:=fun x c st'=>c=(none,())∧B κ a₀ st'∧Segs R (arrOf st') 0 (pendingOf st').toList a₀.size∧(pendingOf st').size+x≤a₀.size)
   (Q:=fun c st'=>c=(none,())∧B κ a₀ st'∧Segs R (arrOf st') 0 (pendingOf st').toList a₀.size∧(pendingOf st').size≤1) ?_ ?_ ⟨rfl,b1,sg1,by have:=sg1.le;simp at this;omega⟩) ?_)
  ·rintro x c st2 x1 x2 ⟨rfl,b2,sg2,hp⟩
   refine wpS_bind (wpS_get ?_)
   by_cases c1:(pendingOf st2).size≤1
   ·rw[if_pos c1]
    exact wpS_pure ⟨rfl,b2,sg2,c1⟩
   rw[if_neg c1]
   refine wpS_bind (w_at O b2 sg2 (Nat.le_refl _) ?_ fun st3 b3 sg3 p3 _=>wpS_pure ⟨rfl,b3,sg3,by omega⟩)
   exact lt_ite (by omega) (by omega)
  ·rintro c st2 ⟨rfl,b2,sg2,hp⟩
   exact ⟨rfl,b2,sg2,by omega⟩
  ·rintro c st2 ⟨rfl,b2,sg2,hp⟩
   refine wpS_pure (h st2 b2 ?_)
   cases hl:(pendingOf st2).toList with
   | nil=>rw[hl] at sg2;have:0=a₀.size:=sg2;omega
   | cons p r =>
    have:r=[]:=by
     have e2:(pendingOf st2).size=(pendingOf st2).toList.length:=by simp
     rw[e2,hl,List.length_cons] at hp
     exact List.length_eq_zero_iff.mp (by omega)
    subst this
    rw[hl] at sg2
    obtain ⟨_,_,g3,g4⟩:=sg2
    have g4':0+p.2.1=a₀.size:=g4
    rw[g4'] at g3
    exact g3
end
end TS
set_option maxHeartbeats 4000000
namespace Srt
open PySem PySem.W PyProof.Rows
theorem zmi {α β:Type} (f:α→β):∀{l m':List β},l.Perm m'→∀m:List α,m'=m.map f→∃p:List α,p.Perm m∧l=p.map f:=by
 intro l m' h
 induction h with
 | nil=>exact fun m e=>⟨[],by rw[List.map_eq_nil_iff.mp e.symm],rfl⟩
 | cons x _ ih =>
  intro m e
  cases m with
  | nil=>cases e
  | cons y m =>
   rw[List.map_cons] at e
   injection e with e1 e2
   obtain ⟨p,p1,p2⟩:=ih m e2
   exact ⟨y::p,p1.cons y,by rw[List.map_cons,← p2,e1]⟩
 | swap x y l =>
  intro m e
  match m,e with
  | a::b::m,e =>
   rw[List.map_cons,List.map_cons] at e
   injection e with e1 e2
   injection e2 with e2 e3
   exact ⟨b::a::m,.swap _ _ _,by rw[List.map_cons,List.map_cons,e1,e2,e3]⟩
 | trans _ _ ih1 ih2 =>
  intro m e
  obtain ⟨p,p1,p2⟩:=ih2 m e
  obtain ⟨q,q1,q2⟩:=ih1 p p2
  exact ⟨q,q1.trans p1,q2⟩
noncomputable def Coh (r:Nat→Nat) (xs:List Value):Prop:=∀i j,i < xs.length→j < xs.length→xs.getD i Value.none=xs.getD j Value.none→r i=r j
open Classical in
noncomputable def rankV (r:Nat→Nat) (xs:List Value) (x:Keyed):Nat:=if h:∃i,i < xs.length∧xs.getD i Value.none=x.1 then r h.choose else 0
theorem zjx {r:Nat→Nat} {xs:List Value} (coh:Coh r xs) {x:Keyed} {i:Nat} (hi:i < xs.length) (e:xs.getD i Value.none=x.1):rankV r xs x=r i:=by
 have h:∃i,i < xs.length∧xs.getD i Value.none=x.1:=⟨i,hi,e⟩
 unfold rankV
 rw[dif_pos h]
 exact coh _ _ h.choose_spec.1 hi (h.choose_spec.2.trans e.symm)
theorem zmt (xs:List Value):(xs.toArray.zip xs.toArray).toList=(List.range xs.length).map fun i=>((xs.getD i Value.none,xs.getD i Value.none):Keyed):=by
 rw[Array.toList_zip]
 apply List.ext_getElem
 ·simp
 ·intro i h1 h2
  have h3:i < xs.length:=by simpa using h2
  simp[List.getD_eq_getElem?_getD,h3]
section
variable {P:Program} {w:World} {B:Around} {E:Value→Shared→Prop} {st:Shared}
theorem zua {r:Nat→Nat} {xs:List Value} {κ:SortKind} {sg:Shared} (h2:2≤xs.length) (coh:Coh r xs)
  (cmp:∀i j C,i < xs.length→j < xs.length→C (lt r i j) sg→kas_ask P w B κ xs i j C sg) :
  wpAny (model P w) B ((sortRuns').run (SortSt.mk' κ (xs.toArray.zip xs.toArray) #[] 7 none)) (fun y z=>∃p:Array Nat,(p.Perm (List.toArray (List.range xs.length))∧Up r p xs.length)∧(arrOf y.2).map (·.2)=outOf xs p∧failedOf y.2=none∧z=sg) E sg:=by
 have sz:(xs.toArray.zip xs.toArray).size=xs.length:=by simp
 have O:TS.Orc P w B sg κ (xs.toArray.zip xs.toArray) (rankV r xs):=fun x hx y hy C hC=>by
  rw[zmt] at hx hy
  obtain ⟨i,hi,rfl⟩:=List.mem_map.mp hx
  obtain ⟨j,hj,rfl⟩:=List.mem_map.mp hy
  rw[List.mem_range] at hi hj
  rw[zjx coh hi rfl,zjx coh hj rfl] at hC
  exact cmp i j C hi hj hC
 have run:=TS.w_runs (E:=E) (Q:=fun _ y=>∃p:Array Nat,(p.Perm (List.toArray (List.range xs.length))∧Up r p xs.length)∧(arrOf y).map (·.2)=outOf xs p∧failedOf y=none) O (st:=SortSt.mk' κ (xs.toArray.zip xs.toArray) #[] 7 none) ⟨.refl _,rfl,rfl⟩ rfl (by rw[sz];exact h2) fun y b up=>by
  obtain ⟨l,l1,l2⟩:=zmi (fun i=>((xs.getD i Value.none,xs.getD i Value.none):Keyed)) (Array.perm_iff_toList_perm.mp b.perm) _ (zmt xs)
  have ll:l.length=xs.length:=by rw[l1.length_eq,List.length_range]
  have mem:∀k,(hk:k < l.length)→l[k] < xs.length:=fun k hk=>List.mem_range.mp (l1.mem_iff.mp (List.getElem_mem hk))
  have key:∀k,k < xs.length→TS.kA (rankV r xs) (arrOf y) k=At r l.toArray k:=fun k hk=>by
   have hk':k < l.length:=by omega
   have e:(arrOf y)[k]?=some (xs.getD l[k] Value.none,xs.getD l[k] Value.none):=by
    rw[← Array.getElem?_toList,l2,List.getElem?_map,List.getElem?_eq_getElem hk']
    rfl
   rw[TS.kA_get e,zjx coh (mem k hk') rfl]
   unfold At
   simp[hk']
  refine ⟨l.toArray,⟨?_,fun i j hij hj=>?_⟩,?_,b.failed⟩
  ·exact Array.perm_iff_toList_perm.mpr (by simpa using l1)
  ·rw[← key i (by omega),← key j hj]
   exact up i j (Nat.zero_le _) hij (by rw[sz];exact hj)
  ·unfold outOf
   apply Array.toList_inj.mp
   rw[Array.toList_map,l2,List.map_map]
   rfl
 exact wpAny_mono run (fun y z hz=>by
  obtain ⟨rfl,p,a,b,c⟩:=hz
  exact ⟨p,a,b,c,rfl⟩) fun _ _ x=>x
theorem zik (r : Nat → Nat) {d : Addr} {xs : List Value} {k : Nat} {W : Fin → Shared → Prop} (e0 : st.heap.get? d = some (seqObj "list" xs.toArray k)) (few : xs.length ≤ sizeLine) (coh : Coh r xs)
  (ask:2≤xs.length→Answers P w B r xs {st with heap:=midHeap st.heap d xs})
  (fin:∀p:Array Nat,p.Perm (List.toArray (List.range xs.length))→Up r p xs.length→W (.done (.ret .none)) {st with heap:=sortedHeap st.heap d xs (outOf xs p)}) :
  wpAny (model P w) B (Builtin.«list.sort» ⟨[.ref d],[]⟩) W E st:=by
 obtain ⟨c, ec⟩ : ∃ c, (st.heap.update d (Obj.mapSeq fun _ => (#[] : Array Value))).get? d = some (seqObj "list" #[] c) := ⟨_, get?_update_seq e0 fun _ => #[]⟩
 have em : (midHeap st.heap d xs).get? d = some (seqObj "list" #[] c) := Heap.get?_push_of_some _ (Heap.get?_push_of_some _ ec)
 have szs:xs.toArray.size=xs.length:=List.size_toArray
 rw[list_sort_plain]
 refine wpAny_bind (listItems_at e0 rfl (wpAny_bind (listUpdate_at e0 rfl (wpAny_bind (seqEpoch_at ec rfl (wpAny_bind (wpAny_newTuple (wpAny_bind (wpAny_newList (wpAny_holding ?_) (Nat.zero_le _))) (few))))) (by rw[szs];exact few) (Nat.zero_le _))))
 show wpAny (model P w) B _ W E {st with heap:=midHeap st.heap d xs}
 dsimp only
 by_cases two:xs.toArray.size < 2
 ·rw[if_pos two,if_pos two]
  rw[szs] at two
  have eo:((arrOf (SortSt.mk' general' (xs.toArray.zip xs.toArray) #[] 7 none)).map (·.2))=outOf xs (List.toArray (List.range xs.length)):=zps two
  refine wpAny_bind (wpAny_pure (by
   rw[StateT.run_pure]
   refine wpAny_bind (wpAny_pure (wpAny_bind (seqEpoch_at em rfl (wpAny_bind (listUpdate_at em rfl ?_ (Nat.zero_le _) ?_)))))
   ·rw[if_neg (by simp)]
    refine wpAny_pure ?_
    rw[eo]
    exact fin _ (.refl _) fun i j hij hj=>Nat.le_of_eq (congrArg (At r _) (by omega))
   ·rw[eo]
    refine Nat.le_succ_of_le (Nat.le_trans (Nat.le_of_eq ?_) (few))
    unfold outOf
    simp))
 ·rw[if_neg two,if_neg two]
  rw[szs] at two
  obtain ⟨κ,kd,cmp⟩:=ask (by omega)
  refine wpAny_bind (wpAny_mono (kd (fun κ' z=>κ'=κ∧z={st with heap:=midHeap st.heap d xs}) ⟨rfl,rfl⟩) (fun κ' z hz=>?_) fun _ _ x=>x.elim)
  obtain ⟨rfl,rfl⟩:=hz
  have run:=zua (E:=E) (r:=r) (xs:=xs) (κ:=κ') (sg:={st with heap:=midHeap st.heap d xs}) (by omega) coh cmp
  refine wpAny_bind (wpAny_mono run (fun yy z hz=>?_) fun _ _ x=>x)
  obtain ⟨⟨⟩,y⟩:=yy
  obtain ⟨p,hp,ho,hf,rfl⟩:=hz
  dsimp only at ho hf ⊢
  refine wpAny_bind (seqEpoch_at em rfl (wpAny_bind (listUpdate_at em rfl ?_ (Nat.zero_le _) ?_)))
  ·rw[hf,if_neg (by simp),ho]
   exact wpAny_pure (fin p hp.1 hp.2)
  ·rw[ho]
   refine Nat.le_succ_of_le (Nat.le_trans (Nat.le_of_eq ?_) (few))
   unfold outOf
   rw[List.size_toArray,List.length_map,Array.length_toList,hp.1.size_eq]
   simp
theorem zjr (r:Nat→Nat) {d:Addr} {xs:List Value} {W:Value→Shared→Prop} (isl:st.heap.IsList d xs.toArray) (few:xs.length≤sizeLine) (coh:Coh r xs)
  (ask:2≤xs.length→∀g:Heap,(∀b ob,st.heap.get? b=some ob→g.get? b=some ob)→Answers P w B.in1.in1 r xs {st with heap:=g})
  (fin:∀p:Array Nat,p.Perm (List.toArray (List.range xs.length))→Up r p xs.length→W (.ref (st.heap.objs.size+1)) {st with heap:=sortedAll st.heap xs (outOf xs p)}) :
  wpAny (model P w) B (call (.builtin "sorted") [.ref d]) W E st := by
 let g0 : Heap := (st.heap.push (seqObj "list" #[] 0)).update st.heap.objs.size (Obj.mapSeq (· ++ xs.toArray))
 have sz:g0.objs.size=st.heap.objs.size+1:=(Heap.size_update ..).trans (size_push' _ _)
 have new : (g0.push (seqObj "list" xs.toArray 0)).get? (st.heap.objs.size + 1) = some (seqObj "list" xs.toArray 0) := by
  have z := Heap.get?_push_size g0 (o := seqObj "list" xs.toArray 0) rfl
  rw[sz] at z
  exact z
 have old : ∀ b ob, st.heap.get? b = some ob → (g0.push (seqObj "list" xs.toArray 0)).get? b = some ob := fun b ob e => by
  have lt:=Heap.lt_size e
  exact Heap.get?_push_of_some _ ((Heap.get?_update_ne _ _ _ _ (Nat.ne_of_lt lt)).trans (Heap.get?_push_of_some _ e))
 have ar : argsOk "sorted" ⟨[.ref d], []⟩ := args_sorted1 _
 refine Calls.call_function_entry kind_sorted plain_sorted entry_sorted ar ?_
 unfold Builtin.«sorted»
 refine wpAny_bind (m := checkCount "sorted" 1 1 _) (wpAny_pure (wpAny_bind (collect_list isl (wpAny_bind (wpAny_newList ?_ (few))) (few))))
 show wpAny _ _ _ _ _ { st with heap := g0.push (seqObj "list" xs.toArray 0) }
 have esz:(Value.ref g0.objs.size)=Value.ref (st.heap.objs.size+1):=by rw[sz]
 rw [show ((st.heap.push (seqObj "list" #[] 0)).update st.heap.objs.size (Obj.mapSeq (· ++ xs.toArray))).objs.size = st.heap.objs.size + 1 from sz]
 refine wpAny_bind (wpAny_holding (wpAny_call_entry slot_list_sort ⟨_, new, rfl⟩ entry_list_sort (zik r (st := { st with heap := g0.push (seqObj "list" xs.toArray 0) }) new few coh (fun two => ?_) fun p p1 p2 => ⟨_, rfl, wpAny_pure ⟨_, rfl, fin p p1 p2⟩⟩) (args_list_sort _)))
 exact ask two _ fun b ob e=>zhl (Nat.ne_of_lt (Nat.lt_succ_of_lt (Heap.lt_size e))) (old b ob e)
theorem zmg {T:String} {a d:Addr} {n:Nat} {It:Nat→Value→Prop} {OK:Heap→Prop} (S:KdlSrc P w T a d n It OK) (hh:B.handled=none) (ok:OK st.heap) (few:n≤sizeLine) {W:Value→Shared→Prop}
  (ask:∀xs:List Value,xs.length=n→(∀(j:Nat) (v:Value),xs[j]?=some v→It j v)→∃r:Nat→Nat,Coh r xs∧(2≤n→∀(g:Heap) (tk:Nat),(∀b ob,st.heap.get? b=some ob→g.get? b=some ob)→Answers P w B.in1.in1 r xs {st with heap:=g,toks:=tk}) ∧
   ∀ (p : Array Nat) (q : Addr) (g : Heap) (tk c : Nat), p.Perm (List.toArray (List.range xs.length)) → Up r p xs.length → (∀ b ob, st.heap.get? b = some ob → g.get? b = some ob) → (∀ b ob, st.heap.get? b = some ob → b ≠ q) → g.get? q = some (seqObj "list" (outOf xs p) c) → W (.ref q) { st with heap := g, toks := tk }) :
  wpAny (model P w) B (call (.builtin "sorted") [.ref a]) W E st := by
 have ar : argsOk "sorted" ⟨[.ref a], []⟩ := args_sorted1 _
 refine Calls.call_function_entry kind_sorted plain_sorted entry_sorted ar ?_
 unfold Builtin.«sorted»
 refine wpAny_bind (m := checkCount "sorted" 1 1 _) (wpAny_pure (wpAny_bind (kdu_collect (A := B.in1) S hh ok (few) fun g tk acc keep items => ?_)))
 have len:acc.toList.length=n:=by rw[Array.length_toList];exact items.1
 obtain ⟨r,coh,an,fin⟩:=ask acc.toList len (fun j v e=>items.2 j v (by rw[← Array.getElem?_toList];exact e))
 refine wpAny_bind (wpAny_newList ?_ (by rw[len];exact few))
 have new : (g.push (seqObj "list" acc.toList.toArray 0)).get? g.objs.size = some (seqObj "list" acc.toList.toArray 0) := Heap.get?_push_size g rfl
 have old : ∀ b ob, st.heap.get? b = some ob → (g.push (seqObj "list" acc.toList.toArray 0)).get? b = some ob := fun b ob e => Heap.get?_push_of_some _ (keep b ob e)
 have lt:∀b ob,st.heap.get? b=some ob→b≠g.objs.size:=fun b ob e=>Nat.ne_of_lt (Heap.lt_size (keep b ob e))
 show wpAny _ _ _ _ _ { st with heap := g.push (seqObj "list" acc.toList.toArray 0), toks := tk }
 refine wpAny_bind (wpAny_holding (wpAny_call_entry slot_list_sort ⟨_, new, rfl⟩ entry_list_sort (zik r (st := { st with heap := g.push (seqObj "list" acc.toList.toArray 0), toks := tk }) new (by rw [len]; exact few) coh (fun two => ?_) fun p p1 p2 => ⟨_, rfl, wpAny_pure ⟨_, rfl, ?_⟩⟩) (args_list_sort _)))
 ·exact an (by omega) _ tk fun b ob e=>zhl (lt b ob e) (old b ob e)
 ·obtain ⟨c,ec⟩:=sortedHeap_at (n:=0) (vs:=acc.toList) (out:=outOf acc.toList p) new
  refine fin p g.objs.size _ tk c p1 p2 (fun b ob e=>?_) ?_ ec
  ·rw[sortedHeap_old (lt b ob e) (Heap.lt_size (old b ob e))]
   exact old b ob e
  ·exact lt
end
end Srt
namespace L2
open PySem PySem.Spec PyProof.Rows PySem.W
theorem small10000 {n:Nat} (h:n≤1000000):n≤sizeLine:=Nat.le_trans h (by rw[sizeLine_eq];omega)
theorem zhp:∀{us:List Value} {a b:List Int},IntsAre us a→IntsAre us b→a=b
 | _,_,_,.nil,.nil=>rfl
 | _,_,_,.cons x t r,.cons _ _ r'=>by rw[zhp r r']
theorem zor {g:Heap} {ps:List (Addr × List Int)} (tup:TupsG g ps):Srt.Coh (Srt.rank (ps.map (·.2))) (ps.map fun p=>Value.ref p.1):=fun i j hi hj e=>by
 rw[List.length_map] at hi hj
 have ei:ps[i]?=some ps[i]:=List.getElem?_eq_getElem hi
 have ej:ps[j]?=some ps[j]:=List.getElem?_eq_getElem hj
 rw[zk (fun p:Addr × List Int=>Value.ref p.1) _ ei,zk (fun p:Addr × List Int=>Value.ref p.1) _ ej] at e
 injection e with e
 obtain ⟨us,o,n,a1,a2,a3,a4⟩:=tup _ (List.getElem_mem hi)
 obtain ⟨us2,o2,n2,b1,b2,b3,b4⟩:=tup _ (List.getElem_mem hj)
 rw[e,b2] at a2
 injection a2 with a2
 subst a2
 rw[b4] at a4
 injection a4 with a4 _
 have a5:us2=us:=by simpa using a4
 subst a5
 have d:=zhp a1 b1
 unfold Srt.rank
 rw[zk (fun p:Addr × List Int=>p.2) _ ei,zk (fun p:Addr × List Int=>p.2) _ ej,d]
noncomputable def rSortedAL (K:PySem.W.Frag):List V→Hp→VK→Prop:=fun xs H Q=>∃(l:Addr) (ps:List (Addr × List Int)),xs=[.ref l]∧SqL K H l (ps.map fun p=>V.ref p.1)∧ps.length≤1000000∧TupsAt K H ps ∧
 ∀(q:Addr) (qs:List (Addr × List Int)),H q=none→qs.Perm ps→(qs.map (·.2)).Pairwise (fun a b=>HT.lexLt b a=false)→Q (.ref q) (upd H q (.lst (qs.map fun p=>V.ref p.1)))
noncomputable def rSortedDAL:List V→Hp→VK→Prop:=fun xs H Q=>∃(a:Addr) (kvs:List (List Key × V)) (ks:List (List Int)),xs=[.ref a]∧Rd H a (.dT kvs)∧kvs.map (·.1)=ks.map (fun ns=>ns.map Sum.inl)∧ks.length≤1000000 ∧
 ∀(q:Addr) (qs:List (Addr × List Int)),H q=none→(qs.map (·.2)).Perm ks→(qs.map (·.2)).Pairwise (fun x y=>HT.lexLt y x=false)→(∀p∈qs,H p.1=some (.tup (p.2.map V.int)))→Q (.ref q) (upd H q (.lst (qs.map fun p=>V.ref p.1)))
section
variable {X:Cx}
theorem zje (hu : X.A.units + 64 < cLine) : CallR X (.builtin "sorted") (rSortedAL X.K) := by
 intro pins s σ H xs us Q I r h
 obtain ⟨l,ps,rfl,hl,h64,ht,q⟩:=h
 obtain ⟨u,rfl,ru⟩:=vals1 r
 cases ru
 obtain ⟨its,rv,pl,hz⟩:=I.list hl
 have eits:its=ps.map fun p=>Value.ref p.1:=by
  have e:(ps.map fun p=>V.ref p.1)=(ps.map (·.1)).map V.ref:=by rw[List.map_map];rfl
  rw[e] at rv
  rw[zks rv,List.map_map]
  rfl
 subst eits
 have tup:∀g:Heap,(∀b o,s.heap.get? b=some o→g.get? b=some o)→TupsG g ps:=fun g keep p hp=>by
  obtain ⟨us,rv',⟨o,b2,b3,n,b4⟩,_⟩:=I.tuple (ht p hp)
  exact ⟨us,o,n,zez rv',keep _ _ b2,b3,b4⟩
 refine Srt.zjr (Srt.rank (ps.map (·.2))) pl.isList (by rw[List.length_map];exact small10000 h64) (zor (tup s.heap fun _ _ z=>z)) (fun h2 g keep=>zsm (by show X.A.units+1+1 < cLine;omega) (by rw[List.length_map] at h2;exact h2) (tup g keep)) (fun p p1 p2=>?_)
 rw[List.length_map] at p1 p2
 obtain ⟨qs,q1,q2,q3⟩:=znp p1 p2
 obtain ⟨e,he⟩:=sortedAll_at s.heap (ps.map fun p=>Value.ref p.1) (Srt.outOf (ps.map fun p=>Value.ref p.1) p)
 rw[q3] at he ⊢
 refine ⟨.ref (s.heap.objs.size+1),_,I.laid (a:=s.heap.objs.size+1) (o:=.lst (qs.map fun p=>V.ref p.1)) (t':=s.toks) (fun _ _ z=>sortedAll_old z) (Nat.le_succ _) ⟨?_,_,e,zge qs,he⟩,rfl,q _ _ (I.hok.fresh (Nat.le_succ _)) q1 q2⟩
 rw[List.length_map,q1.length_eq]
 exact small10000 (by omega)
theorem zih (hc : X.calm = true) (hu : X.A.units + 64 < cLine) : CallR X (.builtin "sorted") rSortedDAL := by
 intro pins s σ H xs us Q I r h
 obtain ⟨a,kvs,ks,rfl,hd,ek,few,q⟩:=h
 obtain ⟨u,rfl,ru⟩:=vals1 r
 cases ru
 obtain ⟨z,ns,ys,rel,ob,es,ep,e1,e2,e3,e4,e5⟩:=(show ObjOk X.prog X.w H s.heap a (.dT kvs) from hd.ok I.hok)
 obtain ⟨ps,a1,a2,a3⟩:=zjc (P:=X.prog) (w:=X.w) rel ek
 have hpl:ps.length=ks.length:=by rw[← a1,List.length_map]
 have hes:es.toList.map (·.key)=ps.map fun p=>Value.ref p.1:=by rw[e4,List.map_map];exact a3
 have hsz:es.size=ps.length:=by
  have:=congrArg List.length hes
  rw[List.length_map,List.length_map,Array.length_toList] at this
  exact this
 have tup:∀g:Heap,(∀b o,s.heap.get? b=some o→g.get? b=some o)→TupsG g ps:=fun g keep p hp=>by
  obtain ⟨us,rv,⟨o,b2,b3,n,b4⟩,_⟩:=I.tuple (SqT.of (a2 p hp))
  exact ⟨us,o,n,zez rv,keep _ _ b2,b3,b4⟩
 refine Srt.zmg (Dct.zvr ns es ep) (I.ok.hd hc) ⟨ob,e1,e2,e3⟩ (small10000 (by omega)) fun vs hl hv=>?_
 have evs:vs=ps.map fun p=>Value.ref p.1:=by
  rw[← hes]
  apply List.ext_getElem?
  intro i
  by_cases hi:i < es.size
  ·have h1:vs[i]?=some vs[i]:=List.getElem?_eq_getElem (by omega)
   obtain ⟨en,h2,h3⟩:=hv i _ h1
   rw[h1,h3,List.getElem?_map,Array.getElem?_toList,h2]
   rfl
  ·rw[List.getElem?_eq_none (by omega),List.getElem?_eq_none (by rw[List.length_map,Array.length_toList];omega)]
 subst evs
 refine ⟨Srt.rank (ps.map (·.2)),zor (tup s.heap fun _ _ z=>z),fun h2 g tk keep=>zsm (by show X.A.units+1+1 < cLine;omega) (by omega) (tup g keep),fun p t g tk c p1 p2 keep ne eg=>?_⟩
 rw[List.length_map] at p1 p2
 obtain ⟨qs,q1,q2,q3⟩:=znp p1 p2
 rw[q3] at eg
 refine ⟨.ref t,_,I.laidN (o:=.lst (qs.map fun p=>V.ref p.1)) keep ne ⟨?_,_,c,zge qs,eg⟩,rfl,q t qs (I.away ne) ((q1.map _).trans (by rw[a1])) q2 fun p hp=>a2 p (q1.mem_iff.mp hp)⟩
 rw[List.length_map,q1.length_eq]
 exact small10000 (by omega)
end
end L2
set_option maxHeartbeats 4000000
namespace L2
open PySem PySem.Spec PyProof.Rows
theorem zgs {κ β:Type} [DecidableEq κ] {k:κ}:∀{xs:List (κ × β)} {j:Nat} {p:β},(xs.map (·.1)).Nodup→xs[j]?=some (k,p)→xs.eraseIdx j=xs.filter fun x=>decide (x.1≠k)
 | [],_,_,_,e=>by simp at e
 | x::r,0,p,nd,e=>by
  simp at e
  subst e
  rw[List.map_cons,List.nodup_cons] at nd
  rw[List.eraseIdx_cons_zero,List.filter_cons_of_neg (by simp)]
  symm
  rw[List.filter_eq_self]
  intro y hy
  refine decide_eq_true fun z=>nd.1 ?_
  rw[← z]
  exact List.mem_map.mpr ⟨y,hy,rfl⟩
 | x::r,j+1,p,nd,e=>by
  rw[List.map_cons,List.nodup_cons] at nd
  have e':r[j]?=some (k,p):=by simpa using e
  have hx:x.1≠k:=fun z=>nd.1 (by rw[z];exact List.mem_map.mpr ⟨_,List.mem_of_getElem? e',rfl⟩)
  rw[List.eraseIdx_cons_succ,List.filter_cons_of_pos (by simpa using hx),zgs nd.2 e']
theorem zlq {α β:Type} (f:α→β):∀(l:List α) (j:Nat),(l.map f).eraseIdx j=(l.eraseIdx j).map f
 | [],_=>rfl
 | _::_,0=>rfl
 | x::l,j+1=>by rw[List.map_cons,List.eraseIdx_cons_succ,List.eraseIdx_cons_succ,List.map_cons,zlq f l j]
section
variable {prog:Program} {w:World} {κ:Type} [DecidableEq κ] {knd:HeapKind prog w κ} {A:Around} {E:Value→Shared→Prop} {s:Shared} {d a:Addr} {k:κ} {xs:List (κ × Addr × Value)} {p:Addr × Value}
theorem zpp {W:Option DictEntry→Shared→Prop} (hu:knd.room A) (hkey:knd.is s.heap k a) (hm:s.heap.DictOfH knd d xs) (hp:atKey xs k=some p) (hsz:xs.length≤sizeLine)
  (fin:∀e h',e.val=p.2→h'.DictOfH knd d (xs.filter fun x=>decide (x.1≠k))→Heap.SameBut d s.heap h'→W (some e) {s with heap:=h',toks:=s.toks+knd.draws k}) :
  wpAny (model prog w) A (Builtin.Dict.takeOut d (.ref a)) W E s:=by
 obtain ⟨o,es,ep,ho,hc,hd,he,his,hn⟩:=hm
 unfold Builtin.Dict.takeOut
 refine wpAny_holding ?_
 refine wpAny_bind (knd.pyHash hu hkey ?_)
 refine wpAny_bind (wpAny_dictFind_heap (s:={s with toks:=s.toks+knd.draws k}) hu hkey ho hd he his hn (fun z=>?_) fun j q hj=>?_)
 ·rw[atKey_none_of_get z] at hp;cases hp
 ·have hq:q=p:=by
   have z:=atKey_of_get hn hj
   rw[hp] at z
   exact (Option.some.inj z).symm
  subst hq
  refine wpAny_bind (wpAny_dictEntries (s:={s with toks:=s.toks+knd.draws k}) ho hd ?_)
  rw[entry_at he j,hj]
  have big:es.size≤sizeLine:=by have:=size_of_entries he;omega
  refine wpAny_bind (wpAny_updateDictKeys (hz:=big) (s:={s with toks:=s.toks+knd.draws k}) ho hd (wpAny_pure (fin _ _ rfl ⟨_,_,ep+1,Heap.get?_update_self _ ho (Obj.isFreed_of_dict (Obj.data_mapDictKeys hd _)),hc.mapDictKeys _,Obj.data_mapDictKeys hd _,?_,fun x hx=>?_,?_⟩ (Heap.SameBut.update ..))))
  ·rw[← zgs hn hj]
   obtain ⟨l⟩:=es
   have he':l=xs.map (entryOfKey knd):=he
   subst he'
   simp[zlq]
  ·exact knd.keeps (his x (List.mem_filter.mp hx).1) ho hd (Heap.SameBut.update ..)
  ·exact List.Sublist.nodup (List.Sublist.map (fun x:κ × Addr × Value=>x.1) List.filter_sublist) hn
theorem ztf {W:Value→Shared→Prop} (hu:knd.room A.in1) (hkey:knd.is s.heap k a) (hm:s.heap.DictOfH knd d xs) (hp:atKey xs k=some p) (hsz:xs.length≤sizeLine)
  (fin:∀h',h'.DictOfH knd d (xs.filter fun x=>decide (x.1≠k))→Heap.SameBut d s.heap h'→W p.2 {s with heap:=h',toks:=s.toks+knd.draws k}) :
  wpAny (model prog w) A (call (.builtin "dict.pop") [.ref d, .ref a]) W E s := by
 have M:MeetsIn prog w (Builtin.«dict.pop» ⟨[.ref d,.ref a],[]⟩) (fun B R g=>B=A∧g=s∧∀h',h'.DictOfH knd d (xs.filter fun x=>decide (x.1≠k))→Heap.SameBut d s.heap h'→R (.ok (.ret p.2)) {s with heap:=h',toks:=s.toks+knd.draws k}) :=
  .of_wp fun B R g hq0=>by
   obtain ⟨hB,hg,q⟩:=hq0
   subst hB hg
   unfold Builtin.«dict.pop» Builtin.Dict.keyAndDefault
   refine wpAny_bind (wpAny_bind (wpAny_notOrdered_dict hm.typeIs (wpAny_pure ?_)))
   obtain ⟨o,es,ep,ho,hc,hd,he,his,hn⟩:=id hm
   have ne:es.isEmpty=false:=by
    have:=size_of_entries he
    cases xs with
    | nil=>cases hp
    | cons x r =>
     rw[List.length_cons] at this
     rw[Array.isEmpty_eq_false_iff]
     intro z
     rw[z] at this
     simp at this
   simp only[keyPart,Option.isSome_none,Bool.false_eq_true,if_false]
   refine wpAny_bind (wpAny_dictEntries ho hd (wpAny_bind (wpAny_pure ?_)))
   rw[ne]
   simp only[Bool.false_eq_true,if_false]
   refine wpAny_bind (zpp hu hkey hm hp hsz fun e h' hv dd hs=>?_)
   simp only[Option.isNone_some,Bool.false_eq_true,if_false]
   exact wpAny_bind (wpAny_letGo (wpAny_pure ⟨e.val,rfl,by rw[hv];exact q h' dd hs⟩))
 exact call_meetsIn PySem.F.slot_dict_pop hm.typeIs PySem.F.entry_dict_pop (PySem.F.args_dict_pop_2 _ _) M ⟨rfl,rfl,fin⟩
end
theorem KT.drop {H:Hp} {kvs:List (List Key × V)} {xs:List (List Key × Addr × Value)} (r:KT H kvs xs) (k:List Key):KT H (dropK kvs k) (xs.filter fun x=>decide (x.1≠k)):=by
 unfold dropK
 induction r with
 | nil=>exact .nil
 | @cons p q ps qs h t ih =>
  by_cases e:p.1=k
  ·rw[List.filter_cons_of_neg (by simp[e]),List.filter_cons_of_neg (by simp[← h.1,e])]
   exact ih
  ·rw[List.filter_cons_of_pos (by simp[e]),List.filter_cons_of_pos (by simp[← h.1,e])]
   exact .cons h ih
section
variable {X:Cx} {pins:List (Addr × Obj)} {σ:St} {H:Hp} {s:Shared} {a b:Addr} {kvs:List (List Key × V)} {k:List Key}
theorem d_popT {v:V} {Q:Value→Shared→Prop} {E:Value→Shared→Prop} (hu:X.A.units+1 < cLine) (I:Inv X pins σ H s) (e:H a=some (.dT kvs)) (eb:H b=some (.tup (k.map kV))) (l:valV kvs k=some v)
  (h : ∀ w' s', Inv X pins σ (upd H a (.dT (dropK kvs k))) s' → RelV v w' → Q w' s') : wpAny (model X.prog X.w) X.A (call (.builtin "dict.pop") [.ref a, .ref b]) Q E s := by
 obtain ⟨z,hd,xs,rel,dd⟩:=dt_of I.hok e
 obtain ⟨w',hw,rw'⟩:=RelO.some_of (v:=v) (o:=(atKey xs k).map (·.2)) (by rw[← l];exact rel.val k)
 cases hp:atKey xs k with
 | none=>rw[hp] at hw;cases hw
 | some p =>
  rw[hp] at hw
  have hw':p.2=w':=Option.some.inj hw
  subst hw'
  refine ztf (tupleKind_room_in1 hu) (key_of I.hok eb) dd hp (by rw[← Paired.length rel];exact z) fun h' dd' hs=>h _ _ ?_ rw'
  obtain ⟨q,es,ep,hq,h2,h3,h4,_,h5⟩:=dd'
  refine zon I (by rw[e];exact True.intro) hs ⟨q,hq⟩ ⟨Nat.le_trans (List.length_filter_le _ _) z,hd,_,(rel.drop k).keeps fun c ys ec=>?_,q,es,ep,hq,h2,h3,h4,h5⟩
  rw[upd_ne (ne_of ec e (fun z=>nomatch z))]
  exact ec
end
noncomputable def tDPopT (td ty:TE):TE:=fun σ H Q=>td σ H fun x H1=>∃a,x=.ref a∧IsD H1 a∧ty σ H1 fun y H2=>∃kvs k v b,H2 a=some (.dT kvs)∧y=.ref b∧H2 b=some (.tup (k.map kV))∧valV kvs k=some v∧Q v (upd H2 a (.dT (dropK kvs k)))
section
variable {X:Cx} {o e:Expr} {apos cpos:Pos} {td ty:TE}
theorem ztl (hu : X.A.units + 1 < cLine) (ho : PE X o td) (he : PE X e ty) (m : M1 X o "pop" apos e cpos) : PE X (.Call (.Attribute o "pop" apos) [e] [] cpos) (tDPopT td ty) := by
 intro pins s σ H Q I h
 refine wpAny_Call_method m.base m.few m.line PySem.F.plainAttrs_dict PySem.F.slot_dict_pop PySem.F.type_dict_pop (thn (ho pins s σ H _ I h) fun u s1 hq0=>?_)
 obtain ⟨x,H1,I1,rx,a,ex,d,q1⟩:=hq0
 subst ex
 obtain rfl:u=Value.ref a:=rx
 obtain ⟨t1,t2,_⟩:=isD_at I1 d
 refine ⟨t1,t2,?_⟩
 rw[m.trees]
 refine Calls.callWith_builtin rfl (Calls.evalArgs_plain (Calls.spliced_cons (thn (he pins s1 σ H1 _ I1 q1) fun iv s2 ⟨y,H2,I2,ry,kvs,k,v,b,ea,ey,eb,l,q2⟩=>Calls.spliced_nil ?_)))
 subst ey
 cases (show iv=Value.ref b from ry)
 exact d_popT hu I2 ea eb l fun w' s3 I3 rw'=>⟨v,_,I3,rw',q2⟩
end
noncomputable def rCatA (K:PySem.W.Frag):R2:=fun x y H Q=>∃a b xs ys,x=.ref a∧y=.ref b∧SqT K H a xs∧SqT K H b ys∧xs.length+ys.length≤sizeLine ∧
 (xs=[]→Q (.ref b) H)∧(xs≠[]→ys=[]→Q (.ref a) H)∧(xs≠[]→ys≠[]→∀p,H p=none→Q (.ref p) (upd H p (.tup (xs++ys))))
section
variable {X:Cx}
theorem zwt:OpR X (binaryOp .Add) (rCatA X.K):=by
 intro pins s σ H x y v u Q I rx ry h
 obtain ⟨a,b,xs,ys,rfl,rfl,ha,hb,hz,q0,q1,q2⟩:=h
 by_cases hx:xs=[]
 ·cases rx
  cases ry
  obtain ⟨its,r1,p1,_⟩:=I.tuple ha
  obtain ⟨its2,r2,p2,_⟩:=I.tuple hb
  obtain ⟨⟨cls,dd,data,sl⟩,ho,hc,n,hd⟩:=id p1
  obtain ⟨⟨cls2,dd2,data2,sl2⟩,ho2,hc2,n2,hd2⟩:=id p2
  simp only at hc hd hc2 hd2
  subst hc hd hc2 hd2
  have e:its=[]:=r1.nil_iff.mpr hx
  exact concat_meets ⟨_,ho,rfl⟩ ⟨_,ho2,rfl⟩ noFill_tuple_add seq_tuple_add PySem.F.slot_tuple_add PySem.F.entry_tuple_add (PySem.F.args_tuple_add_2 _ _)
   (tuple_addW0 a b its.toArray its2.toArray n n2 dd dd2 sl sl2 (by simp[e])) ⟨ho,ho2,⟨.ref b,H,I,rfl,q0 hx⟩⟩
 ·exact zws pins s σ H _ _ v u Q I rx ry ⟨a,b,xs,ys,rfl,rfl,ha,hb,hx,hz,fun z=>q1 hx z,fun z=>q2 hx z⟩
end
end L2
set_option maxHeartbeats 4000000
namespace L2
open PySem PySem.Spec PyProof.Rows
section
variable {prog:Program} {w:World} {A:Around} {E:Value→Shared→Prop} {s:Shared}
theorem zrg {t sl:Addr} {its:Array Value} {vl vu:Value} {lo hi:Option Int} {W:Value→Shared→Prop} (ht:IsTup s.heap t its) (hs:s.heap.IsSliceOf sl vl vu .none) (pl:IsPart vl lo) (pu:IsPart vu hi)
  (h0:HT.sIx its.size 0 lo=0) (h1:HT.sIx its.size its.size hi=its.size) (fin:W (.ref t) s):wpAny (model prog w) A (getItem (.ref t) (.ref sl)) W E s:=by
 obtain ⟨os,hos,hcs,hds⟩:=id hs
 unfold getItem
 try with_reducible refine wpAny_holding ?_
 first | refine wpAny_bind (wpAny_pure ?_) | skip
 refine wpAny_bind (wpAny_sequenceKey ht.typeIs (by decide) ?_)
 refine wpAny_bind (wpAny_callSpecial?_slot (name := Str.ofString "__getitem__") ht.typeIs slot_tuple_getitem (wpAny_call_entry slot_tuple_getitem ht.typeIs entry_tuple_getitem ?_ (args_tuple_getitem _ _)))
 show wpAny _ _ (Builtin.Tuple.tupleItemsOf (.ref t) >>= _) _ _ s
 refine wpAny_bind (tupleItemsOf_ ht ?_)
 have hTs : s.TypeIs (.ref sl) "slice" := ⟨os, hos, hcs⟩
 refine wpAny_bind (wpAny_typeOf hTs ?_)
 rw[if_pos (by decide)]
 refine wpAny_bind (HT.zdm hs pl pu ?_)
 have yes:(((HT.sIx its.size 0 lo:Nat):Int) == 0 && (1:Int) == 1 && (HT.sIx its.size its.size hi - HT.sIx its.size 0 lo) == its.size)=true:=by
  rw[h0,h1]
  simp
 show wpAny _ _ (if (((HT.sIx its.size 0 lo:Nat):Int) == 0 && (1:Int) == 1 && (HT.sIx its.size its.size hi - HT.sIx its.size 0 lo) == its.size)=true then _ else _) _ _ s
 rw[if_pos yes]
 refine wpAny_bind (?_:wpAny _ _ (Builtin.Tuple.tupleIsExact (.ref t)) _ _ s)
 unfold Builtin.Tuple.tupleIsExact
 refine wpAny_bind (wpAny_typeOf ht.typeIs (wpAny_pure ?_))
 rw[if_pos (by decide)]
 exact wpAny_bind (wpAny_rule (wpAny_pure ⟨_,rfl,wpAny_pure fin⟩))
end
noncomputable def rSlA (K:PySem.W.Frag):V→Option Int→Option Int→Hp→VK→Prop:=fun x lo hi H Q=>∃a xs,x=.ref a∧SqT K H a xs∧(cutV xs lo hi=xs→Q (.ref a) H)∧∀p,H p=none→Q (.ref p) (upd H p (.tup (cutV xs lo hi)))
theorem zvn {X:Cx}:SlR X (rSlA X.K):=by
 intro pins s σ H x v vl vu lo hi sl Q I rx hs pl pu h
 obtain ⟨a,xs,rfl,hx,q1,q2⟩:=h
 by_cases hw:HT.sIx xs.length 0 lo=0∧HT.sIx xs.length xs.length hi=xs.length
 ·cases rx
  obtain ⟨its,r,ht,hz⟩:=I.tuple hx
  have hlen:its.toArray.size=xs.length:=by rw[List.size_toArray];exact r.length.symm
  refine ⟨"tuple", _, slot_tuple_getitem.lookup, ht.typeIs, ?_⟩
  refine zrg ht hs pl pu (by rw[hlen];exact hw.1) (by rw[hlen];exact hw.2) ⟨.ref a,H,I,rfl,q1 ?_⟩
  unfold cutV
  rw[hw.1,hw.2]
  simp
 ·exact sl_tup pins s σ H _ v vl vu lo hi sl Q I rx hs pl pu ⟨a,xs,rfl,hx,hw,q2⟩
theorem zhi (ns:List Int):∀k,k≤ns.length→preSum (fun i=>ns.getD i 0) k=(ns.take k).sum
 | 0,_=>rfl
 | k+1,h=>by
  show preSum (fun i=>ns.getD i 0) k+ns.getD k 0=_
  rw[zhi ns k (by omega),List.take_succ_eq_append_getElem (by omega),List.sum_append,List.getD_eq_getElem?_getD,List.getElem?_eq_getElem (by omega)]
  simp
theorem znz:∀{ns:List Int} {us:List Value} {i:Nat} {v:Value},Vals (ns.map V.int) us→us[i]?=some v→∃t,v=.int (ns.getD i 0) t
 | [],_,_,_,.nil,e=>by simp at e
 | n::ns,_,0,_,.cons r _,e=>by
  simp at e;subst e
  obtain ⟨t,rfl⟩:=r
  exact ⟨t,rfl⟩
 | n::ns,_,i+1,v,.cons _ t,e=>by
  have:=znz (i:=i) t (by simpa using e)
  simpa using this
noncomputable def rSum (K:PySem.W.Frag):List V→Hp→VK→Prop:=fun xs H Q=>∃(a:Addr) (ns:List Int),xs=[.ref a]∧(SqL K H a (ns.map V.int)∨SqT K H a (ns.map V.int))∧Q (.int ns.sum) H
theorem zrl {X : Cx} (hc : X.calm = true) : CallR X (.builtin "sum") (rSum X.K) := by
 intro pins s σ H xs us Q I r h
 obtain ⟨a,ns,rfl,hs,q⟩:=h
 obtain ⟨u,rfl,ru⟩:=vals1 r
 cases ru
 have key:∀{its:List Value} (h':Heap) (tk:Nat) (t':Tok) (nn:Nat),nn=ns.length→(∀b o,b≠s.heap.objs.size→s.heap.get? b=some o→h'.get? b=some o) →
   EP X pins σ Q (.int (preSum (fun i=>ns.getD i 0) nn) t') {s with heap:=h',toks:=tk}:=fun h' tk t' nn hn hk=>by
  subst hn
  rw[zhi ns _ (Nat.le_refl _),List.take_length]
  exact ⟨.int ns.sum,H,I.kept (t':=tk) fun b o e=>hk b o (Nat.ne_of_lt (Heap.lt_size e)) e,⟨_,rfl⟩,q⟩
 refine call_sum_walkG ?_
 rcases hs with hs | hs
 ·obtain ⟨its,rv,pl,hz⟩:=I.list hs
  have hlt:a < s.heap.objs.size:=by obtain ⟨o,n,e,_⟩:=pl;exact Heap.lt_size e
  have hl:=rv.length
  rw[List.length_map] at hl
  refine wpAny_pyIter_list pl.isList ?_
  refine ⟨s.heap.objs.size,_,[s.heap.objs.size],_,_,_,fun i=>ns.getD i 0,rfl,Walks.list (A:=X.A.in1) (I.ok.hd hc) _ a (Nat.ne_of_lt hlt) its.toArray,⟨⟨_,Heap.get?_push_size _ rfl,rfl,rfl⟩,pl.isList.push _⟩,?_,fun i v e=>znz rv (by simpa using e),fun h' tk t' hk=>?_⟩
  ·intro b hb
   show b < (s.heap.push _).objs.size
   rw[show ∀o:Obj,(s.heap.push o).objs.size=s.heap.objs.size+1 from fun o=>by simp[Heap.push]]
   rcases List.mem_cons.mp hb with rfl | hb
   ·exact Nat.lt_succ_self _
   ·rcases List.mem_cons.mp hb with rfl | hb
    ·exact Nat.lt_succ_of_lt hlt
    ·cases hb
  ·exact key (its:=its) h' tk t' _ (by simp[hl]) fun b o hb e=>hk b o (by simpa using hb) (Heap.get?_push_of_some _ e)
 ·obtain ⟨its,rv,pl,hz⟩:=I.tuple hs
  have hlt:a < s.heap.objs.size:=pl.lt
  have hl:=rv.length
  rw[List.length_map] at hl
  have pt:s.heap.IsTuple a its.toArray:=pl
  refine wpAny_pyIter_tuple pt ?_
  refine ⟨s.heap.objs.size,_,[s.heap.objs.size],_,_,_,fun i=>ns.getD i 0,rfl,Walks.tuple (A:=X.A.in1) (I.ok.hd hc) _ a (Nat.ne_of_lt hlt) its.toArray,⟨⟨_,Heap.get?_push_size _ rfl,rfl,rfl⟩,pt.push _⟩,?_,fun i v e=>znz rv (by simpa using e),fun h' tk t' hk=>?_⟩
  ·intro b hb
   show b < (s.heap.push _).objs.size
   rw[show ∀o:Obj,(s.heap.push o).objs.size=s.heap.objs.size+1 from fun o=>by simp[Heap.push]]
   rcases List.mem_cons.mp hb with rfl | hb
   ·exact Nat.lt_succ_self _
   ·rcases List.mem_cons.mp hb with rfl | hb
    ·exact Nat.lt_succ_of_lt hlt
    ·cases hb
  ·exact key (its:=its) h' tk t' _ (by simp[hl]) fun b o hb e=>hk b o (by simpa using hb) (Heap.get?_push_of_some _ e)
end L2
set_option maxHeartbeats 4000000
namespace L2
open PySem PySem.Spec PyProof.Rows
theorem zgl {prog:Program} {w:World} {A:Around} {E:Value→Shared→Prop} {s:Shared} {it t:Addr} {i:Nat} {items:Array Value} {Q:Value→Shared→Prop} (hh:A.handled=none) (hit:s.heap.IsTupleIter it t i) (ht:s.heap.IsTuple t items)
  (hQ:∀x,items[i]?=some x→∀h',h'.IsTupleIter it t (i+1)→Heap.SameBut it s.heap h'→Q x {s with heap:=h'})
  (hE : items[i]? = none → ∀ h' e, Heap.ExtBut it s.heap h' → (∃ o, h'.get? e = some o ∧ o.cls = .type "StopIteration") → E (.ref e) { s with heap := h' }) : wpAny (model prog w) A (Builtin.SmallTypes.nextOf (.ref it)) Q E s := by
 rcases hit with ⟨o,ho,hc,hd⟩
 rcases ht with ⟨u,hu,_,n,hs⟩
 refine wpAny_bind (wpAny_callSpecial?_slot (name := Str.ofString "__next__") ⟨o, ho, hc⟩ F.slot_tuple_iterator_next (wpAny_call_entry F.slot_tuple_iterator_next ⟨o, ho, hc⟩ F.entry_tuple_iterator_next ?_ (F.args_tuple_iterator_next_1 _)))
 have f0:(#[Value.ref t,.int i 0]:Array Value)[0]?=some (.ref t):=rfl
 have f1:(#[Value.ref t,.int i 0]:Array Value)[1]?=some (.int i 0):=rfl
 wp_walk using wpAny_field ho hd f0,wpAny_field ho hd f1,wpAny_seqItems hu hs
 rw[Int.toNat_natCast]
 cases hx:items[i]? with
 | some x =>
  exact wpAny_bind (wpAny_setField ho hd (by simp) (wpAny_pure ⟨x,rfl,wpAny_pure (hQ x hx _ ⟨_,Heap.get?_update_self _ ho (Obj.isFreed_of_fields (Obj.data_mapFields hd _)),(Obj.cls_mapFields ..).trans hc,by rw[Obj.data_mapFields hd];simp[rawInt]⟩ (.update ..))⟩))
 | none =>
  have hh':A.in1.handled=none:=hh
  wp_walk using wpAny_setField ho hd (by simp)
  unfold raiseNew
  refine wpAny_bind (wpAny_handled ?_)
  rw[hh']
  exact wpAny_bind (wpAny_pure (wpAny_throw (hE hx _ _ ((Heap.SameBut.update ..).extBut.push _ |>.push _) ⟨_,Heap.get?_push_size _ rfl,rfl⟩)))
theorem draws1 {prog:Program} {w:World} {A:Around} (hh:A.handled=none) (it t:Addr) (hne:t≠it) (items:Array Value) :
  Draws prog w A it [it,t] (items.size+1) (fun j v=>∃i,j=i+1∧items[i]?=some v) (fun j h=>∃i,j=i+1∧h.IsTupleIter it t i∧h.IsTuple t items) where
 live:=fun _ _ ⟨_,_,⟨o,ho,_⟩,_⟩=>⟨o,ho⟩
 frame:=fun _ _ _ ⟨i,e,a,b⟩ hk=>⟨i,e,a.at fun o e=>hk it (by simp) o e,b.at fun o e=>hk t (by simp) o e⟩
 item:=fun j s Q E hj ⟨i,e,a,b⟩ hQ=>by
  have hi:i < items.size:=by omega
  refine zgl hh a b (fun x hx h' hit' hs'=>?_) fun z=>absurd z (by simp;omega)
  exact hQ _ h' s.toks ⟨i,e,hx⟩ ⟨i+1,by omega,hit',b.extBut hs'.extBut hne⟩ hs'
 done:=fun s Q E ⟨i,e,a,b⟩ hE=>zgl hh a b (fun x hx=>absurd hx (by rw[Array.getElem?_eq_none (by omega)];simp)) fun _=>hE
theorem draws0 {prog:Program} {w:World} {A:Around} (hh:A.handled=none) (it t:Addr) (items:Array Value) (i:Nat) (hi:items.size≤i) :
  Draws prog w A it [it,t] (i+1) (fun _ _=>False) (fun j h=>j=i+1∧h.IsTupleIter it t i∧h.IsTuple t items) where
 live:=fun _ _ ⟨_,⟨o,ho,_⟩,_⟩=>⟨o,ho⟩
 frame:=fun _ _ _ ⟨e,a,b⟩ hk=>⟨e,a.at fun o e=>hk it (by simp) o e,b.at fun o e=>hk t (by simp) o e⟩
 item:=fun j s Q E hj ⟨e,_⟩ _=>absurd e (by omega)
 done:=fun s Q E ⟨_,a,b⟩ hE=>zgl hh a b (fun x hx=>absurd hx (by rw[Array.getElem?_eq_none hi];simp)) fun _=>hE
section
variable {X:Cx} {pins:List (Addr × Obj)} {σ:St} {H:Hp} {s:Shared} {h':Heap}
theorem Inv.turned2 {t':Nat} {e it:Addr} (I:Inv X pins σ H s) (k:∀b o,b≠e→b≠it→s.heap.get? b=some o→h'.get? b=some o) (hn:H it=none) (hL:it≠X.env.locals)
  (h1:it∈X.ex∨X.s₀.heap.objs.size≤it) (h2:∀x c,X.env.cells.lookup x=some c→c≠it) (h3:∀p∈X.pn++pins,p.1≠it) (gn:H e=none) (gL:e≠X.env.locals)
  (g1:e∈X.ex∨X.s₀.heap.objs.size≤e) (g2:∀x c,X.env.cells.lookup x=some c→c≠e) (g3:∀p∈X.pn++pins,p.1≠e):Inv X pins σ H {s with heap:=h',toks:=t'}:=by
 have nit:∀b u,H b=some u→b≠it:=fun b u e z=>by rw[z,hn] at e;cases e
 have nie:∀b u,H b=some u→b≠e:=fun b u q z=>by rw[z,gn] at q;cases q
 refine I.step (g':=s.gens) (d':=s.drawn) (ch:=[e,it]) (fun b hb=>?_) (fun b o _ _ hc e _=>k b o (fun z=>hc (by simp[z])) (fun z=>hc (by simp[z])) e) (fun b o _ _ hc e _=>⟨o.slots,k b o (fun z=>hc (by simp[z])) (fun z=>hc (by simp[z])) e⟩) (fun _ _ _ _ n=>n)
  (fun b o hc e=>⟨o,k b o (fun z=>hc (by simp[z])) (fun z=>hc (by simp[z])) e⟩) (fun _ _ e=>e) (fun _ _ _ e=>e) (fun b ps e=>⟨#[],by rw[e];simp⟩) (fun m hm=>?_) (fun b u e=>?_) I.bare
 ·rcases List.mem_cons.mp hb with z | z
  ·subst z
   exact ⟨g1,gL,g2,g3⟩
  ·have z':b=it:=by simpa using z
   subst z'
   exact ⟨h1,hL,h2,h3⟩
 ·obtain ⟨o,es,ep,ho,r⟩:=hm
  exact ⟨o,es,ep,k _ o (Ne.symm gL) (Ne.symm hL) ho,r⟩
 ·refine (I.hok b u e).stay (fun c v hc q=>k c v ?_ ?_ q) (fun _ q=>q) fun _ _ q=>q
  ·rcases hc with z | z
   ·rw[z];exact nie b u e
   ·exact nie c _ z
  ·rcases hc with z | z
   ·rw[z];exact nit b u e
   ·exact nit c _ z
end
noncomputable def Ite (K:PySem.W.Frag) (a:Addr):It :=
 ⟨fun i H=>∃xs x,SqT K H a xs∧xs[i]?=some x,fun i H y H'=>∃p,H p=none∧y=.ref p∧∀xs x,SqT K H a xs→xs[i]?=some x→H'=upd H p (.tup [.int ((i+1:Nat):Int),x]),fun i H=>∃xs,SqT K H a xs∧xs.length≤i⟩
theorem zmz {P:Program} {w:World} {K:PySem.W.Frag} {elts:List Expr} {k:Nat} {tpos:Pos} (e it a:Addr) (hei:e≠it) :
  Turn P w K (.Tuple elts k tpos) (Ite K a) [e,it] e (fun i h=>(∃old,IsEnum h e it ((i+1:Nat):Int) old)∧h.IsTupleIter it a i) where
 mem:=by simp
 obj:=fun i h st b hb=>by
  obtain ⟨⟨old,he⟩,o,e',c,d⟩:=st
  rcases List.mem_cons.mp hb with rfl | hb
  ·exact ⟨_,he,fun v z=>by
    have z':Data.fields _=Data.cell v:=z
    cases z'⟩
  ·have:b=it:=by simpa using hb
   subst this
   exact ⟨o,e',fun v z=>by rw[d] at z;cases z⟩
 keep:=fun i h h' st k=>⟨let ⟨old,he⟩:=st.1;⟨old,k e (by simp) _ he⟩,st.2.at fun o z=>k it (by simp) o z⟩
 item:=by
  intro X hP hw hK hc i pins s σ H E I hf st hg
  subst hP hw hK
  obtain ⟨xs,x,hq,hx⟩:=hg
  obtain ⟨⟨old,he⟩,hit⟩:=st
  obtain ⟨its,rv,p,hz⟩:=I.tuple hq
  have ht:s.heap.IsTuple a its.toArray:=p
  obtain ⟨u,hu,ru⟩:=rv.get hx
  have hae:a≠e:=fun z=>by
   obtain ⟨o,ho,hcl,_⟩:=ht
   rw[z,he] at ho
   cases ho
   simp at hcl
  have hai:a≠it:=fun z=>by
   obtain ⟨o,ho,hcl,_⟩:=ht
   obtain ⟨o',ho',hcl',_⟩:=hit
   rw[z,ho'] at ho
   cases ho
   rw[hcl'] at hcl
   simp at hcl
  have hi:i < its.length:=(List.getElem?_eq_some_iff.mp hu).1
  have D:=draws1 (prog:=X.prog) (w:=X.w) (A:=X.A.in1) (I.ok.hd hc) it a hai its.toArray
  refine wpAny_pyNext_enum_itemD D (i:=i+1) he ⟨i,rfl,hit,ht⟩ (by simp;omega) hei (by simp;exact ⟨hei,fun z=>hae z.symm⟩) fun x' h' tk hP ho hs' hT hsz hk=>?_
  obtain ⟨i',e1,e2⟩:=hP
  cases (show i'=i by omega)
  have eu:x'=u:=by
   rw[List.getElem?_toArray,hu] at e2
   exact (Option.some.inj e2).symm
  subst eu
  refine ⟨_,rfl,wpAny_letOwnedTupleGo_enum ho fun h2 he2 hs2=>?_⟩
  obtain ⟨f0,f1,f2,f3,f4,f5⟩:=hf e (by simp)
  obtain ⟨g0,g1,g2,g3,g4,g5⟩:=hf it (by simp)
  have hel:e < s.heap.objs.size:=Heap.lt_size he
  have hil:it < s.heap.objs.size:=by obtain ⟨o',ho',_⟩:=hit;exact Heap.lt_size ho'
  have I1 : Inv X pins σ (upd H s.heap.objs.size (.tup [.int ((i + 1 : Nat) : Int), x])) { s with heap := s.heap.push { cls := .type "tuple", data := .seq #[.int ((i + 1 : Nat) : Int) tk, x'] }, toks := s.toks } :=
   I.laid (fun _ _ q=>Heap.get?_push_of_some _ q) (Nat.le_refl _) ⟨by simp;decide,[.int ((i+1:Nat):Int) tk,x'],.cons ⟨tk,rfl⟩ (.cons ru .nil),⟨_,Heap.get?_push_size _ rfl,rfl,_,rfl⟩⟩
  have T2 : h2.get? s.heap.objs.size = some { cls := .type "tuple", data := .seq #[.int ((i + 1 : Nat) : Int) tk, x'] } := (hs2.2 _ (Nat.ne_of_gt hel)).trans hT
  have I2:Inv X pins σ (upd H s.heap.objs.size (.tup [.int ((i+1:Nat):Int),x])) {s with heap:=h2,toks:=tk+1}:=by
   refine Inv.turned2 (s := { s with heap := s.heap.push { cls := .type "tuple", data := .seq #[.int ((i + 1 : Nat) : Int) tk, x'] }, toks := s.toks }) (h' := h2) (t' := tk + 1) (e := e) (it := it) I1 (fun b o hbe hbi q => ?_) (by rw [upd_ne (Nat.ne_of_lt hil)]; exact g0) g1 g3 g4 g5 (by rw [upd_ne (Nat.ne_of_lt hel)]; exact f0) f1 f3 f4 f5
   have q' : (s.heap.push { cls := .type "tuple", data := .seq #[.int ((i + 1 : Nat) : Int) tk, x'] }).get? b = some o := q
   rcases Heap.get?_push_cases q' with ⟨z,z2⟩ | z
   ·rw[z,z2]
    exact T2
   ·exact (hs2.2 _ hbe).trans (hk b o hbe hbi z)
  refine ⟨.ref s.heap.objs.size,_,I2,rfl,⟨s.heap.objs.size,I.fresh,rfl,fun ys y hy e'=>?_⟩,⟨⟨x',?_⟩,?_⟩,fun b hb=>?_⟩
  ·rw[I.tuple_inj hy hq,hx] at e'
   cases e'
   rfl
  ·have:(((i+1+1:Nat)):Int)=(((i+1:Nat)):Int)+1:=by push_cast;rfl
   rw[this]
   exact he2
  ·obtain ⟨i',e3,e4,_⟩:=hs'
   cases (show i'=i+1 by omega)
   exact e4.at fun o q=>(hs2.2 it (Ne.symm hei)).trans q
  ·rcases List.mem_cons.mp hb with rfl | hb
   ·rw[upd_ne (Nat.ne_of_lt hel)];exact f0
   ·have:b=it:=by simpa using hb
    subst this
    rw[upd_ne (Nat.ne_of_lt hil)];exact g0
 done:=by
  intro X hP hw hK hc i pins s σ H E I hf st hg
  subst hP hw hK
  obtain ⟨xs,hq,hx⟩:=hg
  obtain ⟨⟨old,he⟩,hit⟩:=st
  obtain ⟨its,rv,p,hz⟩:=I.tuple hq
  have ht:s.heap.IsTuple a its.toArray:=p
  have hl:=rv.length
  obtain ⟨g0,g1,g2,g3,g4,g5⟩:=hf it (by simp)
  have D:=draws0 (prog:=X.prog) (w:=X.w) (A:=X.A.in1) (I.ok.hd hc) it a its.toArray i (by simp;omega)
  exact wpAny_pyNext_enum_endD D he ⟨rfl,hit,ht⟩ fun h' he'=>⟨rfl,I.turned (t':=s.toks) (fun b o hb e=>he' b o hb e) g0 g1 g3 g4 g5⟩
 self:=fun A i s Q E st h=>let ⟨old,he⟩:=st.1;wpAny_pyIter_enum he h
end L2
set_option maxHeartbeats 4000000
namespace L2
open PySem PySem.Spec PyProof.Rows
theorem zqt (a:Addr) (items:Array Value) (ob:Obj) (t:Tok) :
  Meets (Builtin.«enumerate.__new__» ⟨[.type "enumerate", .ref a], [(Str.ofString "start", .int 1 t)]⟩) (fun _ R s => s.heap.get? a = some ob ∧ s.heap.IsTuple a items ∧
   R (.ok (.ret (.ref (s.heap.objs.size+1))))
    { s with heap := (s.heap.push { cls := .type "tuple_iterator", data := .fields #[.ref a, .int 0 0] }).push { cls := .type "enumerate", data := .fields #[.none, .bool false, .ref s.heap.objs.size, rawInt 1, .none, .none] } }) := by
 refine Meets.of_wp ?_
 rintro prog w A R ⟨hp,g,d,tk,os⟩ ⟨h1,h2,h3⟩
 have known:=sub_enumerate
 have size : (hp.push { cls := .type "tuple_iterator", data := .fields #[.ref a, .int 0 0] }).objs.size = hp.objs.size + 1 := Heap.size_push ..
 rw[← size] at h3
 wp_walk using AutoSeq1.wpAny_loadPart' h1
 refine wpAny_stack_any fun _=>wpAny_pure ?_
 split
 ·rename_i c _ _ _ _ _
  generalize (c == Value.type "enumerate") = b
  cases b<;>(wp_walk using AutoSeq1.wpAny_loadPart' h1,wpAny_pyIter_tuple h2;exact ⟨_,rfl,h3⟩)
 ·wp_walk using AutoSeq1.wpAny_loadPart' h1,wpAny_pyIter_tuple h2
  exact ⟨_,rfl,h3⟩
theorem zxk {T nw : String} {self a : Value} {rest : List Value} {k : Str × Value} {kw : List (Str × Value)} (h1 : typeLookup (.type T) "__init__" = pure (some (.builtin "object.__init__"))) (h2 : Bind.madeBy (.type T) = pure (some nw))
  (h3 : (some nw != some "object.__new__") = true) : Meets (Builtin.«object.__init__» ⟨self :: a :: rest, k :: kw⟩) (fun _ R s => s.TypeIs self T ∧ R (.ok (.ret .none)) s) :=
 .of_wp fun _ _ _ _ _ hq0=>by
  obtain ⟨h4,h5⟩:=hq0
  repeat any_goals first | assumption | wp_step
  exact ⟨_,rfl,h5⟩
theorem ztw (a : Value) (t : Tok) : checkBuiltinCall "enumerate.__new__" ⟨[.type "enumerate", a], [(Str.ofString "start", .int 1 t)]⟩ = pure () := by kernel_rfl
theorem ztt (o a : Value) (t : Tok) : argsOk "object.__init__" ⟨[o, a], [(Str.ofString "start", .int 1 t)]⟩ := by kernel_rfl
theorem zou {prog:Program} {w:World} {A:Around} {E:Value→Shared→Prop} {s:Shared} {a:Addr} {items:Array Value} {t:Tok} {Q:Value→Shared→Prop} (hL:s.heap.IsTuple a items)
  (h:∀h',IsEnum h' (s.heap.objs.size+1) s.heap.objs.size 1 .none→h'.IsTupleIter s.heap.objs.size a 0→(∀b o,s.heap.get? b=some o→h'.get? b=some o)→Q (.ref (s.heap.objs.size+1)) {s with heap:=h'}) :
  wpAny (model prog w) A (call (.type "enumerate") [.ref a] [(Str.ofString "start", .int 1 t)]) Q E s := by
 rcases id hL with ⟨ob,hob,_⟩
 have ft:=F.called_enumerate
 rcases ft.mro with ⟨c,tl,m1⟩
 have m2:=ft.made
 have m3:=ft.sub
 have m4:=ft.notType
 have m5:=ft.canCreate
 have m6:=ft.init.lookup
 have size : (s.heap.push { cls := .type "tuple_iterator", data := .fields #[.ref a, .int 0 0] }).objs.size = s.heap.objs.size + 1 := Heap.size_push ..
 have he : IsEnum ((s.heap.push { cls := .type "tuple_iterator", data := .fields #[.ref a, .int 0 0] }).push { cls := .type "enumerate", data := .fields #[.none, .bool false, .ref s.heap.objs.size, rawInt 1, .none, .none] }) (s.heap.objs.size + 1) s.heap.objs.size 1 .none := by
  rw[← size]
  exact Heap.get?_push_size _ rfl
 have done:=h _ he ⟨_,Heap.get?_push_of_some _ (Heap.get?_push_size _ rfl),rfl,rfl⟩ fun b o x=>Heap.get?_push_of_some _ (Heap.get?_push_of_some _ x)
 refine wpAny_call (codeAny_of_tree (wpAny_pure ⟨Code.quiet_builtin _ (by decide +kernel),codeAny_builtin F.entry_type_call ?_⟩))
 rw[Around.under_plain (weight_type_call_type _ _ _) (units_type_call_type _ _ _)]
 repeat any_goals first | assumption | wp_step
 refine codeAny_mono (codeAny_call_builtin ft.plain F.entry_enumerate_new (wpAny_of_eq (ztw _ t) (zqt a items ob t prog w A.in1 (wants (fun x s1 => s1.TypeIs x "enumerate" ∧ Q x s1) E) s ⟨hob, hL, ⟨_, he, rfl⟩, done⟩))) ?_
 clear done he size h hL hob
 rintro (e | _ | _ | _ | x) s1 hr
 case ok.ret =>
  obtain ⟨T,q⟩:=hr
  have m7:=ft.init.bind x
  repeat any_goals first | assumption | wp_step
  refine codeAny_mono (codeAny_call_builtin ft.init.plain F.entry_object_init (ft.init.check _ _ _ _ _ _ _ _ T (ztt _ _ t) (zxk m6 m2 (by decide) prog w A.in1 (wants (fun y s2=>y=.none∧Q x s2) E) _ ⟨T,rfl,q⟩))) ?_
  rintro (e | _ | _ | _ | y) s2 hr
  case ok.ret =>
   obtain ⟨rfl,q⟩:=hr
   repeat any_goals first | assumption | wp_step
  all_goals first | exact hr | exact hr.elim
 all_goals first | exact hr | exact hr.elim
theorem cw_kw {M:Model} {A:Around} {E:Value→Shared→Prop} {s:Shared} {pos:Pos} {T:String} {first:List Value} {args:List (Bool × Sem Value)} {kws:List (Option Str × Sem Value)} {Q:Value→Shared→Prop} (h1:args.any (·.1)=false) (h2:kws.any (·.1.isNone)=false)
  (h:wpAny M A (evalArgs (.type T) true args kws) (fun a s1=>wpAny M A (call (.type T) (first++a.pos) a.kw) Q E s1) E s):wpAny M A (callWith pos (.type T) first args kws) Q E s:=by
 unfold callWith
 refine wpAny_bind (wpAny_holding (wpAny_mono h ?_ fun _ _=>id))
 intro a s1 k
 rw[h1,h2]
 exact wpAny_bind (wpAny_standAt (wpAny_bind (wpAny_pure (wpAny_bind (wpAny_mono k (fun _ _ q=>wpAny_bind (wpAny_holding (wpAny_point (wpAny_pure q)))) fun _ _=>id)))))
section
variable {X:Cx}
noncomputable def iEnum1 (K:PySem.W.Frag) (tl:TE):TI:=fun σ H R=>tl σ H fun x H1=>∃a,x=.ref a∧(∃xs,SqT K H1 a xs)∧R (Ite K a) H1
theorem zti {elts : List Expr} {k j : Nat} {tpos p pos kpos cpos : Pos} {l : Expr} {tl : TE} (hg : Gl X "enumerate") (hm : X.mg "enumerate" = none) (hl : PE X l tl)
  (he:starEach [l] X.env=[(false,eval l X.env)]:=by rfl) :
  PI X (.Tuple elts k tpos) (.Call (.Name "enumerate" p) [l] [⟨some "start", .Constant (.int 1) j cpos, kpos⟩] pos) (iEnum1 X.K tl) := by
 intro pins s σ H R I h
 refine wpAny_Call_Name_kw (ld_blt I hg hm PyProof.Rows.boot_enumerate ?_)
 refine cw_kw (by rw[he];rfl) rfl ?_
 rw[he]
 refine evalArgs_kwB rfl ?_
 refine Calls.spliced_cons (thn (hl pins s σ H _ I h) fun v s1 hq0=>?_)
 obtain ⟨x,H1,I1,r1,q1⟩:=hq0
 refine Calls.spliced_nil ?_
 refine kws_cons ?_
 refine wpAny_Constant_int (kws_nil ?_)
 obtain ⟨a,rfl,⟨xs,hq⟩,q⟩:=q1
 cases r1
 have I2:=I1.tok (s1.toks+1)
 obtain ⟨its,rv,pp,hz⟩:=I2.tuple hq
 refine zou (show _ from pp) fun h' he' hit hk=>?_
 refine wpAny_pyIter_enum he' ?_
 have I3:=I2.kept (h':=h') (t':=s1.toks+1) hk
 refine ⟨s1.heap.objs.size+1,[s1.heap.objs.size+1,s1.heap.objs.size],_,_,H1,rfl,I3,zmz _ s1.heap.objs.size a (Nat.succ_ne_self _),⟨⟨_,he'⟩,hit⟩,fun b hb=>?_,q⟩
 have hb':s1.heap.objs.size≤b:=by
  have hb2:b=s1.heap.objs.size+1∨b=s1.heap.objs.size:=by simpa using hb
  cases hb2 with
  | inl z=>exact z ▸ Nat.le_succ _
  | inr z=>exact z ▸ Nat.le_refl _
 exact I1.fpOk hb' (I1.hok.fresh hb')
end
end L2
set_option maxHeartbeats 4000000
namespace L2
open PySem PySem.Spec PyProof.Rows
noncomputable def bestI (gt:Bool) (n:Int) (ns:List Int):Int:=ns.foldl (fun i j=>if (if gt then decide (j > i) else decide (j < i))=true then j else i) n
section
variable {X:Cx}
theorem Inv.turnedL {pins:List (Addr × Obj)} {σ:St} {H:Hp} {s:Shared} {h':Heap} {t':Nat} {ch:List Addr} (I:Inv X pins σ H s) (k:∀b o,b∉ch→s.heap.get? b=some o→h'.get? b=some o) (hf:∀b∈ch,FpOk X pins H b):Inv X pins σ H {s with heap:=h',toks:=t'}:=by
 have nit:∀b u,H b=some u→b∉ch:=fun b u e z=>by have:=(hf b z).1;rw[e] at this;cases this
 have loc:X.env.locals∉ch:=fun z=>(hf _ z).2.1 rfl
 refine I.step (g':=s.gens) (d':=s.drawn) (ch:=ch) (fun b hb=>?_) (fun b o _ _ hc e _=>k b o hc e) (fun b o _ _ hc e _=>⟨o.slots,k b o hc e⟩) (fun _ _ _ _ n=>n)
  (fun b o hc e=>⟨o,k b o hc e⟩) (fun _ _ e=>e) (fun _ _ _ e=>e) (fun b ps e=>⟨#[],by rw[e];simp⟩) (fun m hm=>?_) (fun b u e=>?_) I.bare
 ·obtain ⟨f0,f1,f2,f3,f4,f5⟩:=hf b hb
  exact ⟨f3,f1,f4,f5⟩
 ·obtain ⟨o,es,ep,ho,r⟩:=hm
  exact ⟨o,es,ep,k _ o loc ho,r⟩
 ·refine (I.hok b u e).stay (fun c v hc q=>k c v ?_ q) (fun _ q=>q) fun _ _ q=>q
  rcases hc with z | z
  ·rw[z];exact nit b u e
  ·exact nit c _ z
end
end L2
set_option maxHeartbeats 4000000
namespace L2
open PySem PySem.Spec PyProof.Rows
structure ZRec (z TI TO i1 i2 t1 t2:Addr):Prop where
 nd:[z,TI,TO,i1,i2].Nodup
 o1:t1∉[z,TI,TO,i1,i2]
 o2:t2∉[z,TI,TO,i1,i2]
structure ZAt (h:Heap) (z TI TO i1 i2 t1 t2:Addr) (f0:Value) (j:Nat):Prop where
 zip:IsZip h z TI TO f0
 its:IsPair h TI (.ref i1) (.ref i2)
 out:∃a b,IsPair h TO a b
 it1:h.IsTupleIter i1 t1 j
 it2:h.IsTupleIter i2 t2 j
section
variable {prog:Program} {w:World} {A:Around} {E:Value→Shared→Prop} {s:Shared} {z TI TO i1 i2 t1 t2:Addr} {xs ys:Array Value} {j:Nat}
theorem zrn (a b c d e x:Addr) (h:[a,b,c,d,e].Nodup):a≠b∧a≠c∧a≠d∧a≠e∧b≠c∧b≠d∧b≠e∧c≠d∧c≠e∧d≠e:=by
 simp at h
 obtain ⟨⟨h1,h2,h3,h4⟩,⟨h5,h6,h7⟩,⟨h8,h9⟩,h10⟩:=h
 exact ⟨h1,h2,h3,h4,h5,h6,h7,h8,h9,h10⟩
theorem zso {Q:Fin→Shared→Prop} (hh:A.handled=none) (R:ZRec z TI TO i1 i2 t1 t2) (Z:ZAt s.heap z TI TO i1 i2 t1 t2 .none j) (hx:s.heap.IsTuple t1 xs) (hy:s.heap.IsTuple t2 ys)
  (hQ:∀x y,xs[j]?=some x→ys[j]?=some y→∀g,ZAt g z TI TO i1 i2 t1 t2 (rawInt s.heap.objs.size) (j+1)→IsPair g s.heap.objs.size x y→g.objs.size=s.heap.objs.size+1 →
   (∀c o,c∉[z,TO,i1,i2]→s.heap.get? c=some o→g.get? c=some o)→Q (.done (.ret (.ref s.heap.objs.size))) {s with heap:=g})
  (hE : xs[j]? = none ∨ ys[j]? = none → ∀ g e, (∀ c o, c ∉ [z, TO, i1, i2] → s.heap.get? c = some o → g.get? c = some o) → (∃ o, g.get? e = some o ∧ o.cls = .type "StopIteration") → E (.ref e) { s with heap := g }) : wpAny (model prog w) A (Builtin.«zip.__next__» ⟨[.ref z], []⟩) Q E s := by
 obtain ⟨n1,n2,n3,n4,n5,n6,n7,n8,n9,n10⟩:=zrn z TI TO i1 i2 0 R.nd
 have a1:=R.o1
 have a2:=R.o2
 simp only[List.mem_cons,List.not_mem_nil,or_false,not_or] at a1 a2
 obtain ⟨p1,p2,p3,p4,p5⟩:=a1
 obtain ⟨q1,q2,q3,q4,q5⟩:=a2
 obtain ⟨hz,hI,⟨a,b,hO⟩,k1,k2⟩:=Z
 refine (?_:wpAny _ _ (field (.ref z) 2 >>= _) Q E s)
 refine wpAny_bind (wpAny_field hz rfl (x:=.bool false) rfl (?_:wpAny _ _ (field (.ref z) 3 >>= _) _ _ _))
 refine wpAny_bind (wpAny_field hz rfl (x:=.ref TI) rfl (wpAny_bind (wpAny_seqItems hI rfl (?_:wpAny _ _ (Builtin.SmallTypes.ownedTupleIsFree (.ref z) >>= _) _ _ _))))
 refine wpAny_bind (m:=Builtin.SmallTypes.ownedTupleIsFree (.ref z)) (show wpAny _ _ (field (.ref z) 0 >>= _) _ _ _ from wpAny_bind (wpAny_field hz rfl (x:=.none) rfl (wpAny_pure ?_)))
 simp only[if_true]
 refine wpAny_bind (wpAny_rule (wpAny_bind (wpAny_field hz rfl (x:=.ref TO) rfl (wpAny_bind (wpAny_setField_rec hz (by simp) fun g1 hz1 e1=>?_)))))
 have hz1':IsZip g1 z TI TO .ellipsis:=hz1
 simp only[List.forIn_cons,List.zipIdx_cons,List.forIn_nil,List.zipIdx_nil]
 refine wpAny_bind (wpAny_bind (wpAny_bind (wpAny_onRaise (?_:wpAny _ _ (Builtin.SmallTypes.nextOf (.ref i1) >>= _) _ _ _))))
 refine wpAny_bind (zgl hh (s:={s with heap:=g1}) (k1.extBut e1.extBut (Ne.symm n3)) (hx.extBut e1.extBut p1) (fun x hx1 g2 k3 e2=>wpAny_pure ?_) fun hx1 g2 ee eb he=>?_)
 ·have hO2:IsPair g2 TO a b:=e2.extBut _ _ n8 (e1.extBut _ _ (Ne.symm n2) hO)
  refine wpAny_bind (wpAny_seqItems hO2 rfl (wpAny_bind (wpAny_updateSeq_pair (s:={s with heap:=g2}) hO2 fun g3 hO3 e3=>wpAny_bind (wpAny_letGo (wpAny_pure ?_)))))
  have hO3':IsPair g3 TO x b:=hO3
  refine wpAny_bind (wpAny_bind (wpAny_onRaise (?_:wpAny _ _ (Builtin.SmallTypes.nextOf (.ref i2) >>= _) _ _ _)))
  refine wpAny_bind (zgl hh (s:={s with heap:=g3}) (((k2.extBut e1.extBut (Ne.symm n4)).extBut e2.extBut (Ne.symm n10)).extBut e3.extBut (Ne.symm n9)) (((hy.extBut e1.extBut q1).extBut e2.extBut q4).extBut e3.extBut q3) (fun y hy1 g4 k4 e4=>wpAny_pure ?_) fun hy1 g4 ee eb he=>?_)
  ·have hO4:IsPair g4 TO x b:=e4.extBut _ _ n9 hO3'
   refine wpAny_bind (wpAny_seqItems hO4 rfl (wpAny_bind (wpAny_updateSeq_pair (s:={s with heap:=g4}) hO4 fun g5 hO5 e5=>wpAny_bind (wpAny_letGo (wpAny_pure (wpAny_pure ?_))))))
   have hO5':IsPair g5 TO x y:=hO5
   refine wpAny_bind (wpAny_seqItems hO5' rfl (wpAny_bind (wpAny_newTuple ?_)))
   have sz:g5.objs.size=s.heap.objs.size:=by rw[e5.1,e4.1,e3.1,e2.1,e1.1]
   have hz5:IsZip g5 z TI TO .ellipsis:=e5.extBut _ _ n2 (e4.extBut _ _ n4 (e3.extBut _ _ n2 (e2.extBut _ _ n3 hz1')))
   have kp:∀c o,c∉[z,TO,i1,i2]→s.heap.get? c=some o→g5.get? c=some o:=fun c o hc e=>by
    simp only[List.mem_cons,List.not_mem_nil,or_false,not_or] at hc
    exact e5.extBut _ _ hc.2.1 (e4.extBut _ _ hc.2.2.2 (e3.extBut _ _ hc.2.1 (e2.extBut _ _ hc.2.2.1 (e1.extBut _ _ hc.1 e))))
   have m1:g5.IsTupleIter i1 t1 (j+1):=((k3.extBut e3.extBut (Ne.symm n8)).extBut e4.extBut n10).extBut e5.extBut (Ne.symm n8)
   have m2:g5.IsTupleIter i2 t2 (j+1):=k4.extBut e5.extBut (Ne.symm n9)
   have lz:z < g5.objs.size:=Heap.lt_size hz5
   have hz6 : IsZip (g5.push { cls := .type "tuple", data := .seq #[x, y] }) z TI TO .ellipsis := Heap.get?_push_of_some _ hz5
   refine wpAny_bind (m:=Builtin.SmallTypes.ownedTupleHandOut (.ref z) (.ref g5.objs.size)) (wpAny_bind (wpAny_setField_rec hz6 (by simp) fun g7 hz7 e7=>?_))
   have hz7':IsZip g7 z TI TO (rawInt g5.objs.size):=hz7
   refine wpAny_setField_rec hz7' (by simp) fun g8 hz8 e8=>wpAny_pure ?_
   have hz8':IsZip g8 z TI TO (rawInt g5.objs.size):=hz8
   have up:∀c o,c≠z→g5.get? c=some o→g8.get? c=some o:=fun c o hc e=>e8.extBut _ _ hc (e7.extBut _ _ hc (Heap.get?_push_of_some _ e))
   have hT:IsPair g8 g5.objs.size x y:=e8.extBut _ _ (Nat.ne_of_gt lz) (e7.extBut _ _ (Nat.ne_of_gt lz) (Heap.get?_push_size _ rfl))
   have s8:g8.objs.size=g5.objs.size+1:=by rw[e8.1,e7.1,Heap.size_push]
   rw[sz] at hz8' hT s8
   have hI5:IsPair g5 TI (.ref i1) (.ref i2):=kp _ _ (by simp[Ne.symm n1,n5,n6,n7]) hI
   have fin:=hQ x y hx1 hy1 g8 ⟨hz8',up _ _ (Ne.symm n1) hI5,⟨x,y,up _ _ (Ne.symm n2) hO5'⟩,m1.at fun o e=>up _ o (Ne.symm n3) e,m2.at fun o e=>up _ o (Ne.symm n4) e⟩ hT s8 fun c o hc e=>up c o (fun q=>hc (by simp[q])) (kp c o hc e)
   show Q (.done (.ret (.ref g5.objs.size))) _
   rw[sz]
   exact fin
  ·obtain ⟨oe,he1,he2⟩:=he
   have hz4:IsZip g4 z TI TO .ellipsis:=eb _ _ n4 (e3.extBut _ _ n2 (e2.extBut _ _ n3 hz1'))
   have nz:ee≠z:=fun q=>by rw[q,hz4] at he1;cases he1;simp at he2
   refine wpAny_setField_rec hz4 (by simp) fun g5 _ e5=>hE (.inr hy1) g5 ee (fun c o hc e=>?_) ⟨oe,e5.extBut _ _ nz he1,he2⟩
   simp only[List.mem_cons,List.not_mem_nil,or_false,not_or] at hc
   exact e5.extBut _ _ hc.1 (eb _ _ hc.2.2.2 (e3.extBut _ _ hc.2.1 (e2.extBut _ _ hc.2.2.1 (e1.extBut _ _ hc.1 e))))
 ·obtain ⟨oe,he1,he2⟩:=he
  have hz2:IsZip g2 z TI TO .ellipsis:=eb _ _ n3 hz1'
  have nz:ee≠z:=fun q=>by rw[q,hz2] at he1;cases he1;simp at he2
  refine wpAny_setField_rec hz2 (by simp) fun g3 _ e3=>hE (.inl hx1) g3 ee (fun c o hc e=>?_) ⟨oe,e3.extBut _ _ nz he1,he2⟩
  simp only[List.mem_cons,List.not_mem_nil,or_false,not_or] at hc
  exact e3.extBut _ _ hc.1 (eb _ _ hc.2.2.1 (e1.extBut _ _ hc.1 e))
end
end L2
set_option maxHeartbeats 4000000
namespace L2
open PySem PySem.Spec PyProof.Rows
section
variable {prog:Program} {w:World} {A:Around} {E:Value→Shared→Prop} {s:Shared} {z TI TO i1 i2 t1 t2:Addr} {xs ys:Array Value} {j:Nat}
theorem zms {Q:Option Value→Shared→Prop} (hh:A.handled=none) (R:ZRec z TI TO i1 i2 t1 t2) (Z:ZAt s.heap z TI TO i1 i2 t1 t2 .none j) (hx:s.heap.IsTuple t1 xs) (hy:s.heap.IsTuple t2 ys)
  (hQ:∀x y,xs[j]?=some x→ys[j]?=some y→∀g,ZAt g z TI TO i1 i2 t1 t2 (rawInt s.heap.objs.size) (j+1)→IsPair g s.heap.objs.size x y→g.objs.size=s.heap.objs.size+1 →
   (∀c o,c∉[z,TO,i1,i2]→s.heap.get? c=some o→g.get? c=some o)→Q (some (.ref s.heap.objs.size)) {s with heap:=g})
  (hE:xs[j]?=none∨ys[j]?=none→∀g,(∀c o,c∉[z,TO,i1,i2]→s.heap.get? c=some o→g.get? c=some o)→Q none {s with heap:=g}):wpAny (model prog w) A (pyNext (.ref z)) Q E s:=by
 have T : s.TypeIs (.ref z) "zip" := ⟨_, Z.zip, rfl⟩
 unfold pyNext
 refine wpAny_bind (wpAny_attempt (wpAny_callSpecial?_slot (name := Str.ofString "__next__") T PySem.F.slot_zip_next (wpAny_call_entry PySem.F.slot_zip_next T PySem.F.entry_zip_next (zso hh R Z hx hy (fun x y h1 h2 g k1 k2 k3 k4 => ⟨_, rfl, wpAny_pure (hQ x y h1 h2 g k1 k2 k3 k4)⟩) fun h1 g e k he => ?_) (PySem.F.args_zip_next_1 _))))
 obtain ⟨o,ho,hc⟩:=he
 exact wpAny_bind (wpAny_isInstance (T := "StopIteration") (b := true) ⟨o, ho, hc⟩ isSubtype_stop (wpAny_pure (hE h1 g k)))
end
noncomputable def Itz (K:PySem.W.Frag) (a b:Addr):It :=
 ⟨fun i H=>∃xs ys x y,SqT K H a xs∧SqT K H b ys∧xs[i]?=some x∧ys[i]?=some y,
  fun i H u H'=>∃p,H p=none∧u=.ref p∧∀xs ys x y,SqT K H a xs→SqT K H b ys→xs[i]?=some x→ys[i]?=some y→H'=upd H p (.tup [x,y]),
  fun i H=>∃xs ys,SqT K H a xs∧SqT K H b ys∧(xs.length≤i∨ys.length≤i)⟩
theorem zsr {P:Program} {w:World} {K:PySem.W.Frag} {elts:List Expr} {k:Nat} {tpos:Pos} {z TI TO i1 i2 a b:Addr} (R:ZRec z TI TO i1 i2 a b) :
  Turn P w K (.Tuple elts k tpos) (Itz K a b) [z,TI,TO,i1,i2] z (fun i h=>ZAt h z TI TO i1 i2 a b .none i) where
 mem:=by simp
 obj:=fun i h st c hc=>by
  obtain ⟨u,v,hO⟩:=st.out
  obtain ⟨o1,e1,_,d1⟩:=st.it1
  obtain ⟨o2,e2,_,d2⟩:=st.it2
  have hc':c=z∨c=TI∨c=TO∨c=i1∨c=i2:=by simpa using hc
  rcases hc' with rfl | rfl | rfl | rfl | rfl
  ·exact ⟨_,st.zip,fun v q=>by cases (show Data.fields _=Data.cell v from q)⟩
  ·exact ⟨_,st.its,fun v q=>by cases (show Data.seq _ _=Data.cell v from q)⟩
  ·exact ⟨_,hO,fun v q=>by cases (show Data.seq _ _=Data.cell v from q)⟩
  ·exact ⟨o1,e1,fun v q=>by rw[d1] at q;cases q⟩
  ·exact ⟨o2,e2,fun v q=>by rw[d2] at q;cases q⟩
 keep:=fun i h h' st kk=>by
  obtain ⟨u,v,hO⟩:=st.out
  exact ⟨kk z (by simp) _ st.zip,kk TI (by simp) _ st.its,⟨u,v,kk TO (by simp) _ hO⟩,st.it1.at fun o e=>kk i1 (by simp) o e,st.it2.at fun o e=>kk i2 (by simp) o e⟩
 item:=by
  intro X hP hw hK hc i pins s σ H E I hf st hg
  subst hP hw hK
  obtain ⟨xs,ys,x,y,hq1,hq2,hx,hy⟩:=hg
  obtain ⟨its1,rv1,p1,hz1⟩:=I.tuple hq1
  obtain ⟨its2,rv2,p2,hz2⟩:=I.tuple hq2
  obtain ⟨u1,hu1,ru1⟩:=rv1.get hx
  obtain ⟨u2,hu2,ru2⟩:=rv2.get hy
  refine zms (I.ok.hd hc) R st (show s.heap.IsTuple a its1.toArray from p1) (show s.heap.IsTuple b its2.toArray from p2) (fun v1 v2 e1 e2 g Z hT hsz kp=>?_) fun e=>?_
  ·have f1:v1=u1:=by rw[List.getElem?_toArray,hu1] at e1;exact (Option.some.inj e1).symm
   have f2:v2=u2:=by rw[List.getElem?_toArray,hu2] at e2;exact (Option.some.inj e2).symm
   subst f1 f2
   refine ⟨_,rfl,wpAny_letOwnedTupleGo_zip Z.zip fun g2 hz' e'=>?_⟩
   have low:∀c∈[z,TI,TO,i1,i2],c < s.heap.objs.size:=fun c hc'=>by
    obtain ⟨uu,vv,hO⟩:=st.out
    obtain ⟨o1,e1,_⟩:=st.it1
    obtain ⟨o2,e2,_⟩:=st.it2
    have hc'':c=z∨c=TI∨c=TO∨c=i1∨c=i2:=by simpa using hc'
    rcases hc'' with rfl | rfl | rfl | rfl | rfl
    ·exact Heap.lt_size st.zip
    ·exact Heap.lt_size st.its
    ·exact Heap.lt_size hO
    ·exact Heap.lt_size e1
    ·exact Heap.lt_size e2
   have hzl:=low z (by simp)
   have I1 : Inv X pins σ (upd H s.heap.objs.size (.tup [x, y])) { s with heap := s.heap.push { cls := .type "tuple", data := .seq #[v1, v2] }, toks := s.toks } :=
    I.laid (fun _ _ q=>Heap.get?_push_of_some _ q) (Nat.le_refl _) ⟨by simp;decide,[v1,v2],.cons ru1 (.cons ru2 .nil),⟨_,Heap.get?_push_size _ rfl,rfl,_,rfl⟩⟩
   have hf2:∀c∈[z,TI,TO,i1,i2],FpOk X pins (upd H s.heap.objs.size (.tup [x,y])) c:=fun c hc'=>by
    obtain ⟨f0,fr⟩:=hf c hc'
    exact ⟨by rw[upd_ne (Nat.ne_of_lt (low c hc'))];exact f0,fr⟩
   have I2:Inv X pins σ (upd H s.heap.objs.size (.tup [x,y])) {s with heap:=g2,toks:=s.toks}:=by
    refine Inv.turnedL (s := { s with heap := s.heap.push { cls := .type "tuple", data := .seq #[v1, v2] }, toks := s.toks }) (h' := g2) (t' := s.toks) (ch := [z, TI, TO, i1, i2]) I1 (fun c o hc' q => ?_) hf2
    have q' : (s.heap.push { cls := .type "tuple", data := .seq #[v1, v2] }).get? c = some o := q
    have cz:c≠z:=fun e=>hc' (by simp[e])
    rcases Heap.get?_push_cases q' with ⟨e1,e2⟩ | e1
    ·rw[e1,e2]
     exact e'.extBut _ _ (Nat.ne_of_gt hzl) hT
    ·exact e'.extBut _ _ cz (kp c o (fun m=>hc' (by simp at m ⊢;rcases m with m | m | m | m<;>simp[m])) e1)
   obtain ⟨d1,d2,d3,d4,_⟩:=zrn z TI TO i1 i2 0 R.nd
   obtain ⟨uu,vv,hO⟩:=Z.out
   refine ⟨.ref s.heap.objs.size,_,I2,rfl,⟨s.heap.objs.size,I.fresh,rfl,fun as bs x' y' ha hb ex ey=>?_⟩,⟨hz',e'.extBut _ _ (Ne.symm d1) Z.its,⟨uu,vv,e'.extBut _ _ (Ne.symm d2) hO⟩,Z.it1.extBut e'.extBut (Ne.symm d3),Z.it2.extBut e'.extBut (Ne.symm d4)⟩,fun c hc'=>(hf2 c hc').1⟩
   rw[I.tuple_inj ha hq1,hx] at ex
   rw[I.tuple_inj hb hq2,hy] at ey
   cases ex
   cases ey
   rfl
  ·rcases e with e | e
   ·rw[List.getElem?_toArray,hu1] at e;cases e
   ·rw[List.getElem?_toArray,hu2] at e;cases e
 done:=by
  intro X hP hw hK hc i pins s σ H E I hf st hg
  subst hP hw hK
  obtain ⟨xs,ys,hq1,hq2,hl⟩:=hg
  obtain ⟨its1,rv1,p1,hz1⟩:=I.tuple hq1
  obtain ⟨its2,rv2,p2,hz2⟩:=I.tuple hq2
  have l1:=rv1.length
  have l2:=rv2.length
  refine zms (I.ok.hd hc) R st (show s.heap.IsTuple a its1.toArray from p1) (show s.heap.IsTuple b its2.toArray from p2) (fun v1 v2 e1 e2 g Z hT hsz kp=>?_) fun _ g kp=>⟨rfl,I.turnedL (t':=s.toks) (ch:=[z,TI,TO,i1,i2]) (fun c o hc' e=>kp c o (fun m=>hc' (by simp at m ⊢;rcases m with m | m | m | m<;>simp[m])) e) hf⟩
  rw[List.getElem?_toArray] at e1 e2
  have g1:=(List.getElem?_eq_some_iff.mp e1).1
  have g2:=(List.getElem?_eq_some_iff.mp e2).1
  omega
 self:=fun A i s Q E st h=>wpAny_pyIter_zip st.zip h
section
variable {prog:Program} {w:World} {A:Around} {E:Value→Shared→Prop} {s:Shared}
noncomputable abbrev tupIt (l : Addr) : Obj := { cls := .type "tuple_iterator", data := .fields #[.ref l, .int 0 0] }
noncomputable abbrev two (a b : Value) : Obj := { cls := .type "tuple", data := .seq #[a, b] }
noncomputable abbrev zipOb (a b : Addr) : Obj := { cls := .type "zip", data := .fields #[.none, .bool false, .bool false, .ref a, .ref b] }
noncomputable abbrev lay1 (h:Heap) (l1:Addr):Heap:=h.push (tupIt l1)
noncomputable abbrev lay2 (h:Heap) (l1 l2:Addr):Heap:=(lay1 h l1).push (tupIt l2)
noncomputable abbrev lay3 (h:Heap) (l1 l2:Addr):Heap:=(lay2 h l1 l2).push (two (.ref h.objs.size) (.ref (lay1 h l1).objs.size))
noncomputable abbrev lay4 (h:Heap) (l1 l2:Addr):Heap:=(lay3 h l1 l2).push (two .none .none)
noncomputable abbrev lay5 (h:Heap) (l1 l2:Addr):Heap:=(lay4 h l1 l2).push (zipOb (lay2 h l1 l2).objs.size (lay3 h l1 l2).objs.size)
theorem zsp (l1 l2:Addr) (xs ys:Array Value) :
  Meets (Builtin.«zip.__new__» ⟨[.type "zip", .ref l1, .ref l2], []⟩) (fun _ R s => s.heap.IsTuple l1 xs ∧ s.heap.IsTuple l2 ys ∧ R (.ok (.ret (.ref (lay4 s.heap l1 l2).objs.size))) { s with heap := lay5 s.heap l1 l2 }) :=
 .of_wp fun prog w A R s h=>by
  obtain ⟨hp,g,d,tk,os⟩:=s
  obtain ⟨k1,k2,h⟩:=h
  have sub:=sub_zip
  have k1':Heap.IsTuple (Shared.heap ⟨hp,g,d,tk,os⟩) l1 xs:=k1
  have k2':Heap.IsTuple (Shared.heap ⟨hp.push (tupIt l1),g,d,tk,os⟩) l2 ys:=k2.push _
  wp_walk using wpAny_pyIter_tuple k1',wpAny_pyIter_tuple k2'
  exact ⟨_,rfl,h⟩
theorem znh {n l1 l2:Nat} (h1:l1 < n) (h2:l2 < n):ZRec (n+4) (n+2) (n+3) n (n+1) l1 l2∧∀c∈[n+4,n+2,n+3,n,n+1],n≤c :=
 have q:∀{l:Nat},l < n→l∉[n+4,n+2,n+3,n,n+1]:=fun {l} h m=>by
  simp only[List.mem_cons,List.not_mem_nil,or_false] at m
  omega
 ⟨⟨by simp,q h1,q h2⟩,fun c hc=>by simp at hc;omega⟩
theorem zrk {l1 l2:Addr} {xs ys:Array Value} {Q:Value→Shared→Prop} (k1:s.heap.IsTuple l1 xs) (k2:s.heap.IsTuple l2 ys)
  (h:∀g z TI TO i1 i2,ZRec z TI TO i1 i2 l1 l2→ZAt g z TI TO i1 i2 l1 l2 .none 0→(∀c∈[z,TI,TO,i1,i2],s.heap.objs.size≤c) →
   (∀ c o, s.heap.get? c = some o → g.get? c = some o) → Q (.ref z) { s with heap := g }) : wpAny (model prog w) A (call (.type "zip") [.ref l1, .ref l2]) Q E s := by
 have lt1:l1 < s.heap.objs.size:=by obtain ⟨_,e,_⟩:=k1;exact Heap.lt_size e
 have lt2:l2 < s.heap.objs.size:=by obtain ⟨_,e,_⟩:=k2;exact Heap.lt_size e
 refine callType_new PySem.F.called_zip (by decide) (PySem.F.typeCall_zip_2 _ _) (PySem.F.newCall_zip_2 _ _) (fun obj=>PySem.F.args_object_init_3 obj _ _) PySem.F.entry_zip_new (zsp l1 l2 xs ys) ⟨k1,k2,?_⟩
 have z1:(lay1 s.heap l1).objs.size=s.heap.objs.size+1:=Heap.size_push ..
 have z2:(lay2 s.heap l1 l2).objs.size=s.heap.objs.size+2:=(Heap.size_push ..).trans (by rw[z1])
 have z3:(lay3 s.heap l1 l2).objs.size=s.heap.objs.size+3:=(Heap.size_push ..).trans (by rw[z2])
 have z4:(lay4 s.heap l1 l2).objs.size=s.heap.objs.size+4:=(Heap.size_push ..).trans (by rw[z3])
 have g5:(lay5 s.heap l1 l2).get? (lay4 s.heap l1 l2).objs.size=some _:=Heap.get?_push_size _ rfl
 have g4:(lay5 s.heap l1 l2).get? (lay3 s.heap l1 l2).objs.size=some _:=Heap.get?_push_of_some _ (Heap.get?_push_size _ rfl)
 have g3:(lay5 s.heap l1 l2).get? (lay2 s.heap l1 l2).objs.size=some _:=Heap.get?_push_of_some _ (Heap.get?_push_of_some _ (Heap.get?_push_size _ rfl))
 have g2:(lay5 s.heap l1 l2).get? (lay1 s.heap l1).objs.size=some _:=Heap.get?_push_of_some _ (Heap.get?_push_of_some _ (Heap.get?_push_of_some _ (Heap.get?_push_size _ rfl)))
 have g1:(lay5 s.heap l1 l2).get? s.heap.objs.size=some _:=Heap.get?_push_of_some _ (Heap.get?_push_of_some _ (Heap.get?_push_of_some _ (Heap.get?_push_of_some _ (Heap.get?_push_size _ rfl))))
 have fin:=h (lay5 s.heap l1 l2) (lay4 s.heap l1 l2).objs.size (lay2 s.heap l1 l2).objs.size (lay3 s.heap l1 l2).objs.size s.heap.objs.size (lay1 s.heap l1).objs.size
  (by rw[z4,z3,z2,z1];exact (znh lt1 lt2).1) ⟨g5,g3,⟨_,_,g4⟩,⟨_,g1,rfl,rfl⟩,⟨_,g2,rfl,rfl⟩⟩
  (by rw[z4,z3,z2,z1];exact (znh lt1 lt2).2) fun c o e=>Heap.get?_push_of_some _ (Heap.get?_push_of_some _ (Heap.get?_push_of_some _ (Heap.get?_push_of_some _ (Heap.get?_push_of_some _ e))))
 exact ⟨⟨_,g5,rfl⟩,fin⟩
end
section
variable {X:Cx}
noncomputable def iZip (K:PySem.W.Frag) (ta:TA):TI:=fun σ H R=>ta σ H fun vs H1=>∃a b,vs=[.ref a,.ref b]∧(∃xs,SqT K H1 a xs)∧(∃xs,SqT K H1 b xs)∧R (Itz K a b) H1
theorem pi_zip {elts : List Expr} {k : Nat} {tpos p pos : Pos} {a b : Expr} {ta : TA} (hg : Gl X "zip") (hm : X.mg "zip" = none) (ha : PA X [a, b] ta)
  (hs:starEach [a,b] X.env=[(false,eval a X.env),(false,eval b X.env)]:=by rfl) (hs2:starEach [b] X.env=[(false,eval b X.env)]:=by rfl) :
  PI X (.Tuple elts k tpos) (.Call (.Name "zip" p) [a, b] [] pos) (iZip X.K ta) := by
 intro pins s σ H R I h
 refine Call_ (ld_blt I hg hm PyProof.Rows.boot_zip (PyProof.Rows.callWith_type1 (thn (ha pos pins s σ H _ I h) fun us s1 ⟨vs,H1,I1,r1,q1⟩=>?_) (by rw[hs,hs2]) (by rw[hs2];rfl)))
 obtain ⟨a,b,e,⟨xs,hx⟩,⟨ys,hy⟩,q⟩:=q1
 subst e
 obtain ⟨u1,u2,rfl,e1,e2⟩:=vals2 r1
 cases e1
 cases e2
 obtain ⟨its1,rv1,p1,hz1⟩:=I1.tuple hx
 obtain ⟨its2,rv2,p2,hz2⟩:=I1.tuple hy
 refine zrk (show s1.heap.IsTuple a its1.toArray from p1) (show s1.heap.IsTuple b its2.toArray from p2) fun g z TI TO i1 i2 R Z low kp=>?_
 refine wpAny_pyIter_zip Z.zip ?_
 exact ⟨z,[z,TI,TO,i1,i2],_,_,H1,rfl,I1.kept (t':=s1.toks) kp,zsr R,Z,fun c hc=>I1.fpOk (low c hc) (I1.hok.fresh (low c hc)),q⟩
end
end L2
set_option maxHeartbeats 4000000
namespace Dd
open PySem L2
set_option genInjectivity true in
inductive D where
 | non | bl (b:Bool) | int (i:Int) | str (x:Str) | ty (n:String) | ref (n:Nat) | tup (ds:List D) | lst (ds:List D) | scr (ds:List D) | exn (c:Str) (l:List Int)
set_option genInjectivity true in
inductive O where
 /-- a list that may change;a dict by tuples of ints;one that is only read;gone -/
 | lst (xs:List D) | dT (kvs:List (List Int × D)) | fT (kvs:List (List Int × D)) | dead
noncomputable abbrev Store:=List O
structure Exc where
 cls:Str
 at_:List Int
set_option genInjectivity true in
inductive Res (α:Type) where
 | ok (a:α) (st:Store) | exc (x:Exc) (st:Store) | stuck
noncomputable def Res.bind {α β:Type}:Res α→(α→Store→Res β)→Res β
 | .ok a st,f=>f a st
 | .exc x st,_=>.exc x st
 | .stuck,_=>.stuck
@[simp] theorem zcy {α β:Type} (a:α) (st:Store) (f:α→Store→Res β):(Res.ok a st).bind f=f a st:=rfl
@[simp] theorem zyx {α β:Type} (x:Exc) (st:Store) (f:α→Store→Res β):(Res.exc x st:Res α).bind f=.exc x st:=rfl
@[simp] theorem zyn {α β:Type} (f:α→Store→Res β):(Res.stuck:Res α).bind f=.stuck:=rfl
theorem zb {α β:Type} {r:Res α} {f:α→Store→Res β} {b:β} {st':Store} (h:r.bind f=.ok b st'):∃a st,r=.ok a st∧f a st=.ok b st':=by
 cases r with
 | ok a st=>exact ⟨a,st,rfl,h⟩
 | exc x st=>cases h
 | stuck=>cases h
noncomputable abbrev DS:=List (Option D)
noncomputable abbrev SE:=DS→Store→Res D
noncomputable abbrev ST:=DS→Store→Res Bool
noncomputable abbrev SA:=DS→Store→Res (List D)
set_option genInjectivity true in
inductive Fl where
 | nx (σ:DS) | ret (v:D) | brk (σ:DS) | ct (σ:DS)
noncomputable abbrev SS:=DS→Store→Res Fl
noncomputable abbrev DFn:=List D→Store→Res D
structure Loc where
 m:List (Option Addr)
 g:List Addr
noncomputable def Out (ρ:Loc) (a:Addr):Prop:=some a∉ρ.m∧a∉ρ.g
noncomputable def Ls (K:PySem.W.Frag) (ρ:Loc) (H:Hp) (a:Addr) (vs:List V):Prop:=(Rd H a (.lst vs)∧Out ρ a)∨∀H':Hp,SqL K H' a vs
noncomputable def XAt (K:PySem.W.Frag) (ρ:Loc) (H:Hp) (c:Str) (l:List Int) (a:Addr):Prop:=∃C o,PySem.W.nsIn K mainGlobals c=some (some (.ref C))∧(H a=some (.frz o (.ext fun _=>True))∧Out ρ a)∧o.cls=.ref C∧(∃vs,o.data=.fields vs) ∧
 ((l = [] ∧ o.dict = none) ∨ ∃ i dx od, l = [i] ∧ o.dict = some dx ∧ H dx = some (.frz od (.xd [("at", .int i)])) ∧ Out ρ dx)
theorem XAt.map {K:PySem.W.Frag} {ρ ρ':Loc} {H H':Hp} {c:Str} {l:List Int} {a:Addr} (h:XAt K ρ H c l a) (f:∀b ob u,H b=some (.frz ob u)→Out ρ b→H' b=some (.frz ob u)∧Out ρ' b):XAt K ρ' H' c l a:=by
 obtain ⟨C,o,h1,h2,h3,h4,h5⟩:=h
 refine ⟨C,o,h1,f _ _ _ h2.1 h2.2,h3,h4,?_⟩
 rcases h5 with h5 | ⟨i,dx,od,h6,h7,h8,h9⟩
 ·exact .inl h5
 ·exact .inr ⟨i,dx,od,h6,h7,(f _ _ _ h8 h9).1,(f _ _ _ h8 h9).2⟩
mutual
inductive At (K:PySem.W.Frag) (ρ:Loc) (H:Hp):D→V→Prop
 | non:At K ρ H .non .non
 | bl (b:Bool):At K ρ H (.bl b) (.bl b)
 | int (i:Int):At K ρ H (.int i) (.int i)
 | str (x:Str):At K ρ H (.str x) (.str x)
 | ty (n:String):At K ρ H (.ty n) (.ty n)
 | ref {n:Nat} {v:V}:n < ρ.m.length→(∀a,ρ.m[n]?=some (some a)→v=.ref a)→At K ρ H (.ref n) v
 | tup {a:Addr} {ds:List D} {vs:List V}:H a=some (.tup vs)→Out ρ a→AtAll K ρ H ds vs→At K ρ H (.tup ds) (.ref a)
 | lst {a:Addr} {ds:List D} {vs:List V}:H a=some (.lst vs)→Out ρ a→AtAll K ρ H ds vs→At K ρ H (.lst ds) (.ref a)
 | scr {a:Addr} {ds:List D} {vs:List V}:Ls K ρ H a vs→AtAll K ρ H ds vs→At K ρ H (.scr ds) (.ref a)
 | exn {c:Str} {l:List Int} {a:Addr}:XAt K ρ H c l a→At K ρ H (.exn c l) (.ref a)
inductive AtAll (K:PySem.W.Frag) (ρ:Loc) (H:Hp):List D→List V→Prop
 | nil:AtAll K ρ H [] []
 | cons {d:D} {ds:List D} {v:V} {vs:List V}:At K ρ H d v→AtAll K ρ H ds vs→AtAll K ρ H (d::ds) (v::vs)
end
structure Ext (ρ:Loc) (H:Hp) (ρ':Loc) (H':Hp):Prop where
 len:ρ.m.length≤ρ'.m.length
 old:∀(n:Nat) (a:Addr),n < ρ.m.length→ρ'.m[n]?=some (some a)→ρ.m[n]?=some (some a)
 keep:∀a o,H a=some o→some a∉ρ.m→H' a=some o∧some a∉ρ'.m
 gho:ρ'.g=ρ.g
 frz:∀a ob u,H a=some (.frz ob u)→H' a=some (.frz ob u)
theorem Ext.out {ρ ρ':Loc} {H H':Hp} (x:Ext ρ H ρ' H') {a:Addr} {o:HO} (h:H a=some o) (n:Out ρ a):H' a=some o∧Out ρ' a :=
 ⟨(x.keep a o h n.1).1,(x.keep a o h n.1).2,by rw[x.gho];exact n.2⟩
theorem Ls.ext {K:PySem.W.Frag} {ρ ρ':Loc} {H H':Hp} {a:Addr} {vs:List V} (x:Ext ρ H ρ' H') (h:Ls K ρ H a vs):Ls K ρ' H' a vs:=by
 rcases h with ⟨h | ⟨o,h⟩,n⟩ | h
 ·exact .inl ⟨.inl (x.out h n).1,(x.out h n).2⟩
 ·exact .inl ⟨.inr ⟨o,(x.out h n).1⟩,(x.out h n).2⟩
 ·exact .inr h
theorem Ls.sq {K:PySem.W.Frag} {ρ:Loc} {H:Hp} {a:Addr} {vs:List V} (h:Ls K ρ H a vs):SqL K H a vs:=by
 rcases h with h | h
 ·exact .inl h.1
 ·exact h H
section
variable {K:PySem.W.Frag}
theorem Ext.refl (ρ:Loc) (H:Hp):Ext ρ H ρ H:=⟨Nat.le_refl _,fun _ _ _ e=>e,fun _ _ e n=>⟨e,n⟩,rfl,fun _ _ _ e=>e⟩
theorem Ext.trans {ρ ρ1 ρ2:Loc} {H H1 H2:Hp} (a:Ext ρ H ρ1 H1) (b:Ext ρ1 H1 ρ2 H2):Ext ρ H ρ2 H2 :=
 ⟨Nat.le_trans a.len b.len,fun n c h e=>a.old n c h (b.old n c (Nat.lt_of_lt_of_le h a.len) e),fun c o e n=>by
  obtain ⟨e1,n1⟩:=a.keep c o e n
  exact b.keep c o e1 n1,b.gho.trans a.gho,fun c ob u e=>b.frz c ob u (a.frz c ob u e)⟩
mutual
theorem At.ext {ρ ρ':Loc} {H H':Hp} (x:Ext ρ H ρ' H'):∀{d:D} {v:V},At K ρ H d v→At K ρ' H' d v
 | _,_,.non=>.non
 | _,_,.bl b=>.bl b
 | _,_,.int i=>.int i
 | _,_,.str z=>.str z
 | _,_,.ty n=>.ty n
 | _,_,.ref h e=>.ref (Nat.lt_of_lt_of_le h x.len) fun a q=>e a (x.old _ a h q)
 | _,_,.tup h n al=>.tup (x.out h n).1 (x.out h n).2 (AtAll.ext x al)
 | _,_,.lst h n al=>.lst (x.out h n).1 (x.out h n).2 (AtAll.ext x al)
 | _,_,.scr h al=>.scr (h.ext x) (AtAll.ext x al)
 | _,_,.exn h=>.exn (h.map fun _ _ _ e n=>x.out e n)
theorem AtAll.ext {ρ ρ':Loc} {H H':Hp} (x:Ext ρ H ρ' H'):∀{d:List D} {v:List V},AtAll K ρ H d v→AtAll K ρ' H' d v
 | _,_,.nil=>.nil
 | _,_,.cons a b=>.cons (At.ext x a) (AtAll.ext x b)
end
theorem AtAll.length {ρ:Loc} {H:Hp}:∀{ds:List D} {vs:List V},AtAll K ρ H ds vs→vs.length=ds.length
 | _,_,.nil=>rfl
 | _,_,.cons _ t=>by rw[List.length_cons,List.length_cons,AtAll.length t]
theorem AtAll.get {ρ:Loc} {H:Hp}:∀{ds:List D} {vs:List V} {i:Nat} {d:D},AtAll K ρ H ds vs→ds[i]?=some d→∃v,vs[i]?=some v∧At K ρ H d v
 | _,_,_,_,.nil,e=>by simp at e
 | _,_,0,_,.cons a _,e=>by simp at e;subst e;exact ⟨_,rfl,a⟩
 | _,_,i+1,d,.cons _ t,e=>by
  obtain ⟨u,h1,h2⟩:=AtAll.get (i:=i) (d:=d) t (by simpa using e)
  exact ⟨u,by simpa using h1,h2⟩
theorem AtAll.append {ρ:Loc} {H:Hp}:∀{ds es:List D} {vs us:List V},AtAll K ρ H ds vs→AtAll K ρ H es us→AtAll K ρ H (ds++es) (vs++us)
 | _,_,_,_,.nil,b=>b
 | _,_,_,_,.cons a t,b=>.cons a (AtAll.append t b)
theorem AtAll.take {ρ:Loc} {H:Hp}:∀{ds:List D} {vs:List V} (n:Nat),AtAll K ρ H ds vs→AtAll K ρ H (ds.take n) (vs.take n)
 | _,_,0,_=>.nil
 | _,_,_+1,.nil=>.nil
 | _,_,n+1,.cons a t=>.cons a (AtAll.take n t)
theorem AtAll.drop {ρ:Loc} {H:Hp}:∀{ds:List D} {vs:List V} (n:Nat),AtAll K ρ H ds vs→AtAll K ρ H (ds.drop n) (vs.drop n)
 | _,_,0,h=>h
 | _,_,_+1,.nil=>.nil
 | _,_,n+1,.cons a t=>AtAll.drop n t
theorem AtAll.set {ρ:Loc} {H:Hp} {d:D} {v:V} (a:At K ρ H d v):∀{ds:List D} {vs:List V} (n:Nat),AtAll K ρ H ds vs→AtAll K ρ H (ds.set n d) (vs.set n v)
 | _,_,_,.nil=>.nil
 | _,_,0,.cons _ t=>.cons a t
 | _,_,n+1,.cons b t=>.cons b (AtAll.set a n t)
noncomputable def KvAt (K:PySem.W.Frag) (ρ:Loc) (H:Hp):List (List Int × D)→List (List Key × V)→Prop:=Paired fun p q=>q.1=p.1.map Sum.inl∧At K ρ H p.2 q.2
theorem KvAt.ext {ρ ρ':Loc} {H H':Hp} (x:Ext ρ H ρ' H') {a:List (List Int × D)} {b:List (List Key × V)} (h:KvAt K ρ H a b):KvAt K ρ' H' a b:=Paired.mapP h fun p q z=>⟨z.1,z.2.ext x⟩
noncomputable def OAt (K:PySem.W.Frag) (ρ:Loc) (H:Hp):O→Addr→Prop
 | .lst xs,a=>∃vs,H a=some (.lst vs)∧AtAll K ρ H xs vs
 | .dT kvs,a=>∃vs,H a=some (.dT vs)∧KvAt K ρ H kvs vs
 | .fT kvs,a=>∃vs ob,H a=some (.frz ob (.dT vs))∧KvAt K ρ H kvs vs
 | .dead,_=>False
structure Rep (K:PySem.W.Frag) (ρ:Loc) (st:Store) (H:Hp):Prop where
 len:ρ.m.length=st.length
 inj:∀(n m:Nat) (a:Addr),ρ.m[n]?=some (some a)→ρ.m[m]?=some (some a)→n=m
 obj:∀(n:Nat) (a:Addr) (o:O),ρ.m[n]?=some (some a)→st[n]?=some o→OAt K ρ H o a
 gh:∀a∈ρ.g,(∃vs,H a=some (.lst vs))∧some a∉ρ.m
 live:∀(n:Nat) (o:O),st[n]?=some o→o≠.dead→∃a,ρ.m[n]?=some (some a)
noncomputable def AtO (K:PySem.W.Frag) (ρ:Loc) (H:Hp) (o:Option D) (v:Option V):Prop:=∀d,o=some d→∃u,v=some u∧At K ρ H d u
noncomputable abbrev AtS (K:PySem.W.Frag) (ρ:Loc) (H:Hp):DS→St→Prop:=Paired (AtO K ρ H)
theorem AtS.ext {ρ ρ':Loc} {H H':Hp} (x:Ext ρ H ρ' H') {σ:DS} {τ:St} (h:AtS K ρ H σ τ):AtS K ρ' H' σ τ:=Paired.mapP h fun o v z d e=>by
 obtain ⟨u,e1,a⟩:=z d e
 exact ⟨u,e1,a.ext x⟩
theorem AtS.get {ρ:Loc} {H:Hp}:∀{σ:DS} {τ:St} {i:Nat} {d:D},AtS K ρ H σ τ→σ[i]?=some (some d)→∃u,τ[i]?=some (some u)∧At K ρ H d u
 | _,_,_,_,.nil,e=>by simp at e
 | _,_,0,_,.cons a _,e=>by
  simp at e;subst e
  obtain ⟨u,e1,h⟩:=a _ rfl
  exact ⟨u,by simp[e1],h⟩
 | _,_,i+1,d,.cons _ t,e=>by
  obtain ⟨u,h1,h2⟩:=AtS.get (i:=i) (d:=d) t (by simpa using e)
  exact ⟨u,by simpa using h1,h2⟩
theorem AtS.set {ρ:Loc} {H:Hp} {d:D} {v:V} (a:At K ρ H d v):∀{σ:DS} {τ:St} (i:Nat),AtS K ρ H σ τ→AtS K ρ H (σ.set i (some d)) (τ.set i (some v))
 | _,_,_,.nil=>.nil
 | _,_,0,.cons _ t=>.cons (fun d' e=>by cases e;exact ⟨v,rfl,a⟩) t
 | _,_,i+1,.cons q t=>.cons q (AtS.set a i t)
end
noncomputable def tD (K:PySem.W.Frag) (f:SE):TE:=fun τ H Q=>∃ρ σ st v st',AtS K ρ H σ τ∧Rep K ρ st H∧f σ st=.ok v st'∧∀ρ' H' u,Ext ρ H ρ' H'→Rep K ρ' st' H'→At K ρ' H' v u→Q u H'
noncomputable def tDT (K:PySem.W.Frag) (f:ST):TT:=fun τ H Q=>∃ρ σ st v st',AtS K ρ H σ τ∧Rep K ρ st H∧f σ st=.ok v st'∧∀ρ' H',Ext ρ H ρ' H'→Rep K ρ' st' H'→Q v H'
noncomputable def tDA (K:PySem.W.Frag) (f:SA):TA:=fun τ H Q=>∃ρ σ st v st',AtS K ρ H σ τ∧Rep K ρ st H∧f σ st=.ok v st'∧∀ρ' H' u,Ext ρ H ρ' H'→Rep K ρ' st' H'→AtAll K ρ' H' v u→Q u H'
noncomputable def FlOk (K:PySem.W.Frag) (ρ:Loc) (H:Hp) (st':Store) (E:Ends):Fl→Prop
 | .nx σ=>∀ρ' H' τ,Ext ρ H ρ' H'→Rep K ρ' st' H'→AtS K ρ' H' σ τ→E.nx τ H'
 | .brk σ=>∀ρ' H' τ,Ext ρ H ρ' H'→Rep K ρ' st' H'→AtS K ρ' H' σ τ→E.bk τ H'
 | .ct σ=>∀ρ' H' τ,Ext ρ H ρ' H'→Rep K ρ' st' H'→AtS K ρ' H' σ τ→E.ct τ H'
 | .ret v=>∀ρ' H' u,Ext ρ H ρ' H'→Rep K ρ' st' H'→At K ρ' H' v u→E.rt u H'
theorem FlOk.ext {K:PySem.W.Frag} {ρ ρ1:Loc} {H H1:Hp} {st':Store} {E:Ends} {fl:Fl} (x:Ext ρ H ρ1 H1) (h:FlOk K ρ H st' E fl):FlOk K ρ1 H1 st' E fl:=by
 cases fl with
 | nx σ=>exact fun ρ' H' τ e=>h ρ' H' τ (x.trans e)
 | brk σ=>exact fun ρ' H' τ e=>h ρ' H' τ (x.trans e)
 | ct σ=>exact fun ρ' H' τ e=>h ρ' H' τ (x.trans e)
 | ret v=>exact fun ρ' H' τ e=>h ρ' H' τ (x.trans e)
noncomputable def tDS (K:PySem.W.Frag) (f:SS):TS:=fun E τ H=>∃ρ σ st fl st',AtS K ρ H σ τ∧Rep K ρ st H∧f σ st=.ok fl st'∧FlOk K ρ H st' E fl
noncomputable abbrev DE (X:Cx) (e:Expr) (f:SE):Prop:=PE X e (tD X.K f)
noncomputable abbrev DT (X:Cx) (e:Expr) (f:ST):Prop:=PT X e (tDT X.K f)
noncomputable abbrev DW (X:Cx) (e:Expr) (f:ST):Prop:=PW X e (tDT X.K f)
noncomputable abbrev DA (X:Cx) (es:List Expr) (f:SA):Prop:=PA X es (tDA X.K f)
noncomputable abbrev DSt (X:Cx) (s:Stmt) (f:SS):Prop:=PS X s (tDS X.K f)
noncomputable abbrev DSs (X:Cx) (s:List Stmt) (f:SS):Prop:=PSs X s (tDS X.K f)
section
variable {X:Cx} {e:Expr} {es:List Expr} {s:Stmt} {ss:List Stmt}
theorem pe_to {t t':TE} (h:PE X e t) (k:∀σ H Q,t' σ H Q→t σ H Q):PE X e t':=fun pins s σ H Q I q=>h pins s σ H Q I (k _ _ _ q)
theorem pt_to {t t':TT} (h:PT X e t) (k:∀σ H Q,t' σ H Q→t σ H Q):PT X e t':=fun pins s σ H Q I q=>h pins s σ H Q I (k _ _ _ q)
theorem pw_to {t t':TT} (h:PW X e t) (k:∀σ H Q,t' σ H Q→t σ H Q):PW X e t':=fun wh pins s σ H Q I q=>h wh pins s σ H Q I (k _ _ _ q)
theorem pa_to {t t':TA} (h:PA X es t) (k:∀σ H Q,t' σ H Q→t σ H Q):PA X es t':=fun pos pins s σ H Q I q=>h pos pins s σ H Q I (k _ _ _ q)
theorem ps_to {t t':TS} (h:PS X s t) (k:∀E σ H,t' E σ H→t E σ H):PS X s t':=fun pins z σ H E I q=>h pins z σ H E I (k _ _ _ q)
theorem pss_to {t t':TS} (h:PSs X ss t) (k:∀E σ H,t' E σ H→t E σ H):PSs X ss t':=fun pins z σ H E I q=>h pins z σ H E I (k _ _ _ q)
end
noncomputable def eVar (i:Nat):SE:=fun σ st=>match σ[i]? with
 | some (some d)=>.ok d st
 | _=>.stuck
noncomputable def eC (d:D):SE:=fun _ st=>.ok d st
section
variable {X:Cx}
theorem d_var {e:Expr} {i:Nat} (h:PE X e (tVar i)):DE X e (eVar i):=pe_to h fun τ H Q hq0=>by
 obtain ⟨ρ,σ,st,v,st',a,r,e,q⟩:=hq0
 unfold eVar at e
 split at e
 ·rename_i d hd
  cases e
  obtain ⟨u,e1,e2⟩:=a.get hd
  exact ⟨u,e1,q ρ H u (.refl _ _) r e2⟩
 ·cases e
theorem d_con {e:Expr} {v:V} {d:D} (h:PE X e (tC v)) (k:∀ρ H,At X.K ρ H d v):DE X e (eC d):=pe_to h fun τ H Q hq0=>by
 obtain ⟨ρ,σ,st,v,st',a,r,e,q⟩:=hq0
 cases e
 exact q ρ H _ (.refl _ _) r (k _ _)
theorem d_int {i j pos}:DE X (.Constant (.int i) j pos) (eC (.int i)):=d_con pe_int fun _ _=>.int i
theorem d_bl {b j pos}:DE X (.Constant (.bool b) j pos) (eC (.bl b)):=d_con pe_bl fun _ _=>.bl b
theorem d_non {j pos}:DE X (.Constant .none j pos) (eC .non):=d_con pe_non fun _ _=>.non
end
noncomputable def eOp (g:D→D→Store→Res D) (f f':SE):SE:=fun σ st=>(f σ st).bind fun x st1=>(f' σ st1).bind fun y st2=>g x y st2
noncomputable def eUn (g:D→Store→Res D) (f:SE):SE:=fun σ st=>(f σ st).bind fun x st1=>g x st1
noncomputable def OpD (K:PySem.W.Frag) (g:D→D→Store→Res D) (r:R2):Prop :=
 ∀ρ H st x y u v z st' (Q:VK),Rep K ρ st H→At K ρ H x u→At K ρ H y v→g x y st=.ok z st'→(∀ρ' H' w,Ext ρ H ρ' H'→Rep K ρ' st' H'→At K ρ' H' z w→Q w H')→r u v H Q
theorem opd_t {K:PySem.W.Frag} {g:D→D→Store→Res D} {r:R2} (hr:OpD K g r) {f f':SE}:∀τ H Q,tD K (eOp g f f') τ H Q→tOp r (tD K f) (tD K f') τ H Q:=fun τ H Q hq0=>by
 obtain ⟨ρ,σ,st,v,st',a,rp,e,q⟩:=hq0
 obtain ⟨x,st1,e1,e⟩:=zb e
 obtain ⟨y,st2,e2,e⟩:=zb e
 refine ⟨ρ,σ,st,x,st1,a,rp,e1,fun ρ1 H1 u x1 rp1 a1=>?_⟩
 refine ⟨ρ1,σ,st1,y,st2,a.ext x1,rp1,e2,fun ρ2 H2 w x2 rp2 a2=>?_⟩
 exact hr ρ2 H2 st2 x y u w v st' Q rp2 (a1.ext x2) a2 e fun ρ' H' z x3 rp3 a3=>q ρ' H' z (x1.trans (x2.trans x3)) rp3 a3
section
variable {X:Cx} {a b c:Expr} {f f' f'':SE} {pos:Pos}
theorem d_op {op:Operator} {r:R2} {g:D→D→Store→Res D} (ho:OpR X (binaryOp op) r) (hr:OpD X.K g r) (ha:DE X a f) (hb:DE X b f'):DE X (.BinOp a op b pos) (eOp g f f'):=pe_to (pe_op ho ha hb) (opd_t hr)
theorem d_cmp {op:CmpOp} {r:R2} {g:D→D→Store→Res D} (ho:OpR X (compareOp op) r) (hr:OpD X.K g r) (ha:DE X a f) (hb:DE X b f') (hm:behindInMarks op b=false):DE X (.Compare a [op] [b] pos) (eOp g f f'):=pe_to (zwk ho ha hb hm) (opd_t hr)
noncomputable def eB (f:SE):ST:=fun σ st=>(f σ st).bind fun v st1=>match v with
 | .bl b=>.ok b st1
 | _=>.stuck
theorem eB_t {K:PySem.W.Frag} {f:SE}:∀τ H Q,tDT K (eB f) τ H Q→tD K f τ H fun x H1=>∃c,x=.bl c∧Q c H1:=fun τ H Q hq0=>by
 obtain ⟨ρ,σ,st,v,st',a,rp,e,q⟩:=hq0
 obtain ⟨x,st1,e1,e⟩:=zb e
 refine ⟨ρ,σ,st,x,st1,a,rp,e1,fun ρ1 H1 u x1 rp1 a1=>?_⟩
 cases x<;>try (cases e;done)
 cases e
 cases a1
 exact ⟨_,rfl,q _ _ x1 rp1⟩
theorem dt_cmp {op:CmpOp} {r:R2} {g:D→D→Store→Res D} (ho:OpR X (compareOp op) r) (hr:OpD X.K g r) (ha:DE X a f) (hb:DE X b f') (hm:behindInMarks op b=false):DT X (.Compare a [op] [b] pos) (eB (eOp g f f')) :=
 pt_to (zvs ho ha hb hm) fun τ H Q h=>opd_t hr _ _ _ (eB_t _ _ _ h)
noncomputable def eChain (g g':D→D→Store→Res D) (f f' f'':SE):SE:=fun σ st=>(f σ st).bind fun x st1=>(f' σ st1).bind fun y st2=>(g x y st2).bind fun z st3=>match z with
 | .bl true=>(f'' σ st3).bind fun w st4=>g' y w st4
 | .bl false=>.ok (.bl false) st3
 | _=>.stuck
theorem zyi {K:PySem.W.Frag} {g g':D→D→Store→Res D} {r r':R2} (hr:OpD K g r) (hr':OpD K g' r') {f f' f'':SE}:∀τ H Q,tD K (eChain g g' f f' f'') τ H Q→tChain r r' (tD K f) (tD K f') (tD K f'') τ H Q:=fun τ H Q hq0=>by
 obtain ⟨ρ,σ,st,v,st',a,rp,e,q⟩:=hq0
 obtain ⟨x,st1,e1,e⟩:=zb e
 obtain ⟨y,st2,e2,e⟩:=zb e
 obtain ⟨z,st3,e3,e⟩:=zb e
 refine ⟨ρ,σ,st,x,st1,a,rp,e1,fun ρ1 H1 u x1 rp1 a1=>?_⟩
 refine ⟨ρ1,σ,st1,y,st2,a.ext x1,rp1,e2,fun ρ2 H2 w x2 rp2 a2=>?_⟩
 refine hr ρ2 H2 st2 x y u w z st3 _ rp2 (a1.ext x2) a2 e3 fun ρ3 H3 zz x3 rp3 a3=>?_
 have X3:=x1.trans (x2.trans x3)
 cases z<;>try (cases e;done)
 rename_i b
 cases a3
 refine ⟨b,rfl,?_⟩
 cases b with
 | true =>
  obtain ⟨t,st4,e4,e⟩:=zb e
  rw[if_pos rfl]
  refine ⟨ρ3,σ,st3,t,st4,a.ext X3,rp3,e4,fun ρ4 H4 tt x4 rp4 a4=>?_⟩
  exact hr' ρ4 H4 st4 y t w tt v st' Q rp4 (a2.ext (x3.trans x4)) a4 e fun ρ' H' zz x5 rp5 a5=>q ρ' H' zz (X3.trans (x4.trans x5)) rp5 a5
 | false =>
  cases e
  rw[if_neg (by decide)]
  exact q ρ3 H3 _ X3 rp3 (.bl false)
end
end Dd
set_option maxHeartbeats 4000000
namespace Dd
open PySem L2
section
variable {K:PySem.W.Frag} {ρ:Loc} {st:Store} {H:Hp} {p a:Addr} {o:HO} {n:Nat}
theorem Ext.new (hp:H p=none) (o:HO):Ext ρ H ρ (upd H p o):=⟨Nat.le_refl _,fun _ _ _ e=>e,fun b u e m=>⟨by rw[upd_ne (zg e hp)];exact e,m⟩,rfl,fun b ob u e=>by rw[upd_ne (zg e hp)];exact e⟩
theorem zct {vs:List V} (h:H a=some (.lst vs)):∀ob u,H a≠some (.frz ob u):=fun ob u z=>by rw[h] at z;cases z
theorem zhk {vs:List (List Key × V)} (h:H a=some (.dT vs)):∀ob u,H a≠some (.frz ob u):=fun ob u z=>by rw[h] at z;cases z
theorem Ext.wr (h:ρ.m[n]?=some (some a)) (hz:∀ob u,H a≠some (.frz ob u)) (o:HO):Ext ρ H ρ (upd H a o):=⟨Nat.le_refl _,fun _ _ _ e=>e,fun b u e m=>⟨by
 rw[upd_ne]
 ·exact e
 ·rintro rfl
  exact m (List.mem_of_getElem? h),m⟩,rfl,fun b ob u e=>by
 rw[upd_ne]
 ·exact e
 ·rintro rfl
  exact hz _ _ e⟩
theorem OAt.has {x:O} (h:OAt K ρ H x a):∃u,H a=some u:=by
 cases x with
 | lst xs=>obtain ⟨vs,e,_⟩:=h;exact ⟨_,e⟩
 | dT kvs=>obtain ⟨vs,e,_⟩:=h;exact ⟨_,e⟩
 | fT kvs=>obtain ⟨vs,ob,e,_⟩:=h;exact ⟨_,e⟩
 | dead=>exact h.elim
theorem OAt.ext {ρ':Loc} {H':Hp} {x:O} (e:Ext ρ H ρ' H') (same:H' a=H a) (h:OAt K ρ H x a):OAt K ρ' H' x a:=by
 cases x with
 | lst xs=>obtain ⟨vs,q,r⟩:=h;exact ⟨vs,by rw[same];exact q,r.ext e⟩
 | dT kvs=>obtain ⟨vs,q,r⟩:=h;exact ⟨vs,by rw[same];exact q,r.ext e⟩
 | fT kvs=>obtain ⟨vs,ob,q,r⟩:=h;exact ⟨vs,ob,by rw[same];exact q,r.ext e⟩
 | dead=>exact h.elim
theorem Rep.has (r:Rep K ρ st H) (h:ρ.m[n]?=some (some a)):∃x,st[n]?=some x∧OAt K ρ H x a:=by
 have hn:n < st.length:=by rw[← r.len];exact (List.getElem?_eq_some_iff.mp h).1
 exact ⟨st[n],List.getElem?_eq_getElem hn,r.obj n a _ h (List.getElem?_eq_getElem hn)⟩
theorem Rep.new (r:Rep K ρ st H) (hp:H p=none) (o:HO):Rep K ρ st (upd H p o):=⟨r.len,r.inj,fun m b x e1 e2=>by
 have q:=r.obj m b x e1 e2
 obtain ⟨u,hu⟩:=q.has
 exact q.ext (Ext.new hp o) (upd_ne (zg hu hp)),fun b hb=>by
 obtain ⟨⟨u,hu⟩,n⟩:=r.gh b hb
 exact ⟨⟨u,by rw[upd_ne (zg hu hp)];exact hu⟩,n⟩,r.live⟩
theorem Rep.wr (r:Rep K ρ st H) (h:ρ.m[n]?=some (some a)) (hz:∀ob u,H a≠some (.frz ob u)) {x:O} {o:HO} (q:OAt K ρ (upd H a o) x a):Rep K ρ (st.set n x) (upd H a o):=⟨by rw[r.len,List.length_set],r.inj,fun m b y e1 e2=>by
 by_cases hm:m=n
 ·subst hm
  have hb:b=a:=by rw[h] at e1;exact (Option.some.inj (Option.some.inj e1)).symm
  subst hb
  have hl:m < st.length:=by rw[← r.len];exact (List.getElem?_eq_some_iff.mp h).1
  rw[List.getElem?_set_self hl] at e2
  cases e2
  exact q
 ·rw[List.getElem?_set_ne (Ne.symm hm)] at e2
  refine (r.obj m b y e1 e2).ext (Ext.wr h hz o) (upd_ne fun z=>hm ?_)
  subst z
  exact r.inj m n b e1 h,fun b hb=>by
 obtain ⟨⟨u,hu⟩,n1⟩:=r.gh b hb
 refine ⟨⟨u,?_⟩,n1⟩
 rw[upd_ne]
 ·exact hu
 ·rintro rfl
  exact n1 (List.mem_of_getElem? h),fun m y e ne=>by
 by_cases hm:m=n
 ·subst hm;exact ⟨a,h⟩
 ·rw[List.getElem?_set_ne (Ne.symm hm)] at e
  exact r.live m y e ne⟩
theorem Rep.alloc (r:Rep K ρ st H) (hp:H p=none) {x:O} {o:HO} (q:Ext ρ H ⟨ρ.m++[some p],ρ.g⟩ (upd H p o)→OAt K ⟨ρ.m++[some p],ρ.g⟩ (upd H p o) x p):Ext ρ H ⟨ρ.m++[some p],ρ.g⟩ (upd H p o)∧Rep K ⟨ρ.m++[some p],ρ.g⟩ (st++[x]) (upd H p o):=by
 have hn:∀(m:Nat) (b:Addr),(ρ.m++[some p])[m]?=some (some b)→(m < ρ.m.length∧ρ.m[m]?=some (some b))∨(m=ρ.m.length∧b=p):=fun m b e=>by
  rcases Nat.lt_or_ge m ρ.m.length with z | z
  ·rw[List.getElem?_append_left z] at e
   exact .inl ⟨z,e⟩
  ·rw[List.getElem?_append_right z] at e
   have z2:m - ρ.m.length=0:=by
    have:=(List.getElem?_eq_some_iff.mp e).1
    simp at this
    omega
   rw[z2] at e
   simp at e
   exact .inr ⟨by omega,e.symm⟩
 have nl:∀(m:Nat),ρ.m[m]?≠some (some p):=fun m e=>by
  obtain ⟨x,_,q⟩:=r.has e
  obtain ⟨u,hu⟩:=q.has
  rw[hp] at hu;cases hu
 have E:Ext ρ H ⟨ρ.m++[some p],ρ.g⟩ (upd H p o):=⟨by rw[List.length_append];omega,fun m b h e=>by
   rw[List.getElem?_append_left h] at e;exact e,fun b u e m=>⟨by rw[upd_ne (zg e hp)];exact e,fun z=>by
   rcases List.mem_append.mp z with z | z
   ·exact m z
   ·simp at z;subst z;rw[hp] at e;cases e⟩,rfl,fun b ob u e=>by rw[upd_ne (zg e hp)];exact e⟩
 refine ⟨E,⟨by rw[List.length_append,List.length_append,r.len];rfl,fun m k b e1 e2=>?_,fun m b y e1 e2=>?_,fun b hb=>?_,fun m y e ne=>?_⟩⟩
 ·rcases hn m b e1 with ⟨h1,q1⟩ | ⟨h1,rfl⟩
  ·rcases hn k b e2 with ⟨h2,q2⟩ | ⟨h2,rfl⟩
   ·exact r.inj m k b q1 q2
   ·exact absurd q1 (nl m)
  ·rcases hn k b e2 with ⟨h2,q2⟩ | ⟨h2,_⟩
   ·exact absurd q2 (nl k)
   ·omega
 ·rcases hn m b e1 with ⟨h1,q1⟩ | ⟨h1,rfl⟩
  ·rw[List.getElem?_append_left (by rw[← r.len];exact h1)] at e2
   have q:=r.obj m b y q1 e2
   obtain ⟨u,hu⟩:=q.has
   exact q.ext E (upd_ne (zg hu hp))
  ·rw[h1,r.len,List.getElem?_append_right (Nat.le_refl _)] at e2
   simp at e2
   subst e2
   exact q E
 ·obtain ⟨⟨u,hu⟩,n1⟩:=r.gh b hb
  refine ⟨⟨u,by rw[upd_ne (zg hu hp)];exact hu⟩,fun z=>?_⟩
  rcases List.mem_append.mp z with z | z
  ·exact n1 z
  ·simp at z
   subst z
   rw[hp] at hu;cases hu
 ·rcases Nat.lt_or_ge m st.length with z | z
  ·rw[List.getElem?_append_left z] at e
   obtain ⟨b,hb⟩:=r.live m y e ne
   exact ⟨b,by rw[List.getElem?_append_left (by rw[r.len];exact z)];exact hb⟩
  ·have z2:=(List.getElem?_eq_some_iff.mp e).1
   simp at z2
   have z3:m=ρ.m.length:=by rw[r.len];omega
   exact ⟨p,by rw[z3,List.getElem?_append_right (Nat.le_refl _)];simp⟩
theorem Rep.kill (r:Rep K ρ st H) (h:n < ρ.m.length):Ext ρ H ⟨ρ.m.set n none,ρ.g⟩ H∧Rep K ⟨ρ.m.set n none,ρ.g⟩ (st.set n .dead) H:=by
 have hn:∀(m:Nat) (b:Addr),(ρ.m.set n none)[m]?=some (some b)→m≠n∧ρ.m[m]?=some (some b):=fun m b e=>by
  by_cases z:m=n
  ·subst z;rw[List.getElem?_set_self h] at e;simp at e
  ·rw[List.getElem?_set_ne (Ne.symm z)] at e
   exact ⟨z,e⟩
 have E:Ext ρ H ⟨ρ.m.set n none,ρ.g⟩ H:=⟨by rw[List.length_set];exact Nat.le_refl _,fun m b _ e=>(hn m b e).2,fun b o e m=>⟨e,fun z=>by
  obtain ⟨i,hi,e2⟩:=List.getElem_of_mem z
  have:(ρ.m.set n none)[i]?=some (some b):=by rw[List.getElem?_eq_getElem hi,e2]
  exact m (List.mem_of_getElem? (hn i b this).2)⟩,rfl,fun _ _ _ e=>e⟩
 refine ⟨E,⟨by rw[List.length_set,List.length_set,r.len],fun m k b e1 e2=>r.inj m k b (hn m b e1).2 (hn k b e2).2,fun m b y e1 e2=>?_,fun b hb=>⟨(r.gh b hb).1,fun z=>?_⟩,fun m y e ne=>?_⟩⟩
 rotate_left
 ·obtain ⟨i,hi,e2⟩:=List.getElem_of_mem z
  have:(ρ.m.set n none)[i]?=some (some b):=by rw[List.getElem?_eq_getElem hi,e2]
  exact (r.gh b hb).2 (List.mem_of_getElem? (hn i b this).2)
 ·have z:m≠n:=by
   rintro rfl
   rw[List.getElem?_set_self (by rw[← r.len];exact h)] at e
   cases e
   exact ne rfl
  rw[List.getElem?_set_ne (Ne.symm z)] at e
  obtain ⟨b,hb⟩:=r.live m y e ne
  exact ⟨b,by rw[List.getElem?_set_ne (Ne.symm z)];exact hb⟩
 obtain ⟨z,q⟩:=hn m b e1
 rw[List.getElem?_set_ne (Ne.symm z)] at e2
 exact (r.obj m b y q e2).ext E rfl
theorem zia (r:Rep K ρ st H) (hp:H p=none):Out ρ p:=by
 refine ⟨fun z=>?_,fun z=>?_⟩
 ·obtain ⟨i,hi,e⟩:=List.getElem_of_mem z
  obtain ⟨x,_,q⟩:=r.has (n:=i) (a:=p) (by rw[List.getElem?_eq_getElem hi,e])
  obtain ⟨u,hu⟩:=q.has
  rw[hp] at hu;cases hu
 ·obtain ⟨⟨u,hu⟩,_⟩:=r.gh p z
  rw[hp] at hu;cases hu
theorem At.newT (r:Rep K ρ st H) (hp:H p=none) {ds:List D} {vs:List V} (h:AtAll K ρ H ds vs):At K ρ (upd H p (.tup vs)) (.tup ds) (.ref p):=.tup zr (zia r hp) (h.ext (Ext.new hp _))
theorem At.newL (r:Rep K ρ st H) (hp:H p=none) {ds:List D} {vs:List V} (h:AtAll K ρ H ds vs):At K ρ (upd H p (.lst vs)) (.lst ds) (.ref p):=.lst zr (zia r hp) (h.ext (Ext.new hp _))
end
noncomputable def eAnd (f f':SE):SE:=fun σ st=>(f σ st).bind fun v st1=>match v with
 | .bl true=>f' σ st1
 | .bl false=>.ok (.bl false) st1
 | _=>.stuck
noncomputable def eOr (f f':SE):SE:=fun σ st=>(f σ st).bind fun v st1=>match v with
 | .bl true=>.ok (.bl true) st1
 | .bl false=>f' σ st1
 | _=>.stuck
noncomputable def eNot (f:SE):SE:=fun σ st=>(f σ st).bind fun v st1=>match v with
 | .bl b=>.ok (.bl (!b)) st1
 | _=>.stuck
noncomputable def bAnd (f f':ST):ST:=fun σ st=>(f σ st).bind fun b st1=>if b=true then f' σ st1 else .ok false st1
noncomputable def bOr (f f':ST):ST:=fun σ st=>(f σ st).bind fun b st1=>if b=true then .ok true st1 else f' σ st1
noncomputable def bNot (f:ST):ST:=fun σ st=>(f σ st).bind fun b st1=>.ok (!b) st1
noncomputable def eIf (c:ST) (f f':SE):SE:=fun σ st=>(c σ st).bind fun b st1=>if b=true then f σ st1 else f' σ st1
section
variable {X:Cx} {a b:Expr} {rest:List Expr} {f f':SE} {t t':ST} {pos:Pos}
theorem d_one {op} (h:DE X a f):DE X (.BoolOp op [a] pos) f:=pe_one h
theorem d_or (ha:DE X a f) (hb:DE X (.BoolOp .Or (b::rest) pos) f'):DE X (.BoolOp .Or (a::b::rest) pos) (eOr f f'):=pe_to (pe_or ha hb) fun τ H Q hq0=>by
 obtain ⟨ρ,σ,st,v,st',at',rp,e,q⟩:=hq0
 obtain ⟨x,st1,e1,e⟩:=zb e
 refine ⟨ρ,σ,st,x,st1,at',rp,e1,fun ρ1 H1 u x1 rp1 a1=>?_⟩
 cases x<;>try (cases e;done)
 rename_i bb
 cases a1
 refine ⟨bb,rfl,?_⟩
 cases bb with
 | false =>
  rw[if_neg (by decide)]
  exact ⟨ρ1,σ,st1,v,st',at'.ext x1,rp1,e,fun ρ' H' u x2=>q ρ' H' u (x1.trans x2)⟩
 | true =>
  rw[if_pos rfl]
  cases e
  exact q _ _ _ x1 rp1 (.bl true)
theorem d_not (ha:DE X a f):DE X (.UnaryOp .Not a pos) (eNot f):=pe_to (pe_not ha) fun τ H Q hq0=>by
 obtain ⟨ρ,σ,st,v,st',at',rp,e,q⟩:=hq0
 obtain ⟨x,st1,e1,e⟩:=zb e
 refine ⟨ρ,σ,st,x,st1,at',rp,e1,fun ρ1 H1 u x1 rp1 a1=>?_⟩
 cases x<;>try (cases e;done)
 rename_i bb
 cases a1
 cases e
 exact ⟨bb,rfl,q _ _ _ x1 rp1 (.bl _)⟩
theorem dw_one {op} (h:DT X a t) (hop:op=.And∨op=.Or):DW X (.BoolOp op [a] pos) t:=by
 rcases hop with rfl | rfl
 ·exact pw_and1 h
 ·exact pw_or1 h
theorem dw_and (ha:DT X a t) (hb:DW X (.BoolOp .And (b::rest) pos) t'):DW X (.BoolOp .And (a::b::rest) pos) (bAnd t t'):=pw_to (pw_and ha hb) fun τ H Q hq0=>by
 obtain ⟨ρ,σ,st,v,st',at',rp,e,q⟩:=hq0
 obtain ⟨x,st1,e1,e⟩:=zb e
 refine ⟨ρ,σ,st,x,st1,at',rp,e1,fun ρ1 H1 x1 rp1=>?_⟩
 cases x with
 | true=>exact iteT ⟨ρ1,σ,st1,v,st',at'.ext x1,rp1,e,fun ρ' H' x2=>q ρ' H' (x1.trans x2)⟩
 | false=>cases e;exact iteF (q _ _ x1 rp1)
theorem dw_or (ha:DT X a t) (hb:DW X (.BoolOp .Or (b::rest) pos) t'):DW X (.BoolOp .Or (a::b::rest) pos) (bOr t t'):=pw_to (pw_or ha hb) fun τ H Q hq0=>by
 obtain ⟨ρ,σ,st,v,st',at',rp,e,q⟩:=hq0
 obtain ⟨x,st1,e1,e⟩:=zb e
 refine ⟨ρ,σ,st,x,st1,at',rp,e1,fun ρ1 H1 x1 rp1=>?_⟩
 cases x with
 | false=>exact iteF ⟨ρ1,σ,st1,v,st',at'.ext x1,rp1,e,fun ρ' H' x2=>q ρ' H' (x1.trans x2)⟩
 | true=>cases e;exact iteT (q _ _ x1 rp1)
theorem dt_not (ha:DT X a t):DT X (.UnaryOp .Not a pos) (bNot t):=pt_to (pt_not ha) fun τ H Q hq0=>by
 obtain ⟨ρ,σ,st,v,st',at',rp,e,q⟩:=hq0
 obtain ⟨x,st1,e1,e⟩:=zb e
 cases e
 exact ⟨ρ,σ,st,x,_,at',rp,e1,fun ρ1 H1 x1 rp1=>q _ _ x1 rp1⟩
end
noncomputable def aNil:SA:=fun _ st=>.ok [] st
noncomputable def aCons (f:SE) (g:SA):SA:=fun σ st=>(f σ st).bind fun x st1=>(g σ st1).bind fun xs st2=>.ok (x::xs) st2
noncomputable def eTup (g:SA):SE:=fun σ st=>(g σ st).bind fun xs st1=>if xs.length≤sizeLine then .ok (.tup xs) st1 else .stuck
noncomputable def eLst (g:SA):SE:=fun σ st=>(g σ st).bind fun xs st1=>if xs.length≤sizeLine then .ok (.lst xs) st1 else .stuck
noncomputable def eLstM (g:SA):SE:=fun σ st=>(g σ st).bind fun xs st1=>if xs.length≤sizeLine then .ok (.ref st1.length) (st1++[.lst xs]) else .stuck
section
variable {X:Cx} {e:Expr} {es:List Expr} {f:SE} {g:SA} {pos:Pos}
theorem da_nil:DA X [] aNil:=pa_to pa_nil fun τ H Q hq0=>by
 obtain ⟨ρ,σ,st,v,st',a,rp,e,q⟩:=hq0
 cases e
 exact q _ _ _ (.refl _ _) rp .nil
theorem zyb (ha:DE X e f) (hr:DA X es g) (hs:starEach (e::es) X.env=(false,eval e X.env)::starEach es X.env:=by rfl):DA X (e::es) (aCons f g):=pa_to (zwo ha hr hs) fun τ H Q hq0=>by
 obtain ⟨ρ,σ,st,v,st',a,rp,e,q⟩:=hq0
 obtain ⟨x,st1,e1,e⟩:=zb e
 obtain ⟨y,st2,e2,e⟩:=zb e
 cases e
 refine ⟨ρ,σ,st,x,st1,a,rp,e1,fun ρ1 H1 u x1 rp1 a1=>?_⟩
 exact ⟨ρ1,σ,st1,y,_,a.ext x1,rp1,e2,fun ρ2 H2 w x2 rp2 a2=>q _ _ _ (x1.trans x2) rp2 (.cons (a1.ext x2) a2)⟩
theorem d_tup {x1} (h:DA X es g):DE X (.Tuple es x1 pos) (eTup g):=pe_to (pe_tup h) fun τ H Q hq0=>by
 obtain ⟨ρ,σ,st,v,st',a,rp,e,q⟩:=hq0
 obtain ⟨x,st1,e1,e⟩:=zb e
 split at e
 ·rename_i hl
  cases e
  refine ⟨ρ,σ,st,x,_,a,rp,e1,fun ρ1 H1 u x1 rp1 a1=>⟨by rw[a1.length];exact hl,fun p hp=>?_⟩⟩
  exact q ρ1 _ _ (x1.trans (Ext.new hp _)) (rp1.new hp _) (.newT rp1 hp a1)
 ·cases e
theorem d_lst (h:DA X es g):DE X (.List es pos) (eLst g):=pe_to (pe_lst h) fun τ H Q hq0=>by
 obtain ⟨ρ,σ,st,v,st',a,rp,e,q⟩:=hq0
 obtain ⟨x,st1,e1,e⟩:=zb e
 split at e
 ·rename_i hl
  cases e
  refine ⟨ρ,σ,st,x,_,a,rp,e1,fun ρ1 H1 u x1 rp1 a1=>⟨by rw[a1.length];exact hl,fun p hp=>?_⟩⟩
  exact q ρ1 _ _ (x1.trans (Ext.new hp _)) (rp1.new hp _) (.newL rp1 hp a1)
 ·cases e
theorem At.last {K:PySem.W.Frag} {ρ:Loc} {H:Hp} {p:Addr} {n:Nat} (h:n=ρ.m.length):At K ⟨ρ.m++[some p],ρ.g⟩ H (.ref n) (.ref p):=by
 subst h
 refine .ref (by simp) fun a e=>?_
 simp at e
 rw[e]
theorem d_lstM (h:DA X es g):DE X (.List es pos) (eLstM g):=pe_to (pe_lst h) fun τ H Q hq0=>by
 obtain ⟨ρ,σ,st,v,st',a,rp,e,q⟩:=hq0
 obtain ⟨x,st1,e1,e⟩:=zb e
 split at e
 ·rename_i hl
  cases e
  refine ⟨ρ,σ,st,x,_,a,rp,e1,fun ρ1 H1 u x1 rp1 a1=>⟨by rw[a1.length];exact hl,fun p hp=>?_⟩⟩
  obtain ⟨E,R⟩:=rp1.alloc hp (x:=.lst x) (o:=.lst u) fun E=>⟨u,zr,a1.ext E⟩
  exact q _ _ _ (x1.trans E) R (.last rp1.len.symm)
 ·cases e
end
end Dd
set_option maxHeartbeats 4000000
namespace Dd
open PySem L2
noncomputable def asL (st:Store):D→Option (List D)
 | .lst xs=>some xs
 | .ref n=>match st[n]? with
  | some (.lst xs)=>some xs
  | _=>none
 | _=>none
section
variable {K:PySem.W.Frag} {ρ:Loc} {st:Store} {H:Hp} {d:D} {u:V} {xs:List D}
theorem ref_at (rp:Rep K ρ st H) {n:Nat} {o:O} (a:At K ρ H (.ref n) u) (e:st[n]?=some o) (hd:o≠.dead):∃p,u=.ref p∧ρ.m[n]?=some (some p)∧OAt K ρ H o p:=by
 cases a with
 | ref h1 h2 =>
  obtain ⟨p,hp⟩:=rp.live n o e hd
  exact ⟨p,h2 p hp,hp,rp.obj n p o hp e⟩
theorem asL_at (rp:Rep K ρ st H) (a:At K ρ H d u) (e:asL st d=some xs):∃p vs,u=.ref p∧H p=some (.lst vs)∧AtAll K ρ H xs vs:=by
 cases d<;>try (cases e;done)
 ·rename_i n
  unfold asL at e
  dsimp only at e
  split at e
  ·rename_i ys hys
   cases e
   obtain ⟨p,rfl,hp,vs,q1,q2⟩:=ref_at rp a hys (by intro z;cases z)
   exact ⟨p,vs,rfl,q1,q2⟩
  ·cases e
 ·cases e
  cases a with
  | lst h1 h2 h3=>exact ⟨_,_,rfl,h1,h3⟩
end
noncomputable def oI (C:Int→Int→Prop) [DecidableRel C] (h:Int→Int→D) (x y:D) (st:Store):Res D:=match x,y with
 | .int i,.int j=>if C i j then .ok (h i j) st else .stuck
 | _,_=>.stuck
theorem oI_D {K:PySem.W.Frag} {C:Int→Int→Prop} [DecidableRel C] {h:Int→Int→D} {g:Int→Int→V} (k:∀i j ρ H,At K ρ H (h i j) (g i j)):OpD K (oI C h) (rI C g):=fun ρ H st x y u v z st' Q rp a b e q=>by
 unfold oI at e
 split at e
 ·cases a
  cases b
  split at e
  ·rename_i hc
   cases e
   exact ⟨_,_,rfl,rfl,hc,q _ _ _ (.refl _ _) rp (k _ _ _ _)⟩
  ·cases e
 ·cases e
theorem oI_D0 {K:PySem.W.Frag} {h:Int→Int→D} {g:Int→Int→V} (k:∀i j ρ H,At K ρ H (h i j) (g i j)):OpD K (oI (fun _ _=>True) h) (rI0 g):=fun ρ H st x y u v z st' Q rp a b e q=>by
 obtain ⟨i,j,e1,e2,_,e3⟩:=oI_D (C:=fun _ _=>True) k ρ H st x y u v z st' Q rp a b e q
 exact ⟨i,j,e1,e2,e3⟩
noncomputable instance:DecidableRel CMul:=fun i j=>by unfold CMul;infer_instance
noncomputable instance:DecidableRel CDivP:=fun i j=>by unfold CDivP;infer_instance
noncomputable instance:DecidableRel CPow:=fun i j=>by unfold CPow;infer_instance
noncomputable abbrev oSub:=oI (fun _ _=>True) fun i j=>.int (i - j)
noncomputable abbrev oFdiv:=oI CDivP fun i j=>.int (i / j)
noncomputable abbrev oMod:=oI (fun _ j=>0 < j) fun i j=>.int (i % j)
noncomputable abbrev oAndI:=oI (fun _ _=>True) fun i j=>.int (Builtin.bitAnd i j)
noncomputable abbrev oPow:=oI CPow fun i j=>.int (i ^ j.toNat)
noncomputable abbrev oShl:=oI CPow fun i j=>.int (i * 2 ^ j.toNat)
noncomputable abbrev oShr:=oI (fun _ j=>0≤j) fun i j=>.int (i / 2 ^ j.toNat)
noncomputable abbrev oMulI:=oI CMul fun i j=>.int (i * j)
noncomputable def oAdd (x y:D) (st:Store):Res D:=match x,y with
 | .int i,.int j=>.ok (.int (i+j)) st
 | .tup a,.tup b=>if a.length+b.length≤sizeLine then .ok (.tup (a++b)) st else .stuck
 | .str a,.str b=>if a.length+b.length≤sizeLine then .ok (.str (a++b)) st else .stuck
 | x,y=>match asL st x,asL st y with
  | some a,some b=>if a.length+b.length≤sizeLine then .ok (.lst (a++b)) st else .stuck
  | _,_=>.stuck
noncomputable abbrev rAddA (K:PySem.W.Frag):R2:=fun x y H Q=>rI0 (fun i j=>.int (i+j)) x y H Q∨rCatA K x y H Q∨(∃i j,x=.str i∧y=.str j∧i.length+j.length≤sizeLine∧Q (.str (i++j)) H)∨rCat x y H Q
section
variable {X:Cx}
theorem zu:OpR X (binaryOp .Add) (rAddA X.K):=op_add.or (zwt.or (znq.or op_cat))
theorem oAdd_D {K:PySem.W.Frag}:OpD K oAdd (rAddA K):=fun ρ H st x y u v z st' Q rp a b e q=>by
 unfold oAdd at e
 split at e
 ·cases a
  cases b
  cases e
  exact .inl ⟨_,_,rfl,rfl,q _ _ _ (.refl _ _) rp (.int _)⟩
 ·rename_i ds es
  split at e
  ·rename_i hl
   cases e
   refine .inr (.inl ?_)
   cases a with
   | tup h1 h2 h3 =>
    cases b with
    | tup k1 k2 k3 =>
     refine ⟨_,_,_,_,rfl,rfl,SqT.of h1,SqT.of k1,by rw[h3.length,k3.length];exact hl,fun z=>?_,fun z1 z2=>?_,fun z1 z2 p hp=>?_⟩
     ·subst z
      cases h3
      exact q _ _ _ (.refl _ _) rp (.tup k1 k2 k3)
     ·subst z2
      cases k3
      rw[List.append_nil] at q
      exact q _ _ _ (.refl _ _) rp (.tup h1 h2 h3)
     ·exact q _ _ _ (Ext.new hp _) (rp.new hp _) (.newT rp hp (h3.append k3))
  ·cases e
 ·split at e
  ·rename_i hl
   cases a
   cases b
   cases e
   exact .inr (.inr (.inl ⟨_,_,rfl,rfl,hl,q _ _ _ (.refl _ _) rp (.str _)⟩))
  ·cases e
 ·split at e
  ·rename_i h1 h2
   split at e
   ·rename_i hl
    cases e
    obtain ⟨p,vs,rfl,g1,g2⟩:=asL_at rp a h1
    obtain ⟨p',ws,rfl,k1,k2⟩:=asL_at rp b h2
    exact .inr (.inr (.inr ⟨_,_,_,_,rfl,rfl,g1,k1,by rw[g2.length,k2.length];exact hl,fun t ht=>q _ _ _ (Ext.new ht _) (rp.new ht _) (.newL rp ht (g2.append k2))⟩))
   ·cases e
  ·cases e
end
noncomputable abbrev oLe:=oI (fun _ _=>True) fun i j=>.bl (decide (i≤j))
noncomputable abbrev oGt:=oI (fun _ _=>True) fun i j=>.bl (decide (j < i))
mutual
noncomputable def toData:D→Option PyData
 | .non=>some .none
 | .bl b=>some (.bool b)
 | .int i=>some (.int i)
 | .str x=>some (.str x)
 | .tup ds=>(toDatas ds).map .tuple
 | .lst ds=>(toDatas ds).map .list
 | _=>none
noncomputable def toDatas:List D→Option (List PyData)
 | []=>some []
 | d::ds=>(toData d).bind fun x=>(toDatas ds).map fun xs=>x::xs
end
mutual
theorem zsg {K:PySem.W.Frag} {ρ:Loc} {H:Hp}:∀{d:D} {v:V} {p:PyData},At K ρ H d v→toData d=some p→DAt K H v p
 | _,_,_,.non,e=>by cases e;exact .non
 | _,_,_,.bl b,e=>by cases e;exact .bl b
 | _,_,_,.int i,e=>by cases e;exact .int i
 | _,_,_,.str x,e=>by cases e;exact .str x
 | _,_,_,.ty n,e=>by cases e
 | _,_,_,.exn _,e=>by cases e
 | _,_,_,.ref _ _,e=>by cases e
 | _,_,_,.tup h _ al,e=>by
  rw[toData] at e
  obtain ⟨ps,e1,rfl⟩:=Option.map_eq_some_iff.mp e
  exact .tup (SqT.of h) (zif al e1)
 | _,_,_,.lst h _ al,e=>by
  rw[toData] at e
  obtain ⟨ps,e1,rfl⟩:=Option.map_eq_some_iff.mp e
  exact .lst (SqL.of h) (zif al e1)
 | _,_,_,.scr _ _,e=>by cases e
theorem zif {K:PySem.W.Frag} {ρ:Loc} {H:Hp}:∀{d:List D} {v:List V} {p:List PyData},AtAll K ρ H d v→toDatas d=some p→DAll K H v p
 | _,_,_,.nil,e=>by cases e;exact .nil
 | _,_,_,.cons a b,e=>by
  rw[toDatas] at e
  obtain ⟨x,e1,e⟩:=Option.bind_eq_some_iff.mp e
  obtain ⟨xs,e2,rfl⟩:=Option.map_eq_some_iff.mp e
  exact .cons (zsg a e1) (zif b e2)
end
noncomputable def now (st:Store) (d:D):D:=match asL st d with
 | some xs=>.lst xs
 | none=>d
noncomputable def dataOf (st:Store) (d:D):Option PyData:=toData (now st d)
theorem zls {K:PySem.W.Frag} {ρ:Loc} {st:Store} {H:Hp} (rp:Rep K ρ st H) {d:D} {u:V} {p:PyData} (a:At K ρ H d u) (e:dataOf st d=some p):DAt K H u p:=by
 unfold dataOf now at e
 split at e
 ·rename_i xs hx
  obtain ⟨q,vs,rfl,h1,h2⟩:=asL_at rp a hx
  rw[toData] at e
  obtain ⟨ps,e1,rfl⟩:=Option.map_eq_some_iff.mp e
  exact .lst (SqL.of h1) (zif h2 e1)
 ·exact zsg a e
noncomputable def oEqG (neg:Bool) (x y:D) (st:Store):Res D:=match dataOf st x,dataOf st y with
 | some a,some b=>if PySem.SeqAt.shaped a=true∧PySem.SeqAt.shaped b=true then .ok (.bl (if neg then !PyData.eqv a b else PyData.eqv a b)) st else .stuck
 | _,_=>.stuck
theorem oEq_D {K:PySem.W.Frag} {neg:Bool}:OpD K (oEqG neg) (rEqX K neg):=fun ρ H st x y u v z st' Q rp a b e q=>by
 unfold oEqG at e
 split at e
 ·rename_i p1 p2 h1 h2
  split at e
  ·rename_i hs
   cases e
   exact ⟨_,_,zls rp a h1,zls rp b h2,hs.1,hs.2,q _ _ _ (.refl _ _) rp (.bl _)⟩
  ·cases e
 ·cases e
noncomputable abbrev oEq:=oEqG false
noncomputable abbrev oNe:=oEqG true
noncomputable def oIsN (neg:Bool) (x y:D) (st:Store):Res D:=match x,y with
 | .ref _,_=>.stuck
 | .non,.non=>.ok (.bl (!neg)) st
 | _,.non=>.ok (.bl neg) st
 | _,_=>.stuck
theorem zwx {K:PySem.W.Frag}:OpD K (oIsN true) (fun x y H Q=>y=.non∧Q (.bl (!decide (x=.non))) H):=fun ρ H st x y u v z st' Q rp a b e q=>by
 unfold oIsN at e
 split at e<;>try (cases e;done)
 ·cases a;cases b;cases e
  exact ⟨rfl,q _ _ _ (.refl _ _) rp (by simp;exact .bl _)⟩
 ·rename_i h1 h2
  cases b;cases e
  refine ⟨rfl,q _ _ _ (.refl _ _) rp ?_⟩
  have:u≠.non:=by
   rintro rfl
   cases a<;>first | exact h2 rfl | exact h1 _ rfl
  rw[decide_eq_false this]
  exact .bl _
noncomputable def asInts:List D→Option (List Int)
 | []=>some []
 | .int i::r=>(asInts r).map (i::·)
 | _::_=>none
theorem zec {K:PySem.W.Frag} {ρ:Loc} {H:Hp}:∀{ds:List D} {vs:List V} {ns:List Int},AtAll K ρ H ds vs→asInts ds=some ns→vs=ns.map V.int
 | _,_,_,.nil,e=>by cases e;rfl
 | _,_,_,.cons (d:=d) a b,e=>by
  cases d<;>try (cases e;done)
  rw[asInts] at e
  obtain ⟨ms,e1,rfl⟩:=Option.map_eq_some_iff.mp e
  cases a
  rw[zec b e1]
  rfl
noncomputable def oLtT (x y:D) (st:Store):Res D:=match x,y with
 | .int i,.int j=>.ok (.bl (decide (i < j))) st
 | .tup a,.tup b=>match asInts a,asInts b with
  | some ns,some ms=>.ok (.bl (HT.lexLt ns ms)) st
  | _,_=>.stuck
 | _,_=>.stuck
noncomputable abbrev rLtA (K:PySem.W.Frag):R2:=fun x y H Q=>rI0 (fun i j=>.bl (decide (i < j))) x y H Q∨rLtT K x y H Q
theorem op_ltA {X:Cx} (hu:X.A.units < cLine):OpR X (compareOp .Lt) (rLtA X.K):=op_lt.or (op_ltT hu)
theorem oLtT_D {K:PySem.W.Frag}:OpD K oLtT (rLtA K):=fun ρ H st x y u v z st' Q rp a b e q=>by
 unfold oLtT at e
 split at e
 ·cases a;cases b;cases e
  exact .inl ⟨_,_,rfl,rfl,q _ _ _ (.refl _ _) rp (.bl _)⟩
 ·split at e
  ·rename_i h1 h2
   cases e
   cases a with
   | tup g1 g2 g3 =>
    cases b with
    | tup k1 k2 k3 =>
     have e1:=zec g3 h1
     have e2:=zec k3 h2
     subst e1 e2
     exact .inr ⟨_,_,_,_,rfl,rfl,SqT.of g1,SqT.of k1,q _ _ _ (.refl _ _) rp (.bl _)⟩
  ·cases e
 ·cases e
noncomputable def seqOf (st:Store):D→Option (List D)
 | .tup xs=>some xs
 | .scr xs=>some xs
 | d=>asL st d
theorem zhv {K:PySem.W.Frag} {ρ:Loc} {st:Store} {H:Hp} (rp:Rep K ρ st H) {d:D} {u:V} {xs:List D} (a:At K ρ H d u) (e:seqOf st d=some xs) :
  ∃p vs,u=.ref p∧(SqL K H p vs∨SqT K H p vs)∧AtAll K ρ H xs vs:=by
 unfold seqOf at e
 split at e
 ·cases e
  cases a with
  | tup h1 h2 h3=>exact ⟨_,_,rfl,.inr (SqT.of h1),h3⟩
 ·cases e
  cases a with
  | scr h1 h3=>exact ⟨_,_,rfl,.inl h1.sq,h3⟩
 ·obtain ⟨p,vs,rfl,h1,h2⟩:=asL_at rp a e
  exact ⟨p,vs,rfl,.inl (SqL.of h1),h2⟩
theorem AtAll.atI {K:PySem.W.Frag} {ρ:Loc} {H:Hp} {ds:List D} {vs:List V} {i:Int} {d:D} (h:AtAll K ρ H ds vs) (e:L2.atI ds i=some d):∃v,L2.atI vs i=some v∧At K ρ H d v:=by
 unfold L2.atI at e ⊢
 rw[h.length]
 cases hi:ixN ds.length i with
 | none=>rw[hi] at e;cases e
 | some j =>
  rw[hi] at e
  obtain ⟨v,e1,e2⟩:=h.get (i:=j) e
  exact ⟨v,e1,e2⟩
noncomputable def oIx (x y:D) (st:Store):Res D:=match seqOf st x,y with
 | some xs,.int i=>match L2.atI xs i with
  | some v=>.ok v st
  | none=>.stuck
 | _,_=>.stuck
theorem oIx_D {K:PySem.W.Frag}:OpD K oIx (rIx K):=fun ρ H st x y u v z st' Q rp a b e q=>by
 unfold oIx at e
 split at e
 ·rename_i h1
  split at e
  ·rename_i w hw
   cases e
   cases b
   obtain ⟨p,vs,rfl,h2,h3⟩:=zhv rp a h1
   obtain ⟨w',e2,a2⟩:=h3.atI hw
   rcases h2 with h2 | h2
   ·exact .inl ⟨_,_,_,_,rfl,rfl,h2,e2,q _ _ _ (.refl _ _) rp a2⟩
   ·exact .inr (.inl ⟨_,_,_,_,rfl,rfl,h2,e2,q _ _ _ (.refl _ _) rp a2⟩)
  ·cases e
 ·cases e
noncomputable def cutD (xs:List D) (lo hi:Option Int):List D:=(xs.drop (HT.sIx xs.length 0 lo)).take (HT.sIx xs.length xs.length hi - HT.sIx xs.length 0 lo)
theorem AtAll.cut {K:PySem.W.Frag} {ρ:Loc} {H:Hp} {ds:List D} {vs:List V} (h:AtAll K ρ H ds vs) (lo hi:Option Int):AtAll K ρ H (cutD ds lo hi) (cutV vs lo hi):=by
 unfold cutD cutV
 rw[h.length]
 exact (h.drop _).take _
noncomputable def pNone:DS→Store→Res (Option Int):=fun _ st=>.ok none st
noncomputable def pSome (f:SE):DS→Store→Res (Option Int):=fun σ st=>(f σ st).bind fun v st1=>match v with
 | .int i=>.ok (some i) st1
 | _=>.stuck
noncomputable def eSl (f:SE) (lo hi:DS→Store→Res (Option Int)):SE:=fun σ st=>(f σ st).bind fun x st1=>(lo σ st1).bind fun l st2=>(hi σ st2).bind fun h st3=>match x with
 | .tup xs=>.ok (.tup (cutD xs l h)) st3
 | x=>match asL st3 x with
  | some xs=>.ok (.lst (cutD xs l h)) st3
  | none=>.stuck
noncomputable def tDO (K:PySem.W.Frag) (f:DS→Store→Res (Option Int)):TO:=fun τ H Q=>∃ρ σ st v st',AtS K ρ H σ τ∧Rep K ρ st H∧f σ st=.ok v st'∧∀ρ' H',Ext ρ H ρ' H'→Rep K ρ' st' H'→Q v H'
noncomputable abbrev DO (X:Cx) (e:Option Expr) (f:DS→Store→Res (Option Int)):Prop:=PO X e (tDO X.K f)
section
variable {X:Cx} {a b e:Expr} {f f':SE} {pos:Pos} {lo hi:Option Expr} {l h:DS→Store→Res (Option Int)}
theorem po_to {t t':TO} {e:Option Expr} (h:PO X e t) (k:∀σ H Q,t' σ H Q→t σ H Q):PO X e t':=fun pins s σ H Q I q=>h pins s σ H Q I (k _ _ _ q)
theorem zxv:DO X none pNone:=po_to zwa fun τ H Q hq0=>by
 obtain ⟨ρ,σ,st,v,st',a,rp,e,q⟩:=hq0
 cases e
 exact q _ _ (.refl _ _) rp
theorem zxu (he:DE X e f):DO X (some e) (pSome f):=po_to (zvz he) fun τ H Q hq0=>by
 obtain ⟨ρ,σ,st,v,st',a,rp,e,q⟩:=hq0
 obtain ⟨x,st1,e1,e⟩:=zb e
 refine ⟨ρ,σ,st,x,st1,a,rp,e1,fun ρ1 H1 u x1 rp1 a1=>?_⟩
 cases x<;>try (cases e;done)
 cases e
 cases a1
 exact ⟨_,rfl,q _ _ x1 rp1⟩
theorem d_ix (ha:DE X a f) (hb:DE X b f') (hs:PlainIx b):DE X (.Subscript a b pos) (eOp oIx f f'):=pe_to (pe_ix ix_seq ha hb hs) (opd_t oIx_D)
theorem d_sl {p2:Pos} (he:DE X e f) (hl:DO X lo l) (hu:DO X hi h):DE X (.Subscript e (.Slice lo hi none p2) pos) (eSl f l h):=pe_to (ztk (zvn.or zvo) he hl hu) fun τ H Q hq0=>by
 obtain ⟨ρ,σ,st,v,st',a,rp,e,q⟩:=hq0
 obtain ⟨x,st1,e1,e⟩:=zb e
 obtain ⟨y,st2,e2,e⟩:=zb e
 obtain ⟨z,st3,e3,e⟩:=zb e
 refine ⟨ρ,σ,st,x,st1,a,rp,e1,fun ρ1 H1 u x1 rp1 a1=>?_⟩
 refine ⟨ρ1,σ,st1,y,st2,a.ext x1,rp1,e2,fun ρ2 H2 x2 rp2=>?_⟩
 refine ⟨ρ2,σ,st2,z,st3,a.ext (x1.trans x2),rp2,e3,fun ρ3 H3 x3 rp3=>?_⟩
 have a3:=a1.ext (x2.trans x3)
 have X3:=x1.trans (x2.trans x3)
 split at e
 ·cases e
  refine .inl ?_
  cases a3 with
  | tup h1 h2 h3 =>
   refine ⟨_,_,rfl,SqT.of h1,fun ec=>?_,fun p hp=>?_⟩
   ·refine q _ _ _ X3 rp3 (.tup h1 h2 ?_)
    have:=h3.cut y z
    rw[ec] at this
    exact this
   ·exact q _ _ _ (X3.trans (Ext.new hp _)) (rp3.new hp _) (.newT rp3 hp (h3.cut y z))
 ·split at e
  ·rename_i xs hx
   cases e
   obtain ⟨p,vs,rfl,g1,g2⟩:=asL_at rp3 a3 hx
   exact .inr ⟨_,_,rfl,SqL.of g1,fun p hp=>q _ _ _ (X3.trans (Ext.new hp _)) (rp3.new hp _) (.newL rp3 hp (g2.cut y z))⟩
  ·cases e
end
end Dd
set_option maxHeartbeats 4000000
namespace Dd
open PySem L2
noncomputable def eCall (g:List D→Store→Res D) (f:SA):SE:=fun σ st=>(f σ st).bind fun xs st1=>g xs st1
noncomputable def CaD (K:PySem.W.Frag) (g:List D→Store→Res D) (r:List V→Hp→VK→Prop):Prop :=
 ∀ρ H st xs us z st' (Q:VK),Rep K ρ st H→AtAll K ρ H xs us→g xs st=.ok z st'→(∀ρ' H' w,Ext ρ H ρ' H'→Rep K ρ' st' H'→At K ρ' H' z w→Q w H')→r us H Q
theorem cad_t {K:PySem.W.Frag} {g:List D→Store→Res D} {r:List V→Hp→VK→Prop} (hr:CaD K g r) {f:SA}:∀τ H Q,tD K (eCall g f) τ H Q→tCB r (tDA K f) τ H Q:=fun τ H Q hq0=>by
 obtain ⟨ρ,σ,st,v,st',a,rp,e,q⟩:=hq0
 obtain ⟨x,st1,e1,e⟩:=zb e
 exact ⟨ρ,σ,st,x,st1,a,rp,e1,fun ρ1 H1 u x1 rp1 a1=>hr ρ1 H1 st1 x u v st' Q rp1 a1 e fun ρ' H' w x2=>q ρ' H' w (x1.trans x2)⟩
section
variable {X:Cx} {x:Str} {p pos:Pos} {e:Expr} {es:List Expr} {f:SA} {id T:String} {r:List V→Hp→VK→Prop} {g:List D→Store→Res D}
theorem zyg (hc : CallR X (.builtin id) r) (hr : CaD X.K g r) (hg : Gl X x) (hm : X.mg x = none) (hv : bootBuiltins x = some (.builtin id)) (ha : DA X (e :: es) f) (hn : x ≠ "__name__" := by decide) (hdb : (x == ("__debug__" : Str)) = false := by decide)
 (he:starEach (e::es) X.env=(false,eval e X.env)::starEach es X.env:=by rfl) (hpl:(backTo pos (starEach es X.env)).any (·.1)=false:=by rfl):DE X (.Call (.Name x p) (e::es) [] pos) (eCall g f):=pe_to (ztp hc hg hm hv ha hn hdb he hpl) (cad_t hr)
theorem zuw (hc : CallR X (.type T) r) (hr : CaD X.K g r) (hg : Gl X x) (hm : X.mg x = none) (hv : bootBuiltins x = some (.type T)) (ha : DA X (e :: es) f) (hn : x ≠ "__name__" := by decide) (hdb : (x == ("__debug__" : Str)) = false := by decide)
 (he:starEach (e::es) X.env=(false,eval e X.env)::starEach es X.env:=by rfl) (hpl:(backTo pos (starEach es X.env)).any (·.1)=false:=by rfl):DE X (.Call (.Name x p) (e::es) [] pos) (eCall g f):=pe_to (zqd hc hg hm hv ha hn hdb he hpl) (cad_t hr)
end
theorem AtAll.one {K:PySem.W.Frag} {ρ:Loc} {H:Hp} {d:D} {us:List V} (h:AtAll K ρ H [d] us):∃u,us=[u]∧At K ρ H d u:=by
 cases h with
 | cons a b=>cases b;exact ⟨_,rfl,a⟩
theorem AtAll.two {K:PySem.W.Frag} {ρ:Loc} {H:Hp} {d e:D} {us:List V} (h:AtAll K ρ H [d,e] us):∃u v,us=[u,v]∧At K ρ H d u∧At K ρ H e v:=by
 cases h with
 | cons a b =>
  obtain ⟨v,rfl,c⟩:=b.one
  exact ⟨_,_,rfl,a,c⟩
noncomputable def bLen:List D→Store→Res D:=fun xs st=>match xs with
 | [x]=>match seqOf st x with
  | some ys=>.ok (.int ys.length) st
  | none=>.stuck
 | _=>.stuck
theorem bLen_D {K:PySem.W.Frag}:CaD K bLen (fun xs H Q=>∃p ys,xs=[.ref p]∧(SqL K H p ys∨SqT K H p ys)∧Q (.int ys.length) H):=fun ρ H st xs us z st' Q rp aa e q=>by
 unfold bLen at e
 split at e
 ·split at e
  ·rename_i h
   cases e
   obtain ⟨u,rfl,a⟩:=aa.one
   obtain ⟨p,vs,rfl,h1,h2⟩:=zhv rp a h
   refine ⟨p,vs,rfl,h1,?_⟩
   rw[h2.length]
   exact q _ _ _ (.refl _ _) rp (.int _)
  ·cases e
 ·cases e
noncomputable def bAbs:List D→Store→Res D:=fun xs st=>match xs with
 | [.int i]=>.ok (.int (if i < 0 then -i else i)) st
 | _=>.stuck
theorem bAbs_D {K:PySem.W.Frag}:CaD K bAbs (fun xs H Q=>∃i,xs=[.int i]∧Q (.int (if i < 0 then -i else i)) H):=fun ρ H st xs us z st' Q rp aa e q=>by
 unfold bAbs at e
 split at e
 ·cases e
  obtain ⟨u,rfl,a⟩:=aa.one
  cases a
  exact ⟨_,rfl,q _ _ _ (.refl _ _) rp (.int _)⟩
 ·cases e
noncomputable def b2I (g:Int→Int→Int):List D→Store→Res D:=fun xs st=>match xs with
 | [.int i,.int j]=>.ok (.int (g i j)) st
 | _=>.stuck
theorem b2I_D {K:PySem.W.Frag} {g:Int→Int→Int}:CaD K (b2I g) (fun xs H Q=>∃i j,xs=[.int i,.int j]∧Q (.int (g i j)) H):=fun ρ H st xs us z st' Q rp aa e q=>by
 unfold b2I at e
 split at e
 ·cases e
  obtain ⟨u,v,rfl,a,b⟩:=aa.two
  cases a
  cases b
  exact ⟨_,_,rfl,q _ _ _ (.refl _ _) rp (.int _)⟩
 ·cases e
noncomputable abbrev bMin2:=b2I fun i j=>if j < i then j else i
noncomputable def bSum:List D→Store→Res D:=fun xs st=>match xs with
 | [x]=>match (seqOf st x).bind asInts with
  | some ns=>.ok (.int ns.sum) st
  | none=>.stuck
 | _=>.stuck
theorem bSum_D {K:PySem.W.Frag}:CaD K bSum (rSum K):=fun ρ H st xs us z st' Q rp aa e q=>by
 unfold bSum at e
 split at e
 ·split at e
  ·rename_i ns h
   cases e
   obtain ⟨ys,h0,h⟩:=Option.bind_eq_some_iff.mp h
   obtain ⟨u,rfl,a⟩:=aa.one
   obtain ⟨p,vs,rfl,h1,h2⟩:=zhv rp a h0
   have e:=zec h2 h
   subst e
   exact ⟨p,ns,rfl,h1,q _ _ _ (.refl _ _) rp (.int _)⟩
  ·cases e
 ·cases e
noncomputable def asBools:List D→Option (List Bool)
 | []=>some []
 | .bl i::r=>(asBools r).map (i::·)
 | _::_=>none
theorem zjh {K:PySem.W.Frag} {ρ:Loc} {H:Hp}:∀{ds:List D} {vs:List V} {ns:List Bool},AtAll K ρ H ds vs→asBools ds=some ns→vs=ns.map V.bl
 | _,_,_,.nil,e=>by cases e;rfl
 | _,_,_,.cons (d:=d) a b,e=>by
  cases d<;>try (cases e;done)
  rw[asBools] at e
  obtain ⟨ms,e1,rfl⟩:=Option.map_eq_some_iff.mp e
  cases a
  rw[zjh b e1]
  rfl
noncomputable def bAny (al:Bool):List D→Store→Res D:=fun xs st=>match xs with
 | [x]=>match (asL st x).bind asBools with
  | some bs=>.ok (.bl (if al then bs.all id else bs.any id)) st
  | none=>.stuck
 | _=>.stuck
theorem bAny_D {K:PySem.W.Frag} {al:Bool}:CaD K (bAny al) (rAny K al):=fun ρ H st xs us z st' Q rp aa e q=>by
 unfold bAny at e
 split at e
 ·split at e
  ·rename_i ns h
   cases e
   obtain ⟨ys,h0,h⟩:=Option.bind_eq_some_iff.mp h
   obtain ⟨u,rfl,a⟩:=aa.one
   obtain ⟨p,vs,rfl,h1,h2⟩:=asL_at rp a h0
   have e:=zjh h2 h
   subst e
   exact ⟨p,ns,rfl,SqL.of h1,q _ _ _ (.refl _ _) rp (.bl _)⟩
  ·cases e
 ·cases e
noncomputable def tyName (st:Store):D→Option String
 | .non => some "NoneType"
 | .bl _ => some "bool"
 | .int _ => some "int"
 | .str _ => some "str"
 | .tup _ => some "tuple"
 | .lst _ => some "list"
 | .ref n=>match st[n]? with
  | some (.lst _) => some "list"
  | some (.dT _) => some "dict"
  | _=>none
 | _=>none
noncomputable def isTy (t T : String) : Bool := t == T || (t == "bool" && T == "int")
noncomputable def bIsinst:List D→Store→Res D:=fun xs st=>match xs with
 | [x,.ty T]=>match tyName st x with
  | some t => if ["int", "bool", "str", "tuple", "list", "dict"].contains T = true then .ok (.bl (isTy t T)) st else .stuck
  | none=>.stuck
 | _=>.stuck
theorem zpl {K : PySem.W.Frag} {ρ : Loc} {st : Store} {H : Hp} (rp : Rep K ρ st H) {d : D} {u : V} {t : String} (a : At K ρ H d u) (e : tyName st d = some t) : TyOf K H u (.type t) ∧ t ∈ ["NoneType", "bool", "int", "str", "tuple", "list", "dict"] := by
 cases d<;>try (cases e;done)
 ·cases e;cases a;exact ⟨.non,by simp⟩
 ·cases e;cases a;exact ⟨.bl _,by simp⟩
 ·cases e;cases a;exact ⟨.int _,by simp⟩
 ·cases e;cases a;exact ⟨.str _,by simp⟩
 ·unfold tyName at e
  dsimp only at e
  split at e
  ·rename_i h
   cases e
   obtain ⟨p,rfl,hp,vs,q1,q2⟩:=ref_at rp a h (by intro z;cases z)
   exact ⟨.lst q1,by simp⟩
  ·rename_i h
   cases e
   obtain ⟨p,rfl,hp,vs,q1,q2⟩:=ref_at rp a h (by intro z;cases z)
   exact ⟨.dT q1,by simp⟩
  ·cases e
 ·cases e
  cases a with
  | tup h1 h2 h3=>exact ⟨.tup h1,by simp⟩
 ·cases e
  cases a with
  | lst h1 h2 h3=>exact ⟨.lst h1,by simp⟩
theorem kit_ty {K : PySem.W.Frag} {t T : String} (ht : t ∈ ["NoneType", "bool", "int", "str", "tuple", "list", "dict"]) (hT : T ∈ ["int", "bool", "str", "tuple", "list", "dict"]) : PySem.W.kitOne K (.type t) (.type T) = some (isTy t T) := by
 simp only[List.mem_cons,List.not_mem_nil,or_false] at ht hT
 rcases ht with rfl | rfl | rfl | rfl | rfl | rfl | rfl<;>rcases hT with rfl | rfl | rfl | rfl | rfl | rfl<;>rfl
theorem zgd {K:PySem.W.Frag}:CaD K bIsinst (fun xs H Q=>∃x T t b,xs=[x,.ty T]∧TyOf K H x t∧PySem.W.kitOne K t (.type T)=some b∧Q (.bl b) H):=fun ρ H st xs us z st' Q rp aa e q=>by
 unfold bIsinst at e
 split at e
 ·split at e
  ·rename_i h
   split at e
   ·rename_i hT
    cases e
    obtain ⟨u,v,rfl,a,b⟩:=aa.two
    cases b
    obtain ⟨h1,h2⟩:=zpl rp a h
    exact ⟨_,_,_,_,rfl,h1,kit_ty h2 (by simpa using hT),q _ _ _ (.refl _ _) rp (.bl _)⟩
   ·cases e
  ·cases e
 ·cases e
noncomputable def bTuple:List D→Store→Res D:=fun xs st=>match xs with
 | [.tup ys]=>.ok (.tup ys) st
 | [x]=>match asL st x with
  | some ys=>.ok (.tup ys) st
  | none=>.stuck
 | _=>.stuck
theorem zdf {K:PySem.W.Frag}:CaD K bTuple (fun xs H Q=>∃p ys,xs=[.ref p]∧((SqL K H p ys∧∀l,H l=none→Q (.ref l) (upd H l (.tup ys)))∨(SqT K H p ys∧Q (.ref p) H))):=fun ρ H st xs us z st' Q rp aa e q=>by
 unfold bTuple at e
 split at e
 ·cases e
  obtain ⟨u,rfl,a⟩:=aa.one
  cases a with
  | tup h1 h2 h3=>exact ⟨_,_,rfl,.inr ⟨SqT.of h1,q _ _ _ (.refl _ _) rp (.tup h1 h2 h3)⟩⟩
 ·split at e
  ·rename_i h
   cases e
   obtain ⟨u,rfl,a⟩:=aa.one
   obtain ⟨p,vs,rfl,h1,h2⟩:=asL_at rp a h
   exact ⟨_,_,rfl,.inl ⟨SqL.of h1,fun l hl=>q _ _ _ (Ext.new hl _) (rp.new hl _) (.newT rp hl h2)⟩⟩
  ·cases e
 ·cases e
noncomputable def bList:List D→Store→Res D:=fun xs st=>match xs with
 | [x]=>match seqOf st x with
  | some ys=>.ok (.lst ys) st
  | none=>.stuck
 | _=>.stuck
noncomputable def bListM:List D→Store→Res D:=fun xs st=>match xs with
 | [x]=>match seqOf st x with
  | some ys=>.ok (.ref st.length) (st++[.lst ys])
  | none=>.stuck
 | _=>.stuck
theorem zve {K:PySem.W.Frag}:CaD K bListM (fun xs H Q=>∃p ys,xs=[.ref p]∧(SqL K H p ys∨SqT K H p ys)∧∀l,H l=none→Q (.ref l) (upd H l (.lst ys))):=fun ρ H st xs us z st' Q rp aa e q=>by
 unfold bListM at e
 split at e
 ·split at e
  ·rename_i ys h
   cases e
   obtain ⟨u,rfl,a⟩:=aa.one
   obtain ⟨p,vs,rfl,h1,h2⟩:=zhv rp a h
   refine ⟨_,_,rfl,h1,fun l hl=>?_⟩
   obtain ⟨E,R⟩:=rp.alloc hl (x:=.lst ys) (o:=.lst vs) fun E=>⟨vs,zr,h2.ext E⟩
   exact q _ _ _ E R (.last rp.len.symm)
  ·cases e
 ·cases e
end Dd
set_option maxHeartbeats 4000000
namespace Dd
open PySem L2
noncomputable abbrev rowD (ns:List Int):D:=.tup (ns.map .int)
noncomputable abbrev rowsD (l:List (List Int)):List D:=l.map rowD
noncomputable def insR (a:List Int):List (List Int)→List (List Int)
 | []=>[a]
 | b::r=>if HT.lexLt b a=true then b::insR a r else a::b::r
noncomputable def sortR:List (List Int)→List (List Int)
 | []=>[]
 | a::r=>insR a (sortR r)
noncomputable abbrev UpR (l:List (List Int)):Prop:=l.Pairwise fun a b=>HT.lexLt b a=false
theorem zid (a:List Int):∀l,(insR a l).Perm (a::l)
 | []=>.refl _
 | b::r=>by
  unfold insR
  split
  ·exact (List.Perm.cons b (zid a r)).trans (.swap a b r)
  ·exact .refl _
theorem zdk:∀l,(sortR l).Perm l
 | []=>.refl _
 | a::r=>(zid a _).trans (.cons a (zdk r))
theorem zkh {a b c:List Int} (h1:HT.lexLt b a=false) (h2:HT.lexLt c b=false):HT.lexLt c a=false:=by
 cases h:HT.lexLt c a with
 | false=>rfl
 | true =>
  rcases Srt.zli a b with z | z | z
  ·have:=Srt.zfz h z
   rw[h2] at this;cases this
  ·subst z;rw[h2] at h;cases h
  ·rw[h1] at z;cases z
theorem zsc (a:List Int):∀l,UpR l→UpR (insR a l)
 | [],_=>List.pairwise_singleton _ _
 | b::r,h=>by
  obtain ⟨h1,h2⟩:=List.pairwise_cons.mp h
  unfold insR
  split
  ·rename_i c
   refine List.pairwise_cons.mpr ⟨fun x hx=>?_,zsc a r h2⟩
   rcases List.mem_cons.mp ((zid a r).mem_iff.mp hx) with rfl | hx
   ·exact Srt.zqm c
   ·exact h1 x hx
  ·rename_i c
   have c':HT.lexLt b a=false:=by simpa using c
   refine List.pairwise_cons.mpr ⟨fun x hx=>?_,h⟩
   rcases List.mem_cons.mp hx with rfl | hx
   ·exact c'
   ·exact zkh c' (h1 x hx)
theorem zjs:∀l,UpR (sortR l)
 | []=>.nil
 | a::r=>zsc a _ (zjs r)
theorem zkv:∀{l m:List (List Int)},l.Perm m→UpR l→UpR m→l=m
 | [],m,p,_,_=>by rw[List.nil_perm.mp p]
 | a::l,[],p,_,_=>by cases List.perm_nil.mp p
 | a::l,b::m,p,h1,h2=>by
  obtain ⟨p1,p2⟩:=List.pairwise_cons.mp h1
  obtain ⟨q1,q2⟩:=List.pairwise_cons.mp h2
  have e:a=b:=by
   rcases List.mem_cons.mp (p.mem_iff.mp List.mem_cons_self) with z | z
   ·exact z
   ·rcases List.mem_cons.mp (p.mem_iff.mpr (List.mem_cons_self (a:=b) (l:=m))) with y | y
    ·exact y.symm
    ·have e1:=q1 a z
     have e2:=p1 b y
     rcases Srt.zli a b with w | w | w
     ·rw[e1] at w;cases w
     ·exact w
     ·rw[e2] at w;cases w
  subst e
  rw[zkv (List.Perm.cons_inv p) p2 q2]
theorem zjt {l m:List (List Int)} (p:m.Perm l) (h:UpR m):m=sortR l:=zkv (p.trans (zdk l).symm) h (zjs l)
theorem zju (l:List (List Int)):(sortR l).length=l.length:=(zdk l).length_eq
noncomputable def asRows:List D→Option (List (List Int))
 | []=>some []
 | .tup ds::r=>(asInts ds).bind fun ns=>(asRows r).map (ns::·)
 | _::_=>none
theorem zmc {K:PySem.W.Frag} {ρ:Loc} {H:Hp}:∀{ds:List D} {vs:List V} {l:List (List Int)},AtAll K ρ H ds vs→asRows ds=some l →
  ∃ps:List (Addr × List Int),vs=ps.map (fun p=>V.ref p.1)∧ps.map (·.2)=l∧∀p∈ps,H p.1=some (.tup (p.2.map V.int))∧Out ρ p.1
 | _,_,_,.nil,e=>by cases e;exact ⟨[],rfl,rfl,fun _ h=>nomatch h⟩
 | _,_,_,.cons (d:=d) a b,e=>by
  cases d<;>try (cases e;done)
  rw[asRows] at e
  obtain ⟨ns,e1,e⟩:=Option.bind_eq_some_iff.mp e
  obtain ⟨l,e2,rfl⟩:=Option.map_eq_some_iff.mp e
  obtain ⟨ps,h1,h2,h3⟩:=zmc b e2
  cases a with
  | tup g1 g2 g3 =>
   rename_i ad ws
   have ew:=zec g3 e1
   subst ew
   refine ⟨(ad,ns)::ps,by rw[h1];rfl,by rw[← h2];rfl,fun p hp=>?_⟩
   rcases List.mem_cons.mp hp with rfl | hp
   ·exact ⟨g1,g2⟩
   ·exact h3 p hp
theorem zic {K:PySem.W.Frag} {ρ:Loc} {H:Hp}:∀ns:List Int,AtAll K ρ H (ns.map .int) (ns.map V.int)
 | []=>.nil
 | n::ns=>.cons (.int n) (zic ns)
theorem zjw {K:PySem.W.Frag} {ρ:Loc} {H:Hp}:∀ps:List (Addr × List Int),(∀p∈ps,H p.1=some (.tup (p.2.map V.int))∧Out ρ p.1)→AtAll K ρ H (rowsD (ps.map (·.2))) (ps.map fun p=>V.ref p.1)
 | [],_=>.nil
 | p::ps,h=>.cons (.tup (h p List.mem_cons_self).1 (h p List.mem_cons_self).2 (zic _)) (zjw ps fun q hq=>h q (List.mem_cons_of_mem _ hq))
theorem zlf {K:PySem.W.Frag} {ρ:Loc} {st:Store} {H:Hp} (r:Rep K ρ st H) {p:Addr} {vs:List V} (hp:H p=some (.tup vs)):Out ρ p:=by
 refine ⟨fun z=>?_,fun z=>?_⟩
 ·obtain ⟨i,hi,e⟩:=List.getElem_of_mem z
  obtain ⟨x,_,q⟩:=r.has (n:=i) (a:=p) (by rw[List.getElem?_eq_getElem hi,e])
  cases x with
  | lst xs=>obtain ⟨_,e,_⟩:=q;rw[hp] at e;cases e
  | dT kvs=>obtain ⟨_,e,_⟩:=q;rw[hp] at e;cases e
  | fT kvs=>obtain ⟨_,_,e,_⟩:=q;rw[hp] at e;cases e
  | dead=>exact q
 ·obtain ⟨⟨u,hu⟩,_⟩:=r.gh p z
  rw[hp] at hu;cases hu
noncomputable def valD (kvs:List (List Int × D)) (k:List Int):Option D:=(kvs.find? fun kv=>decide (kv.1=k)).map (·.2)
noncomputable def putD (kvs:List (List Int × D)) (k:List Int) (v:D):List (List Int × D) :=
 if (kvs.any fun kv=>decide (kv.1=k))=true then kvs.map (fun kv=>if kv.1=k then (kv.1,v) else kv) else kvs++[(k,v)]
noncomputable def dropD (kvs:List (List Int × D)) (k:List Int):List (List Int × D):=kvs.filter fun kv=>decide (kv.1≠k)
theorem zln {a b:List Int}:a.map (Sum.inl:Int→Key)=b.map Sum.inl↔a=b:=by
 constructor
 ·intro h
  exact (List.map_inj_right (f:=(Sum.inl:Int→Key)) fun x y e=>Sum.inl.inj e).mp h
 ·rintro rfl;rfl
section
variable {K:PySem.W.Frag} {ρ:Loc} {H:Hp} {kvs:List (List Int × D)} {vs:List (List Key × V)}
theorem KvAt.val (h:KvAt K ρ H kvs vs) (k:List Int):match valD kvs k with
  | some d=>∃v,valV vs (k.map Sum.inl)=some v∧At K ρ H d v
  | none=>valV vs (k.map Sum.inl)=none:=by
 induction h with
 | nil=>rfl
 | @cons p q ps qs h t ih =>
  obtain ⟨h1,h2⟩:=h
  by_cases e:p.1=k
  ·have e1:valD (p::ps) k=some p.2:=by simp[valD,List.find?_cons,e]
   rw[e1]
   exact ⟨q.2,zhs (by rw[h1,e]),h2⟩
  ·have e1:valD (p::ps) k=valD ps k:=by simp[valD,List.find?_cons,e]
   have e2:valV (q::qs) (k.map Sum.inl)=valV qs (k.map Sum.inl):=zht (by rw[h1,zln];exact e)
   rw[e1,e2]
   exact ih
theorem KvAt.keys (h:KvAt K ρ H kvs vs):vs.map (·.1)=(kvs.map (·.1)).map fun ns=>ns.map Sum.inl:=by
 induction h with
 | nil=>rfl
 | @cons p q ps qs h t ih=>rw[List.map_cons,List.map_cons,List.map_cons,ih,h.1]
theorem KvAt.put (h:KvAt K ρ H kvs vs) (k:List Int) {d:D} {v:V} (a:At K ρ H d v):KvAt K ρ H (putD kvs k d) (putK vs (k.map Sum.inl) v):=by
 have any:∀{kvs:List (List Int × D)} {vs:List (List Key × V)},KvAt K ρ H kvs vs→(kvs.any fun kv=>decide (kv.1=k))=(vs.any fun kv=>decide (kv.1=k.map Sum.inl)):=fun h=>by
  induction h with
  | nil=>rfl
  | @cons p q ps qs h t ih =>
   rw[List.any_cons,List.any_cons,ih,h.1]
   congr 1
   simp only[zln]
 unfold putD putK
 rw[any h]
 split
 ·rename_i hh
  clear hh any
  induction h with
  | nil=>exact .nil
  | @cons p q ps qs h t ih =>
   refine .cons ?_ ih
   obtain ⟨h1,h2⟩:=h
   dsimp only
   by_cases e:p.1=k
   ·rw[if_pos e,if_pos (by rw[h1,e])]
    exact ⟨h1,a⟩
   ·rw[if_neg e,if_neg (by rw[h1,zln];exact e)]
    exact ⟨h1,h2⟩
 ·have app:∀{kvs:List (List Int × D)} {vs:List (List Key × V)},KvAt K ρ H kvs vs→KvAt K ρ H (kvs++[(k,d)]) (vs++[(k.map Sum.inl,v)]):=fun h=>by
   induction h with
   | nil=>exact .cons ⟨rfl,a⟩ .nil
   | cons h t ih=>exact .cons h ih
  exact app h
theorem KvAt.drop (h:KvAt K ρ H kvs vs) (k:List Int):KvAt K ρ H (dropD kvs k) (dropK vs (k.map Sum.inl)):=by
 unfold dropD dropK
 induction h with
 | nil=>exact .nil
 | @cons p q ps qs h t ih =>
  by_cases e:p.1=k
  ·rw[List.filter_cons_of_neg (by simp[e]),List.filter_cons_of_neg (by simp[h.1,e])]
   exact ih
  ·rw[List.filter_cons_of_pos (by simp[e]),List.filter_cons_of_pos (by simp[h.1,zln,e])]
   exact .cons h ih
theorem KvAt.length (h:KvAt K ρ H kvs vs):kvs.length=vs.length:=Paired.length h
end
noncomputable def pairsOf (st:Store):D→Option (List (List Int × D))
 | .ref n=>match st[n]? with
  | some (.dT kvs)=>some kvs
  | some (.fT kvs)=>some kvs
  | _=>none
 | _=>none
theorem zjz {K:PySem.W.Frag} {ρ:Loc} {st:Store} {H:Hp} (rp:Rep K ρ st H) {d:D} {u:V} {kvs:List (List Int × D)} (a:At K ρ H d u) (e:pairsOf st d=some kvs):∃p vs,u=.ref p∧Rd H p (.dT vs)∧KvAt K ρ H kvs vs:=by
 unfold pairsOf at e
 split at e
 ·split at e
  ·rename_i h
   cases e
   obtain ⟨p,rfl,hp,vs,q1,q2⟩:=ref_at rp a h (by intro z;cases z)
   exact ⟨p,vs,rfl,.inl q1,q2⟩
  ·rename_i h
   cases e
   obtain ⟨p,rfl,hp,vs,ob,q1,q2⟩:=ref_at rp a h (by intro z;cases z)
   exact ⟨p,vs,rfl,.inr ⟨ob,q1⟩,q2⟩
  ·cases e
 ·cases e
noncomputable def keyOf:D→Option (List Int)
 | .tup ds=>asInts ds
 | _=>none
theorem key_at {K:PySem.W.Frag} {ρ:Loc} {H:Hp} {d:D} {u:V} {k:List Int} (a:At K ρ H d u) (e:keyOf d=some k):∃p,u=.ref p∧H p=some (.tup ((k.map (Sum.inl:Int→Key)).map kV)):=by
 unfold keyOf at e
 split at e
 ·cases a with
  | tup h1 h2 h3 =>
   have:=zec h3 e
   subst this
   exact ⟨_,rfl,by rw[zsa];exact h1⟩
 ·cases e
theorem zol {K:PySem.W.Frag} {ρ:Loc} {st:Store} {H:Hp} (rp:Rep K ρ st H) {d y:D} {u w:V} {kvs:List (List Int × D)} {k:List Int} (a:At K ρ H d u) (b:At K ρ H y w) (e:pairsOf st d=some kvs) (e2:keyOf y=some k) :
  ∃p o,u=.ref p∧DGet H p w o∧match valD kvs k with
   | some z=>∃v,o=some v∧At K ρ H z v
   | none=>o=none:=by
 obtain ⟨p,vs,rfl,h1,h2⟩:=zjz rp a e
 obtain ⟨q,rfl,h3⟩:=key_at b e2
 refine ⟨p,valV vs (k.map Sum.inl),rfl,.inr ⟨vs,_,q,h1,rfl,h3,rfl⟩,?_⟩
 have:=h2.val k
 cases hv:valD kvs k with
 | none=>rw[hv] at this;exact this
 | some z=>rw[hv] at this;exact this
noncomputable def oDIn (neg:Bool) (y x:D) (st:Store):Res D:=match keyOf y,pairsOf st x with
 | some k,some kvs=>.ok (.bl (if neg then !(valD kvs k).isSome else (valD kvs k).isSome)) st
 | _,_=>.stuck
noncomputable def oDGet (x y:D) (st:Store):Res D:=match pairsOf st x,keyOf y with
 | some kvs,some k=>match valD kvs k with
  | some v=>.ok v st
  | none=>.stuck
 | _,_=>.stuck
noncomputable def eDGet2 (f g h:SE):SE:=fun σ st=>(f σ st).bind fun x st1=>match pairsOf st1 x with
 | some _=>(g σ st1).bind fun y st2=>(h σ st2).bind fun z st3=>match pairsOf st3 x,keyOf y with
  | some kvs,some k=>.ok ((valD kvs k).getD z) st3
  | _,_=>.stuck
 | none=>.stuck
noncomputable def eDPop (f g:SE):SE:=fun σ st=>(f σ st).bind fun x st1=>match pairsOf st1 x with
 | some _=>(g σ st1).bind fun y st2=>match x,keyOf y with
  | .ref n,some k=>match st2[n]? with
   | some (.dT kvs)=>match valD kvs k with
    | some v=>.ok v (st2.set n (.dT (dropD kvs k)))
    | none=>.stuck
   | _=>.stuck
  | _,_=>.stuck
 | none=>.stuck
noncomputable def sDPut (f g h:SE):SS:=fun σ st=>(h σ st).bind fun v st1=>(f σ st1).bind fun x st2=>(g σ st2).bind fun y st3=>match x,keyOf y with
 | .ref n,some k=>match st3[n]? with
  | some (.dT kvs)=>if kvs.length < sizeLine then .ok (.nx σ) (st3.set n (.dT (putD kvs k v))) else .stuck
  | _=>.stuck
 | _,_=>.stuck
noncomputable def eDNew:SE:=fun _ st=>.ok (.ref st.length) (st++[.dT []])
section
variable {X:Cx} {a b c o i e value f':Expr} {f g h:SE} {pos pos' apos cpos:Pos}
theorem isD_of {K:PySem.W.Frag} {ρ:Loc} {st:Store} {H:Hp} (rp:Rep K ρ st H) {d:D} {u:V} {kvs:List (List Int × D)} (a:At K ρ H d u) (e:pairsOf st d=some kvs):∃p,u=.ref p∧IsD H p:=by
 obtain ⟨p,vs,rfl,h1,_⟩:=zjz rp a e
 exact ⟨p,rfl,.inr ⟨vs,h1⟩⟩
theorem d_dnew:DE X (.Dict [] [] pos) eDNew:=pe_to ztm fun τ H Q ⟨ρ,σ,st,v,st',a,rp,e,q⟩ p hp=>by
 cases e
 obtain ⟨E,R⟩:=rp.alloc hp (x:=.dT []) (o:=.dT []) fun E=>⟨[],zr,.nil⟩
 exact q _ _ _ E R (.last rp.len.symm)
theorem pc_in (hu:X.A.units+1 < cLine) (hi:DE X i g) (ho:DE X o f):PC X .In i o (tD X.K (eOp (oDIn false) g f)):=fun pins s σ H Q I hq=>by
 refine pc_din hu hi ho pins s σ H Q I ?_
 obtain ⟨ρ,σ',st,v,st',a,rp,e,q⟩:=hq
 obtain ⟨x,st1,e1,e⟩:=zb e
 obtain ⟨y,st2,e2,e⟩:=zb e
 refine ⟨ρ,σ',st,x,st1,a,rp,e1,fun ρ1 H1 u x1 rp1 a1=>?_⟩
 refine ⟨ρ1,σ',st1,y,st2,a.ext x1,rp1,e2,fun ρ2 H2 w x2 rp2 a2=>?_⟩
 unfold oDIn at e
 split at e
 ·rename_i kk vv h1 h2
  cases e
  obtain ⟨p,oo,rfl,g1,g2⟩:=zol rp2 a2 (a1.ext x2) h2 h1
  refine ⟨p,oo,rfl,g1,?_⟩
  have:oo.isSome=(valD vv kk).isSome:=by
   revert g2
   split
   ·rename_i hv
    rintro ⟨v,rfl,_⟩
    rw[hv];rfl
   ·rename_i hv
    rintro rfl
    rw[hv];rfl
  rw[this]
  exact q _ _ _ (x1.trans x2) rp2 (.bl _)
 ·cases e
theorem dt_in {op:CmpOp} {t:SE} (h:PC X op a b (tD X.K t)) (h1:behindInMarks op b=false:=by first | exact nobehind _ (by decide) (by decide) | rfl):DT X (.Compare a [op] [b] pos) (eB t):=pt_to (pt_cmp h h1) fun τ H Q hh=>eB_t _ _ _ hh
theorem d_dget (hu:X.A.units+1 < cLine) (ho:DE X o f) (hi:DE X i g) (hs:NoSl i):DE X (.Subscript o i pos) (eOp oDGet f g):=pe_to (zwi hu ho hi hs) fun τ H Q hq0=>by
 obtain ⟨ρ,σ,st,v,st',a,rp,e,q⟩:=hq0
 obtain ⟨x,st1,e1,e⟩:=zb e
 obtain ⟨y,st2,e2,e⟩:=zb e
 refine ⟨ρ,σ,st,x,st1,a,rp,e1,fun ρ1 H1 u x1 rp1 a1=>?_⟩
 refine ⟨ρ1,σ,st1,y,st2,a.ext x1,rp1,e2,fun ρ2 H2 w x2 rp2 a2=>?_⟩
 unfold oDGet at e
 split at e
 ·rename_i h1 h2
  split at e
  ·rename_i z hv
   cases e
   obtain ⟨p,oo,rfl,g1,g2⟩:=zol rp2 (a1.ext x2) a2 h1 h2
   rw[hv] at g2
   obtain ⟨vv,rfl,g3⟩:=g2
   exact ⟨p,vv,rfl,g1,q _ _ _ (x1.trans x2) rp2 g3⟩
  ·cases e
 ·cases e
theorem zyf (hu : X.A.units + 1 < cLine) (ho : DE X o f) (he : DE X e g) (hf : DE X f' h) (m : M2 X o "get" apos e f' cpos) : DE X (.Call (.Attribute o "get" apos) [e, f'] [] cpos) (eDGet2 f g h) := pe_to (ztn hu ho he hf m) fun τ H Q hq0 => by
 obtain ⟨ρ,σ,st,v,st',a,rp,e,q⟩:=hq0
 obtain ⟨x,st1,e1,e⟩:=zb e
 refine ⟨ρ,σ,st,x,st1,a,rp,e1,fun ρ1 H1 u x1 rp1 a1=>?_⟩
 split at e
 ·rename_i h0
  obtain ⟨p,rfl,hd⟩:=isD_of rp1 a1 h0
  obtain ⟨y,st2,e2,e⟩:=zb e
  obtain ⟨z,st3,e3,e⟩:=zb e
  refine ⟨p,rfl,hd,?_⟩
  refine ⟨ρ1,σ,st1,y,st2,a.ext x1,rp1,e2,fun ρ2 H2 w x2 rp2 a2=>?_⟩
  refine ⟨ρ2,σ,st2,z,st3,a.ext (x1.trans x2),rp2,e3,fun ρ3 H3 t x3 rp3 a3=>?_⟩
  split at e
  ·rename_i h1 h2
   cases e
   obtain ⟨p',oo,ep,g1,g2⟩:=zol rp3 (a1.ext (x2.trans x3)) (a2.ext x3) h1 h2
   cases ep
   refine ⟨oo,g1,q _ _ _ (x1.trans (x2.trans x3)) rp3 ?_⟩
   revert g2
   split
   ·rename_i hv
    rintro ⟨vv,rfl,g3⟩
    rw[hv]
    exact g3
   ·rename_i hv
    rintro rfl
    rw[hv]
    exact a3
  ·cases e
 ·cases e
theorem d_dpop (hu : X.A.units + 1 < cLine) (ho : DE X o f) (he : DE X e g) (m : M1 X o "pop" apos e cpos) : DE X (.Call (.Attribute o "pop" apos) [e] [] cpos) (eDPop f g) := pe_to (ztl hu ho he m) fun τ H Q hq0 => by
 obtain ⟨ρ,σ,st,v,st',a,rp,e,q⟩:=hq0
 obtain ⟨x,st1,e1,e⟩:=zb e
 refine ⟨ρ,σ,st,x,st1,a,rp,e1,fun ρ1 H1 u x1 rp1 a1=>?_⟩
 split at e
 ·rename_i h0
  obtain ⟨p,rfl,hd⟩:=isD_of rp1 a1 h0
  obtain ⟨y,st2,e2,e⟩:=zb e
  refine ⟨p,rfl,hd,?_⟩
  refine ⟨ρ1,σ,st1,y,st2,a.ext x1,rp1,e2,fun ρ2 H2 w x2 rp2 a2=>?_⟩
  split at e
  ·rename_i n k hk _
   split at e
   ·rename_i kvs hn
    split at e
    ·rename_i z hv
     cases e
     obtain ⟨p',ep,hp,vs,g1,g2⟩:=ref_at rp2 (a1.ext x2) hn (by intro z;cases z)
     cases ep
     obtain ⟨b,rfl,g3⟩:=key_at a2 hk
     have g4:=g2.val k
     rw[hv] at g4
     obtain ⟨vv,g5,g6⟩:=g4
     have E:Ext ρ2 H2 ρ2 (upd H2 p (.dT (dropK vs (k.map Sum.inl)))):=Ext.wr hp (zhk g1) _
     exact ⟨vs,_,vv,b,g1,rfl,g3,g5,q _ _ _ ((x1.trans x2).trans E) (rp2.wr hp (zhk g1) ⟨_,zr,(g2.drop k).ext E⟩) (g6.ext E)⟩
    ·cases e
   ·cases e
  ·cases e
 ·cases e
theorem zxq (hu:X.A.units+1 < cLine) (ho:DE X o f) (hi:DE X i g) (hv:DE X value h) (hs:swapsWith value (some (.Subscript o i pos')) pos.line X.env=pure false) :
  DSt X (.Assign [.Subscript o i pos'] value pos) (sDPut f g h):=ps_to (zvx hu ho hi hv hs) fun E τ H ⟨ρ,σ,st,fl,st',a,rp,e,q⟩=>by
 obtain ⟨v,st1,e1,e⟩:=zb e
 obtain ⟨x,st2,e2,e⟩:=zb e
 obtain ⟨y,st3,e3,e⟩:=zb e
 refine ⟨ρ,σ,st,v,st1,a,rp,e1,fun ρ1 H1 u x1 rp1 a1=>?_⟩
 refine ⟨ρ1,σ,st1,x,st2,a.ext x1,rp1,e2,fun ρ2 H2 w x2 rp2 a2=>?_⟩
 refine ⟨ρ2,σ,st2,y,st3,a.ext (x1.trans x2),rp2,e3,fun ρ3 H3 t x3 rp3 a3=>?_⟩
 split at e
 ·rename_i n k hk _
  split at e
  ·rename_i kvs hn
   split at e
   ·rename_i hl
    cases e
    obtain ⟨p,rfl,hp,vs,g1,g2⟩:=ref_at rp3 (a2.ext x3) hn (by intro z;cases z)
    obtain ⟨b,rfl,g3⟩:=key_at a3 hk
    have E:Ext ρ3 H3 ρ3 (upd H3 p (.dT (putK vs (k.map Sum.inl) u))):=Ext.wr hp (zhk g1) _
    refine ⟨p,_,rfl,DPut.t g1 g3 (by rw[← g2.length];exact hl),?_⟩
    exact q _ _ _ ((x1.trans (x2.trans x3)).trans E) (rp3.wr hp (zhk g1) ⟨_,zr,(g2.put k (a1.ext (x2.trans x3))).ext E⟩) (a.ext ((x1.trans (x2.trans x3)).trans E))
   ·cases e
  ·cases e
 ·cases e
end
noncomputable def bSorted:List D→Store→Res D:=fun xs st=>match xs with
 | [x]=>match (asL st x).bind asRows with
  | some l=>if l.length≤1000000 then .ok (.lst (rowsD (sortR l))) st else .stuck
  | none=>match pairsOf st x with
   | some kvs=>if kvs.length≤1000000 then .ok (.lst (rowsD (sortR (kvs.map (·.1))))) st else .stuck
   | none=>.stuck
 | _=>.stuck
theorem zma {K:PySem.W.Frag}:CaD K bSorted (fun xs H Q=>rSortedAL K xs H Q∨rSortedDAL xs H Q):=fun ρ H st xs us z st' Q rp aa e q=>by
 unfold bSorted at e
 split at e
 ·obtain ⟨u,rfl,a⟩:=aa.one
  split at e
  ·rename_i l hl
   obtain ⟨ys,h0,hl⟩:=Option.bind_eq_some_iff.mp hl
   split at e
   ·rename_i few
    cases e
    obtain ⟨p,vs,rfl,h1,h2⟩:=asL_at rp a h0
    obtain ⟨ps,rfl,rfl,h3⟩:=zmc h2 hl
    rw[List.length_map] at few
    refine .inl ⟨p,ps,rfl,SqL.of h1,few,fun x hx=>SqT.of (h3 x hx).1,fun t qs ht hp hs=>?_⟩
    have e2:qs.map (·.2)=sortR (ps.map (·.2)):=zjt (hp.map _) hs
    refine q _ _ _ (Ext.new ht _) (rp.new ht _) (.newL rp ht ?_)
    rw[← e2]
    exact zjw qs fun x hx=>h3 x (hp.mem_iff.mp hx)
   ·cases e
  ·split at e
   ·rename_i kvs hk
    split at e
    ·rename_i few
     cases e
     obtain ⟨p,vs,rfl,h1,h2⟩:=zjz rp a hk
     refine .inr ⟨p,vs,kvs.map (·.1),rfl,h1,h2.keys,by rw[List.length_map];exact few,fun t qs ht hp hs hq=>?_⟩
     have e2:qs.map (·.2)=sortR (kvs.map (·.1)):=zjt hp hs
     refine q _ _ _ (Ext.new ht _) (rp.new ht _) (.newL rp ht ?_)
     rw[← e2]
     exact zjw qs fun x hx=>⟨hq x hx,zlf rp (hq x hx)⟩
    ·cases e
   ·cases e
 ·cases e
theorem zgy {X : Cx} (hc : X.calm = true) (hu : X.A.units + 64 < cLine) : CallR X (.builtin "sorted") (fun xs H Q => rSortedAL X.K xs H Q ∨ rSortedDAL xs H Q) := (zje hu).or (zih hc hu)
end Dd
set_option maxHeartbeats 4000000
namespace Dd
open PySem L2
noncomputable def eAppend (f:SE) (g:SA):SE:=fun σ st=>(f σ st).bind fun x st1=>match x,asL st1 x with
 | .ref n,some _=>(g σ st1).bind fun ys st2=>match ys,st2[n]? with
  | [y],some (.lst xs)=>if xs.length < sizeLine then .ok .non (st2.set n (.lst (xs++[y]))) else .stuck
  | _,_=>.stuck
 | _,_=>.stuck
noncomputable def eExtend (f:SE) (g:SA):SE:=fun σ st=>(f σ st).bind fun x st1=>match x,asL st1 x with
 | .ref n,some _=>(g σ st1).bind fun ys st2=>match ys,st2[n]? with
  | [y],some (.lst xs)=>match asL st2 y with
   | some zs=>if xs.length+zs.length≤sizeLine then .ok .non (st2.set n (.lst (xs++zs))) else .stuck
   | none=>.stuck
  | _,_=>.stuck
 | _,_=>.stuck
noncomputable def ePop (f:SE):SE:=fun σ st=>(f σ st).bind fun x st1=>match x with
 | .ref n=>match st1[n]? with
  | some (.lst xs)=>match xs[xs.length - 1]? with
   | some y=>.ok y (st1.set n (.lst xs.dropLast))
   | none=>.stuck
  | _=>.stuck
 | _=>.stuck
theorem AtAll.dropLast {K:PySem.W.Frag} {ρ:Loc} {H:Hp}:∀{ds:List D} {vs:List V},AtAll K ρ H ds vs→AtAll K ρ H ds.dropLast vs.dropLast
 | _,_,.nil=>.nil
 | _,_,.cons a .nil=>.nil
 | _,_,.cons a (.cons b t)=>.cons a (AtAll.dropLast (.cons b t))
section
variable {X:Cx} {o e i value:Expr} {es:List Expr} {f g h:SE} {ga:SA} {pos apos cpos:Pos}
theorem zux (ho : DE X o f) (ha : DA X (e :: es) ga) (hbase : attributeBase o "append" X.env (eval o X.env) = eval o X.env := by rfl)
  (hfew:((backTo cpos (starEach (e::es) X.env)).all (fun x=>!x.1) && (backToKw cpos (keywordEach [] X.env)).all (fun x=>x.1.isSome)
   && decide ((e::es).length+([]:List Keyword).length+(if ([]:List Keyword).isEmpty then 0 else 1) < 30))=true:=by rfl)
  (hline:(apos.endLine == cpos.line)=true:=by rfl) (hs:starEach (e::es) X.env=(false,eval e X.env)::starEach es X.env:=by rfl) (hplain:(backTo cpos (starEach es X.env)).any (·.1)=false:=by rfl) :
  DE X (.Call (.Attribute o "append" apos) (e :: es) [] cpos) (eAppend f ga) := pe_to (pe_bm PySem.F.plainAttrs_list PySem.F.slot_list_append PySem.F.type_list_append zlg ho ha hbase hfew hline hs hplain) fun τ H Q ⟨ρ, σ, st, v, st', a, rp, e, q⟩ => by
 obtain ⟨x,st1,e1,e⟩:=zb e
 refine ⟨ρ,σ,st,x,st1,a,rp,e1,fun ρ1 H1 u x1 rp1 a1=>?_⟩
 split at e
 ·rename_i n _ hL
  obtain ⟨ys,st2,e2,e⟩:=zb e
  obtain ⟨p,vs,rfl,g1,g2⟩:=asL_at rp1 a1 hL
  refine ⟨.inl ⟨rfl,_,SqL.of g1⟩,ρ1,σ,st1,ys,st2,a.ext x1,rp1,e2,fun ρ2 H2 ws x2 rp2 a2=>?_⟩
  split at e
  ·rename_i y xs hn
   split at e
   ·rename_i hl
    cases e
    obtain ⟨w,rfl,a3⟩:=a2.one
    obtain ⟨p',ep,hp,vs2,k1,k2⟩:=ref_at rp2 (a1.ext x2) hn (by intro z;cases z)
    cases ep
    have E:Ext ρ2 H2 ρ2 (upd H2 p (.lst (vs2++[w]))):=Ext.wr hp (zct k1) _
    exact ⟨p,vs2,w,rfl,rfl,k1,by rw[k2.length];exact hl,q _ _ _ ((x1.trans x2).trans E) (rp2.wr hp (zct k1) ⟨_,zr,(k2.append (.cons a3 .nil)).ext E⟩) .non⟩
   ·cases e
  ·cases e
 ·cases e
theorem zuu (ho : DE X o f) (ha : DA X (e :: es) ga) (hbase : attributeBase o "extend" X.env (eval o X.env) = eval o X.env := by rfl)
  (hfew:((backTo cpos (starEach (e::es) X.env)).all (fun x=>!x.1) && (backToKw cpos (keywordEach [] X.env)).all (fun x=>x.1.isSome)
   && decide ((e::es).length+([]:List Keyword).length+(if ([]:List Keyword).isEmpty then 0 else 1) < 30))=true:=by rfl)
  (hline:(apos.endLine == cpos.line)=true:=by rfl) (hs:starEach (e::es) X.env=(false,eval e X.env)::starEach es X.env:=by rfl) (hplain:(backTo cpos (starEach es X.env)).any (·.1)=false:=by rfl) :
  DE X (.Call (.Attribute o "extend" apos) (e :: es) [] cpos) (eExtend f ga) := pe_to (pe_bm PySem.F.plainAttrs_list PySem.F.slot_list_extend PySem.F.type_list_extend zqj ho ha hbase hfew hline hs hplain) fun τ H Q ⟨ρ, σ, st, v, st', a, rp, e, q⟩ => by
 obtain ⟨x,st1,e1,e⟩:=zb e
 refine ⟨ρ,σ,st,x,st1,a,rp,e1,fun ρ1 H1 u x1 rp1 a1=>?_⟩
 split at e
 ·rename_i n _ hL
  obtain ⟨ys,st2,e2,e⟩:=zb e
  obtain ⟨p,vs,rfl,g1,g2⟩:=asL_at rp1 a1 hL
  refine ⟨.inl ⟨rfl,_,SqL.of g1⟩,ρ1,σ,st1,ys,st2,a.ext x1,rp1,e2,fun ρ2 H2 ws x2 rp2 a2=>?_⟩
  split at e
  ·rename_i y xs hn
   split at e
   ·rename_i zs hz
    split at e
    ·rename_i hl
     cases e
     obtain ⟨w,rfl,a3⟩:=a2.one
     obtain ⟨p',ep,hp,vs2,k1,k2⟩:=ref_at rp2 (a1.ext x2) hn (by intro z;cases z)
     cases ep
     obtain ⟨b,ws2,rfl,m1,m2⟩:=asL_at rp2 a3 hz
     have E:Ext ρ2 H2 ρ2 (upd H2 p (.lst (vs2++ws2))):=Ext.wr hp (zct k1) _
     exact ⟨p,b,vs2,ws2,rfl,rfl,k1,m1,by rw[k2.length,m2.length];exact hl,q _ _ _ ((x1.trans x2).trans E) (rp2.wr hp (zct k1) ⟨_,zr,(k2.append m2).ext E⟩) .non⟩
    ·cases e
   ·cases e
  ·cases e
 ·cases e
theorem d_pop (ho : DE X o f) (hbase : attributeBase o "pop" X.env (eval o X.env) = eval o X.env := by rfl) (hline : (apos.endLine == cpos.line) = true := by rfl) : DE X (.Call (.Attribute o "pop" apos) [] [] cpos) (ePop f) :=
 pe_to (pe_bm0 PySem.F.plainAttrs_list PySem.F.slot_list_pop PySem.F.type_list_pop mt_pop ho hbase hline) fun τ H Q ⟨ρ,σ,st,v,st',a,rp,e,q⟩=>by
 obtain ⟨x,st1,e1,e⟩:=zb e
 refine ⟨ρ,σ,st,x,st1,a,rp,e1,fun ρ1 H1 u x1 rp1 a1=>?_⟩
 split at e
 ·split at e
  ·rename_i n _ xs hn
   split at e
   ·rename_i y hy
    cases e
    obtain ⟨p,rfl,hp,vs2,k1,k2⟩:=ref_at rp1 a1 hn (by intro z;cases z)
    obtain ⟨w,hw,a3⟩:=k2.get hy
    have E:Ext ρ1 H1 ρ1 (upd H1 p (.lst vs2.dropLast)):=Ext.wr hp (zct k1) _
    exact ⟨.inl ⟨rfl,_,SqL.of k1⟩,p,vs2,w,rfl,rfl,k1,by rw[k2.length];exact hw,q _ _ _ (x1.trans E) (rp1.wr hp (zct k1) ⟨_,zr,k2.dropLast.ext E⟩) (a3.ext E)⟩
   ·cases e
  ·cases e
 ·cases e
noncomputable def eFz (f:SE):SE:=fun σ st=>(f σ st).bind fun x st1=>match x with
 | .ref n=>match st1[n]? with
  | some (.lst xs)=>.ok (.lst xs) (st1.set n .dead)
  | _=>.stuck
 | _=>.stuck
theorem d_fz (ho:DE X o f):DE X o (eFz f):=pe_to ho fun τ H Q hq0=>by
 obtain ⟨ρ,σ,st,v,st',a,rp,e,q⟩:=hq0
 obtain ⟨x,st1,e1,e⟩:=zb e
 refine ⟨ρ,σ,st,x,st1,a,rp,e1,fun ρ1 H1 u x1 rp1 a1=>?_⟩
 split at e
 ·rename_i n
  split at e
  ·rename_i xs hn
   cases e
   obtain ⟨p,rfl,hp,vs2,k1,k2⟩:=ref_at rp1 a1 hn (by intro z;cases z)
   have hlen:=(List.getElem?_eq_some_iff.mp hp).1
   obtain ⟨E,R⟩:=rp1.kill hlen
   refine q _ _ _ (x1.trans E) R (.lst k1 ⟨fun z=>?_,fun z=>(rp1.gh p z).2 (List.mem_of_getElem? hp)⟩ (k2.ext E))
   obtain ⟨i,hi,e2⟩:=List.getElem_of_mem z
   have e3:(ρ1.m.set n none)[i]?=some (some p):=by rw[List.getElem?_eq_getElem hi,e2]
   by_cases hin:i=n
   ·subst hin
    rw[List.getElem?_set_self hlen] at e3
    simp at e3
   ·rw[List.getElem?_set_ne (Ne.symm hin)] at e3
    exact hin (rp1.inj i n p e3 hp)
  ·cases e
 ·cases e
end
noncomputable def sNx:SS:=fun σ st=>.ok (.nx σ) st
noncomputable def sBrk:SS:=fun σ st=>.ok (.brk σ) st
noncomputable def sCt:SS:=fun σ st=>.ok (.ct σ) st
noncomputable def sRet (f:SE):SS:=fun σ st=>(f σ st).bind fun v st1=>.ok (.ret v) st1
noncomputable def sRetN:SS:=fun _ st=>.ok (.ret .non) st
noncomputable def sDrop (f:SE):SS:=fun σ st=>(f σ st).bind fun _ st1=>.ok (.nx σ) st1
noncomputable def sSet (i:Nat) (f:SE):SS:=fun σ st=>(f σ st).bind fun v st1=>.ok (.nx (σ.set i (some v))) st1
noncomputable def sSeq (s t:SS):SS:=fun σ st=>match s σ st with
 | .ok (.nx σ1) st1=>t σ1 st1
 | r=>r
noncomputable def sIf (c:ST) (s t:SS):SS:=fun σ st=>(c σ st).bind fun b st1=>if b=true then s σ st1 else t σ st1
noncomputable def sAug (i:Nat) (g:D→D→Store→Res D) (f:SE):SS:=fun σ st=>match σ[i]? with
 | some (some x)=>(f σ st).bind fun y st1=>(g x y st1).bind fun z st2=>.ok (.nx (σ.set i (some z))) st2
 | _=>.stuck
noncomputable def sSetIx (f g h:SE):SS:=fun σ st=>(h σ st).bind fun v st1=>(f σ st1).bind fun x st2=>(g σ st2).bind fun y st3=>match x,y with
 | .ref n,.int k=>match st3[n]? with
  | some (.lst xs)=>match ixN xs.length k with
   | some j=>.ok (.nx σ) (st3.set n (.lst (xs.set j v)))
   | none=>.stuck
  | _=>.stuck
 | _,_=>.stuck
section
variable {X:Cx} {e c o i value:Expr} {sm:Stmt} {rest:List Stmt} {f g h:SE} {s t:SS} {b:ST} {pos pos':Pos}
theorem ds_nil:DSs X [] sNx:=pss_to zvu fun E τ H hq0=>by
 obtain ⟨ρ,σ,st,fl,st',a,rp,e,q⟩:=hq0
 cases e
 exact q _ _ _ (.refl _ _) rp a
theorem ds_ret (he:DE X e f):DSt X (.Return (some e) pos) (sRet f):=ps_to (ps_ret he) fun E τ H hq0=>by
 obtain ⟨ρ,σ,st,fl,st',a,rp,e,q⟩:=hq0
 obtain ⟨x,st1,e1,e⟩:=zb e
 cases e
 exact ⟨ρ,σ,st,x,_,a,rp,e1,fun ρ1 H1 u x1 rp1 a1=>q _ _ _ x1 rp1 a1⟩
theorem zxp (he:DE X e f) (hs:swapsWith e none pos.line X.env=pure false:=by rfl):DSt X (.Expr e pos) (sDrop f):=ps_to (zvw he hs) fun E τ H hq0=>by
 obtain ⟨ρ,σ,st,fl,st',a,rp,e,q⟩:=hq0
 obtain ⟨x,st1,e1,e⟩:=zb e
 cases e
 exact ⟨ρ,σ,st,x,_,a,rp,e1,fun ρ1 H1 u x1 rp1 a1=>q _ _ _ x1 rp1 (a.ext x1)⟩
theorem set_t {K:PySem.W.Frag} {i:Nat} {f:SE}:∀E τ H,tDS K (sSet i f) E τ H→tAsg (tD K f) (gName i) E τ H:=fun E τ H hq0=>by
 obtain ⟨ρ,σ,st,fl,st',a,rp,e,q⟩:=hq0
 obtain ⟨x,st1,e1,e⟩:=zb e
 cases e
 exact ⟨ρ,σ,st,x,_,a,rp,e1,fun ρ1 H1 u x1 rp1 a1=>q _ _ _ x1 rp1 ((a.ext x1).set a1 i)⟩
theorem ds_set {i:Nat} {x:Str} (hN:X.N.Nodup) (hi:X.N[i]?=some x) (hx:L2.Loc X.env.scope x) (he:DE X e f) (hs:swapsWith e (some (.Name x pos')) pos.line X.env=pure false:=by rfl) (hf:X.fn x=true∨X.env.scope.names.lookup x=some .local:=by first | exact .inl rfl | exact .inr rfl | assumption) :
 DSt X (.Assign [.Name x pos'] e pos) (sSet i f):=ps_to (ps_set hN hi hx he hs hf) set_t
theorem ds_one (h1:DSt X sm s):DSs X [sm] s:=zvt h1
theorem zxr (h1:DSt X sm s) (h2:DSs X rest t):DSs X (sm::rest) (sSeq s t):=pss_to (ztd h1 h2) fun E τ H hq0=>by
 obtain ⟨ρ,σ,st,fl,st',a,rp,e,q⟩:=hq0
 unfold sSeq at e
 split at e
 ·rename_i σ1 st1 e1
  exact ⟨ρ,σ,st,_,st1,a,rp,e1,fun ρ1 H1 τ1 x1 rp1 a1=>⟨ρ1,σ1,st1,fl,st',a1,rp1,e,q.ext x1⟩⟩
 ·rename_i hne
  refine ⟨ρ,σ,st,fl,st',a,rp,e,?_⟩
  cases fl with
  | nx σ'=>exact absurd e (hne σ' st')
  | brk σ'=>exact q
  | ct σ'=>exact q
  | ret v=>exact q
theorem ds_if {a' b':List Stmt} (hc:DT X c b) (ha:DSs X a' s) (hb:DSs X b' t):DSt X (.If c a' b' pos) (sIf b s t):=ps_to (ps_if hc ha hb) fun E τ H hq0=>by
 obtain ⟨ρ,σ,st,fl,st',a,rp,e,q⟩:=hq0
 obtain ⟨x,st1,e1,e⟩:=zb e
 refine ⟨ρ,σ,st,x,st1,a,rp,e1,fun ρ1 H1 x1 rp1=>?_⟩
 cases x with
 | true=>exact iteT ⟨ρ1,σ,st1,fl,st',a.ext x1,rp1,e,q.ext x1⟩
 | false=>exact iteF ⟨ρ1,σ,st1,fl,st',a.ext x1,rp1,e,q.ext x1⟩
noncomputable def IpD (K:PySem.W.Frag) (g:D→D→Store→Res D) (r:TIp):Prop :=
 ∀ρ H st x y u v z st' (Q:VK),Rep K ρ st H→At K ρ H x u→At K ρ H y v→g x y st=.ok z st'→(∀ρ' H' w,Ext ρ H ρ' H'→Rep K ρ' st' H'→At K ρ' H' z w→Q w H')→r u v H Q
theorem ds_aug {i:Nat} {x:Str} {op:Operator} {ti:TIp} {g:D→D→Store→Res D} (hN:X.N.Nodup) (hi:X.N[i]?=some x) (hx:L2.Loc X.env.scope x) (he:DE X e f) (ho:PIp X op ti) (hr:IpD X.K g ti) (hf:X.fn x=true∨X.env.scope.names.lookup x=some .local:=by first | exact .inl rfl | exact .inr rfl | assumption) :
  DSt X (.AugAssign (.Name x pos') op e pos) (sAug i g f):=ps_to (ps_aug hN hi hx he ho hf) fun E τ H ⟨ρ,σ,st,fl,st',a,rp,e,q⟩=>by
 unfold sAug at e
 split at e
 ·rename_i d hd
  obtain ⟨y,st1,e1,e⟩:=zb e
  obtain ⟨z,st2,e2,e⟩:=zb e
  cases e
  obtain ⟨u,hu,a0⟩:=a.get hd
  refine ⟨u,hu,ρ,σ,st,y,st1,a,rp,e1,fun ρ1 H1 w x1 rp1 a1=>?_⟩
  exact hr ρ1 H1 st1 d y u w z st' _ rp1 (a0.ext x1) a1 e2 fun ρ2 H2 zz x2 rp2 a2=>q _ _ _ (x1.trans x2) rp2 ((a.ext (x1.trans x2)).set a2 i)
 ·cases e
theorem ip_D {K:PySem.W.Frag} {p:Int→Int→Int}:IpD K (oI (fun _ _=>True) fun i j=>.int (p i j)) (ipI p):=fun ρ H st x y u v z st' Q rp a b e q=>by
 unfold oI at e
 split at e
 ·cases a
  cases b
  rw[if_pos True.intro] at e
  cases e
  exact ⟨_,_,rfl,rfl,q _ _ _ (.refl _ _) rp (.int _)⟩
 ·cases e
theorem zuo (he:DE X value h) (ho:DE X o f) (hi:DE X i g) (ha:∀v,assign (.Subscript o i pos') X.env v=(do
   let ov ← holding [v] (eval o X.env)
   let iv ← holding [v,ov] (eval i X.env)
   standAt pos'
   holding [v,ov,iv] (setItem ov iv v)
   release [v,ov,iv] []):=by intro _;rfl)
  (hs:swapsWithSole [.Subscript o i pos'] value pos.line X.env=pure false:=by rfl) (hw:swappedStores [.Subscript o i pos'] value X.env=pure none:=by rfl)
  (h1:(assignEach [.Subscript o i pos'] X.env).map (·.2)=[assign (.Subscript o i pos') X.env]:=by rfl):DSt X (.Assign [.Subscript o i pos'] value pos) (sSetIx f g h) :=
 ps_to (ps_asg he (pg_sub ho hi zsv ha) hs hw h1) fun E τ H ⟨ρ,σ,st,fl,st',a,rp,e,q⟩=>by
 obtain ⟨v,st1,e1,e⟩:=zb e
 obtain ⟨x,st2,e2,e⟩:=zb e
 obtain ⟨y,st3,e3,e⟩:=zb e
 refine ⟨ρ,σ,st,v,st1,a,rp,e1,fun ρ1 H1 u x1 rp1 a1=>?_⟩
 refine ⟨ρ1,σ,st1,x,st2,a.ext x1,rp1,e2,fun ρ2 H2 w x2 rp2 a2=>?_⟩
 refine ⟨ρ2,σ,st2,y,st3,a.ext (x1.trans x2),rp2,e3,fun ρ3 H3 t x3 rp3 a3=>?_⟩
 split at e
 ·rename_i n k _
  split at e
  ·rename_i xs hn
   split at e
   ·rename_i j hj
    cases e
    cases a3
    obtain ⟨p,rfl,hp,vs,g1,g2⟩:=ref_at rp3 (a2.ext x3) hn (by intro z;cases z)
    have E:Ext ρ3 H3 ρ3 (upd H3 p (.lst (vs.set j u))):=Ext.wr hp (zct g1) _
    refine ⟨p,vs,k,j,rfl,rfl,g1,by rw[g2.length];exact hj,?_⟩
    exact q _ _ _ ((x1.trans (x2.trans x3)).trans E) (rp3.wr hp (zct g1) ⟨_,zr,(g2.set (a1.ext (x2.trans x3)) j).ext E⟩) (a.ext ((x1.trans (x2.trans x3)).trans E))
   ·cases e
  ·cases e
 ·cases e
end
end Dd
set_option maxHeartbeats 4000000
namespace Dd
open PySem L2
noncomputable abbrev SG:=D→DS→Option DS
noncomputable def gN (i:Nat):SG:=fun d σ=>some (σ.set i (some d))
noncomputable def gsNil:List D→DS→Option DS:=fun ds σ=>match ds with
 | []=>some σ
 | _=>none
noncomputable def gsCons (t:SG) (u:List D→DS→Option DS):List D→DS→Option DS:=fun ds σ=>match ds with
 | d::r=>(t d σ).bind fun σ1=>u r σ1
 | _=>none
noncomputable def gT (n:Nat) (u:List D→DS→Option DS):SG:=fun d σ=>match d with
 | .tup ds=>if ds.length=n then u ds σ else none
 | _=>none
noncomputable def gD (K:PySem.W.Frag) (b:SG):TG:=fun v τ H Q=>∃ρ σ d σ',AtS K ρ H σ τ∧At K ρ H d v∧b d σ=some σ'∧∀τ',AtS K ρ H σ' τ'→Q τ' H
noncomputable def gDs (K:PySem.W.Frag) (b:List D→DS→Option DS):TGs:=fun vs τ H Q=>∃ρ σ ds σ',AtS K ρ H σ τ∧AtAll K ρ H ds vs∧b ds σ=some σ'∧∀τ',AtS K ρ H σ' τ'→Q τ' H
noncomputable abbrev DG (X:Cx) (tg:Expr) (b:SG):Prop:=PG X tg (gD X.K b)
noncomputable abbrev DGs (X:Cx) (ts:List Expr) (b:List D→DS→Option DS):Prop:=PGs X ts (gDs X.K b)
section
variable {X:Cx} {pos:Pos} {e:Expr} {es:List Expr} {t:SG} {u:List D→DS→Option DS}
theorem pg_to {g g':TG} (h:PG X e g) (k:∀v τ H Q,g' v τ H Q→g v τ H Q):PG X e g':=fun pins s σ H v u Q I r q=>h pins s σ H v u Q I r (k _ _ _ _ q)
theorem pgs_to {g g':TGs} (h:PGs X es g) (k:∀v τ H Q,g' v τ H Q→g v τ H Q):PGs X es g':=fun pins s σ H v u Q I r q=>h pins s σ H v u Q I r (k _ _ _ _ q)
theorem zya {i:Nat} {x:Str} (hN:X.N.Nodup) (hi:X.N[i]?=some x) (hx:L2.Loc X.env.scope x) (hf:X.fn x=true∨X.env.scope.names.lookup x=some .local:=by first | exact .inl rfl | exact .inr rfl | assumption):DG X (.Name x pos) (gN i) :=
 pg_to (zwg hN hi hx hf) fun v τ H Q ⟨ρ,σ,d,σ',a,b,e,q⟩=>by
 cases e
 exact q _ (a.set b i)
theorem zxz:DGs X [] gsNil:=pgs_to zwf fun v τ H Q hq0=>by
 obtain ⟨ρ,σ,d,σ',a,b,e,q⟩:=hq0
 unfold gsNil at e
 split at e
 ·cases e
  cases b
  exact ⟨rfl,q _ a⟩
 ·cases e
theorem zus (h1:DG X e t) (h2:DGs X es u) (hs:(assignEach (e::es) X.env).map (·.2)=assign e X.env::(assignEach es X.env).map (·.2):=by rfl):DGs X (e::es) (gsCons t u) :=
 pgs_to (ztj h1 h2 hs) fun v τ H Q ⟨ρ,σ,d,σ',a,b,e,q⟩=>by
 unfold gsCons at e
 split at e
 ·obtain ⟨σ1,e1,e2⟩:=Option.bind_eq_some_iff.mp e
  cases b with
  | cons b1 b2=>exact ⟨_,_,rfl,ρ,σ,_,σ1,a,b1,e1,fun τ1 a1=>⟨ρ,σ1,_,σ',a1,b2,e2,q⟩⟩
 ·cases e
theorem dg_tup {k:Nat} {n:Nat} (hc:X.calm=true) (h:DGs X es u) (hn:(assignEach es X.env).length=n:=by rfl) (hst:(assignEach es X.env).findIdx? (·.1)=none:=by rfl):DG X (.Tuple es k pos) (gT n u) :=
 pg_to (pg_tup hc h hn hst) fun v τ H Q ⟨ρ,σ,d,σ',a,b,e,q⟩=>by
 unfold gT at e
 split at e
 ·split at e
  ·rename_i hl
   cases b with
   | tup h1 h2 h3=>exact ⟨_,_,rfl,SqT.of h1,by rw[h3.length];exact hl,ρ,σ,_,σ',a,h3,e,q⟩
  ·cases e
 ·cases e
end
structure ExtG (ρ:Loc) (H:Hp) (ρ':Loc) (H':Hp):Prop where
 len:ρ.m.length≤ρ'.m.length
 old:∀(n:Nat) (a:Addr),n < ρ.m.length→ρ'.m[n]?=some (some a)→ρ.m[n]?=some (some a)
 keep:∀a o,H a=some o→some a∉ρ.m→H' a=some o∧some a∉ρ'.m
 gho:∀a∈ρ'.g,a∈ρ.g∨H a=none
 frz:∀a ob u,H a=some (.frz ob u)→H' a=some (.frz ob u)
theorem Ext.toG {ρ ρ':Loc} {H H':Hp} (x:Ext ρ H ρ' H'):ExtG ρ H ρ' H':=⟨x.len,x.old,x.keep,fun a h=>.inl (by rw[← x.gho];exact h),x.frz⟩
theorem ExtG.then {ρ ρ1 ρ2:Loc} {H H1 H2:Hp} (a:ExtG ρ H ρ1 H1) (b:Ext ρ1 H1 ρ2 H2):ExtG ρ H ρ2 H2 :=
 ⟨Nat.le_trans a.len b.len,fun n c h e=>a.old n c h (b.old n c (Nat.lt_of_lt_of_le h a.len) e),fun c o e n=>by
  obtain ⟨e1,n1⟩:=a.keep c o e n
  exact b.keep c o e1 n1,fun c h=>a.gho c (by rw[← b.gho];exact h),fun c ob u e=>b.frz c ob u (a.frz c ob u e)⟩
theorem ExtG.out {ρ ρ':Loc} {H H':Hp} (x:ExtG ρ H ρ' H') {a:Addr} {o:HO} (h:H a=some o) (n:Out ρ a):H' a=some o∧Out ρ' a :=
 ⟨(x.keep a o h n.1).1,(x.keep a o h n.1).2,fun z=>by
  rcases x.gho a z with q | q
  ·exact n.2 q
  ·rw[h] at q;cases q⟩
mutual
theorem At.extG {K:PySem.W.Frag} {ρ ρ':Loc} {H H':Hp} (x:ExtG ρ H ρ' H'):∀{d:D} {v:V},At K ρ H d v→At K ρ' H' d v
 | _,_,.non=>.non
 | _,_,.bl b=>.bl b
 | _,_,.int i=>.int i
 | _,_,.str z=>.str z
 | _,_,.ty n=>.ty n
 | _,_,.exn h=>.exn (h.map fun _ _ _ e n=>x.out e n)
 | _,_,.ref h e=>.ref (Nat.lt_of_lt_of_le h x.len) fun a q=>e a (x.old _ a h q)
 | _,_,.tup h n al=>.tup (x.out h n).1 (x.out h n).2 (AtAll.extG x al)
 | _,_,.lst h n al=>.lst (x.out h n).1 (x.out h n).2 (AtAll.extG x al)
 | _,_,.scr h al=>.scr (by
  rcases h with ⟨h | ⟨o,h⟩,n⟩ | h
  ·exact .inl ⟨.inl (x.out h n).1,(x.out h n).2⟩
  ·exact .inl ⟨.inr ⟨o,(x.out h n).1⟩,(x.out h n).2⟩
  ·exact .inr h) (AtAll.extG x al)
theorem AtAll.extG {K:PySem.W.Frag} {ρ ρ':Loc} {H H':Hp} (x:ExtG ρ H ρ' H'):∀{d:List D} {v:List V},AtAll K ρ H d v→AtAll K ρ' H' d v
 | _,_,.nil=>.nil
 | _,_,.cons a b=>.cons (At.extG x a) (AtAll.extG x b)
end
theorem Ls.extG {K:PySem.W.Frag} {ρ ρ':Loc} {H H':Hp} {a:Addr} {vs:List V} (x:ExtG ρ H ρ' H') (h:Ls K ρ H a vs):Ls K ρ' H' a vs:=by
 rcases h with ⟨h | ⟨o,h⟩,n⟩ | h
 ·exact .inl ⟨.inl (x.out h n).1,(x.out h n).2⟩
 ·exact .inl ⟨.inr ⟨o,(x.out h n).1⟩,(x.out h n).2⟩
 ·exact .inr h
structure ItOk (K:PySem.W.Frag) (ρ:Loc) (H:Hp) (J:It) (xs:List D):Prop where
 item:∀ρ2 H2,ExtG ρ H ρ2 H2→∀(i:Nat) (x:D),xs[i]?=some x→J.go i H2∧∀y H3,J.yld i H2 y H3→Ext ρ2 H2 ρ2 H3∧∀st,Rep K ρ2 st H2→Rep K ρ2 st H3∧At K ρ2 H3 x y
 done:∀ρ2 H2,ExtG ρ H ρ2 H2→∀i:Nat,xs.length≤i→J.stop i H2
noncomputable def iD (K:PySem.W.Frag) (f:SA):TI:=fun τ H R=>∃ρ σ st xs st',AtS K ρ H σ τ∧Rep K ρ st H∧f σ st=.ok xs st'∧∀ρ' H' J,Ext ρ H ρ' H'→Rep K ρ' st' H'→ItOk K ρ' H' J xs→R J H'
noncomputable abbrev DI (X:Cx) (tg iter:Expr) (f:SA):Prop:=PI X tg iter (iD X.K f)
noncomputable def seqV:D→Option (List D)
 | .tup xs=>some xs
 | .lst xs=>some xs
 | .scr xs=>some xs
 | _=>none
noncomputable def iSeq (f:SE):SA:=fun σ st=>(f σ st).bind fun x st1=>match seqV x with
 | some xs=>.ok xs st1
 | none=>.stuck
noncomputable def rng (lo:Int) (n:Nat):List D:=(List.range n).map fun (i:Nat)=>D.int (lo+i)
noncomputable def iR1 (g:SA):SA:=fun σ st=>(g σ st).bind fun xs st1=>match xs with
 | [.int j]=>if -(2 ^ 62)≤j∧j < 2 ^ 62 then .ok (rng 0 j.toNat) st1 else .stuck
 | _=>.stuck
noncomputable def iR2 (g:SA):SA:=fun σ st=>(g σ st).bind fun xs st1=>match xs with
 | [.int i,.int j]=>if -(2 ^ 62)≤i∧i < 2 ^ 62∧-(2 ^ 62)≤j∧j < 2 ^ 62 then .ok (rng i (j - i).toNat) st1 else .stuck
 | _=>.stuck
theorem zhh {lo:Int} {n i:Nat} {x:D} (h:(rng lo n)[i]?=some x):i < n∧x=.int (lo+i):=by
 unfold rng at h
 rw[List.getElem?_map] at h
 rcases Nat.lt_or_ge i n with z | z
 ·rw[List.getElem?_range z] at h
  exact ⟨z,(Option.some.inj h).symm⟩
 ·rw[List.getElem?_eq_none (by rw[List.length_range];exact z)] at h
  cases h
theorem it_rng {K:PySem.W.Frag} {ρ:Loc} {H:Hp} {lo:Int} {n:Nat}:ItOk K ρ H (Itr lo n) (rng lo n) where
 item:=fun ρ2 H2 x i d e=>by
  obtain ⟨h1,rfl⟩:=zhh e
  refine ⟨h1,fun y H3 hy=>?_⟩
  obtain ⟨rfl,rfl⟩:=hy
  exact ⟨.refl _ _,fun _ r=>⟨r,.int _⟩⟩
 done:=fun ρ2 H2 x i h=>by
  unfold rng at h
  rw[List.length_map,List.length_range] at h
  exact h
section
variable {X:Cx} {tg l a b:Expr} {f:SE} {g:SA} {p pos:Pos}
theorem pi_to {t t':TI} (h:PI X tg l t) (k:∀τ H R,t' τ H R→t τ H R):PI X tg l t':=fun pins s σ H R I q=>h pins s σ H R I (k _ _ _ q)
theorem pi_or {t t':TI} (h:PI X tg l t) (h':PI X tg l t'):PI X tg l (fun τ H R=>t τ H R∨t' τ H R):=fun pins s σ H R I q=>by
 rcases q with q | q
 ·exact h pins s σ H R I q
 ·exact h' pins s σ H R I q
theorem zsn {K:PySem.W.Frag} {ρ:Loc} {H:Hp} {p:Addr} {xs:List D} {vs:List V} (hs:∀ρ2 H2,ExtG ρ H ρ2 H2→SqL K H2 p vs) (al:AtAll K ρ H xs vs):ItOk K ρ H (Itl K p) xs where
 item:=fun ρ2 H2 x i d e=>by
  obtain ⟨v,hv,a⟩:=al.get e
  refine ⟨⟨vs,v,hs _ _ x,hv⟩,fun y H3 hy=>?_⟩
  obtain ⟨rfl,h2⟩:=hy
  have:=h2 vs (hs _ _ x)
  rw[hv] at this
  cases this
  exact ⟨.refl _ _,fun _ r=>⟨r,a.extG x⟩⟩
 done:=fun ρ2 H2 x i h=>⟨vs,hs _ _ x,by rw[al.length];exact h⟩
theorem It_tup {K:PySem.W.Frag} {ρ:Loc} {H:Hp} {p:Addr} {xs:List D} {vs:List V} (hs:∀ρ2 H2,ExtG ρ H ρ2 H2→SqT K H2 p vs) (al:AtAll K ρ H xs vs):ItOk K ρ H (Itt K p) xs where
 item:=fun ρ2 H2 x i d e=>by
  obtain ⟨v,hv,a⟩:=al.get e
  refine ⟨⟨vs,v,hs _ _ x,hv⟩,fun y H3 hy=>?_⟩
  obtain ⟨rfl,h2⟩:=hy
  have:=h2 vs (hs _ _ x)
  rw[hv] at this
  cases this
  exact ⟨.refl _ _,fun _ r=>⟨r,a.extG x⟩⟩
 done:=fun ρ2 H2 x i h=>⟨vs,hs _ _ x,by rw[al.length];exact h⟩
theorem di_seq (hl:DE X l f):DI X tg l (iSeq f):=pi_to (pi_or (zwd hl) (pi_tup hl)) fun τ H R hq0=>by
 obtain ⟨ρ,σ,st,xs,st',a,rp,e,q⟩:=hq0
 obtain ⟨x,st1,e1,e⟩:=zb e
 cases x with
 | tup ys =>
  cases e
  refine .inr ⟨ρ,σ,st,_,_,a,rp,e1,fun ρ1 H1 u x1 rp1 a1=>?_⟩
  cases a1 with
  | tup h1 h2 h3=>exact ⟨_,rfl,⟨_,SqT.of h1⟩,q _ _ _ x1 rp1 (It_tup (fun ρ2 H2 x2=>SqT.of (x2.out h1 h2).1) h3)⟩
 | lst ys =>
  cases e
  refine .inl ⟨ρ,σ,st,_,_,a,rp,e1,fun ρ1 H1 u x1 rp1 a1=>?_⟩
  cases a1 with
  | lst h1 h2 h3=>exact ⟨_,rfl,⟨_,SqL.of h1⟩,q _ _ _ x1 rp1 (zsn (fun ρ2 H2 x2=>SqL.of (x2.out h1 h2).1) h3)⟩
 | scr ys =>
  cases e
  refine .inl ⟨ρ,σ,st,_,_,a,rp,e1,fun ρ1 H1 u x1 rp1 a1=>?_⟩
  cases a1 with
  | scr h1 h3=>exact ⟨_,rfl,⟨_,h1.sq⟩,q _ _ _ x1 rp1 (zsn (fun ρ2 H2 x2=>(h1.extG x2).sq) h3)⟩
 | _=>cases e
theorem zqz (hg : Gl X "range") (hm : X.mg "range" = none) (ha : DA X [a] g) (hs : starEach [a] X.env = [(false, eval a X.env)] := by rfl) : DI X tg (.Call (.Name "range" p) [a] [] pos) (iR1 g) :=
 pi_to (zqb hg hm ha hs) fun τ H R ⟨ρ,σ,st,xs,st',a,rp,e,q⟩=>by
 obtain ⟨x,st1,e1,e⟩:=zb e
 split at e
 ·split at e
  ·rename_i hj
   cases e
   refine ⟨ρ,σ,st,_,_,a,rp,e1,fun ρ1 H1 u x1 rp1 a1=>?_⟩
   obtain ⟨w,rfl,a2⟩:=a1.one
   cases a2
   exact ⟨_,rfl,hj.1,hj.2,q _ _ _ x1 rp1 it_rng⟩
  ·cases e
 ·cases e
theorem zqy (hg : Gl X "range") (hm : X.mg "range" = none) (ha : DA X [a, b] g) (hs : starEach [a, b] X.env = [(false, eval a X.env), (false, eval b X.env)] := by rfl) (hs2 : starEach [b] X.env = [(false, eval b X.env)] := by rfl) : DI X tg (.Call (.Name "range" p) [a, b] [] pos) (iR2 g) :=
 pi_to (zqa hg hm ha hs hs2) fun τ H R ⟨ρ,σ,st,xs,st',a,rp,e,q⟩=>by
 obtain ⟨x,st1,e1,e⟩:=zb e
 split at e
 ·split at e
  ·rename_i hj
   cases e
   refine ⟨ρ,σ,st,_,_,a,rp,e1,fun ρ1 H1 u x1 rp1 a1=>?_⟩
   obtain ⟨w,w2,rfl,a2,a3⟩:=a1.two
   cases a2
   cases a3
   exact ⟨_,_,rfl,hj,q _ _ _ x1 rp1 it_rng⟩
  ·cases e
 ·cases e
end
noncomputable def iDict (f:SE):SA:=fun σ st=>(f σ st).bind fun x st1=>match x with
 | .ref n=>match st1[n]? with
  | some (.dT kvs)=>.ok (rowsD (kvs.map (·.1))) (st1.set n (.fT kvs))
  | _=>.stuck
 | _=>.stuck
section
variable {X:Cx} {tg l:Expr} {f:SE}
theorem zxy (hl:DE X l f):DI X tg l (iDict f):=pi_to (zwe hl) fun τ H R hq0=>by
 obtain ⟨ρ,σ,st,xs,st',a,rp,e,q⟩:=hq0
 obtain ⟨x,st1,e1,e⟩:=zb e
 refine ⟨ρ,σ,st,x,st1,a,rp,e1,fun ρ1 H1 u x1 rp1 a1=>?_⟩
 split at e
 ·rename_i n
  split at e
  ·rename_i kvs hn
   cases e
   obtain ⟨p,rfl,hp,vs,g1,g2⟩:=ref_at rp1 a1 hn (by intro z;cases z)
   refine ⟨p,vs,kvs.map (·.1),rfl,g1,g2.keys,fun ob ps h1 h2=>?_⟩
   have E:Ext ρ1 H1 ρ1 (upd H1 p (.frz ob (.dT vs))):=Ext.wr hp (zhk g1) _
   have R:Rep X.K ρ1 (st1.set n (.fT kvs)) (upd H1 p (.frz ob (.dT vs))):=rp1.wr hp (zhk g1) ⟨vs,ob,zr,g2.ext E⟩
   refine q _ _ _ (x1.trans E) R ⟨fun ρ2 H2 x2 i d e=>?_,fun ρ2 H2 x2 i h=>?_⟩
   ·have e2:(ps.map (·.2))[i]?=(kvs.map (·.1))[i]?:=by rw[h1]
    unfold rowsD at e
    rw[List.getElem?_map,← e2,List.getElem?_map] at e
    cases hi:ps[i]? with
    | none=>rw[hi] at e;cases e
    | some x =>
     rw[hi] at e
     cases e
     refine ⟨⟨(List.getElem?_eq_some_iff.mp hi).1,x2.frz _ _ _ zr⟩,fun y H3 hy=>?_⟩
     obtain ⟨rfl,x',hx',rfl⟩:=hy
     rw[hi] at hx'
     cases hx'
     have ht:=h2 x (List.mem_of_getElem? hi)
     have a3:At X.K ρ1 H1 (rowD x.2) (.ref x.1):=.tup ht (zlf rp1 ht) (zic _)
     exact ⟨.refl _ _,fun _ r=>⟨r,(a3.ext E).extG x2⟩⟩
   ·have e2:=congrArg List.length h1
    rw[List.length_map] at e2
    unfold rowsD at h
    rw[List.length_map,← e2] at h
    exact ⟨h,x2.frz _ _ _ zr⟩
  ·cases e
 ·cases e
end
end Dd
set_option maxHeartbeats 4000000
namespace Dd
open PySem L2
noncomputable def forF (bd:SG) (body:SS):List D→SS
 | [],σ,st=>.ok (.nx σ) st
 | x::xs,σ,st=>match bd x σ with
  | none=>.stuck
  | some σ1=>match body σ1 st with
   | .ok (.nx σ2) st2=>forF bd body xs σ2 st2
   | .ok (.ct σ2) st2=>forF bd body xs σ2 st2
   | .ok (.brk σ2) st2=>.ok (.nx σ2) st2
   | r=>r
noncomputable def sFor (it:SA) (bd:SG) (body:SS):SS:=fun σ st=>(it σ st).bind fun xs st1=>forF bd body xs σ st1
noncomputable def whileF (c:ST) (body:SS):Nat→SS
 | 0,_,_=>.stuck
 | n+1,σ,st=>(c σ st).bind fun b st1=>if b=true then (match body σ st1 with
  | .ok (.nx σ2) st2=>whileF c body n σ2 st2
  | .ok (.ct σ2) st2=>whileF c body n σ2 st2
  | .ok (.brk σ2) st2=>.ok (.nx σ2) st2
  | r=>r) else .ok (.nx σ) st1
noncomputable def wCap:Nat:=1000000
noncomputable def sWhile (c:ST) (body:SS):SS:=whileF c body wCap
theorem zse {α:Type} {xs:List α} {i:Nat} (h:i < xs.length):∃x,xs[i]?=some x∧xs.drop i=x::xs.drop (i+1):=⟨xs[i],List.getElem?_eq_getElem h,List.drop_eq_getElem_cons h⟩
section
variable {X:Cx} {tg iter c:Expr} {body:List Stmt} {it:SA} {bd:SG} {b:SS} {t:ST} {pos:Pos}
theorem ds_for (hp:PassesOwn (model X.prog X.w) X.A X.env X.xe) (hc:X.calm=true) (hi:DI X tg iter it) (hg:DG X tg bd) (hb:DSs X body b) (hs:∀x,foldedSetIterable iter X.env x=pure x:=by intro _;rfl) :
  DSt X (.For tg iter body [] pos) (sFor it bd b):=ps_to (ps_for hp hc hi hg hb hs) fun E τ H ⟨ρ,σ,st,fl,st',a,rp,e,q⟩=>by
 obtain ⟨xs,st1,e1,e⟩:=zb e
 refine ⟨ρ,σ,st,xs,st1,a,rp,e1,fun ρ1 H1 J x1 rp1 ok=>?_⟩
 have q1:=q.ext x1
 refine ⟨fun i m τ' H'=>i+m=xs.length∧∃ρ2 σ2 st2,Ext ρ1 H1 ρ2 H'∧AtS X.K ρ2 H' σ2 τ'∧Rep X.K ρ2 st2 H'∧forF bd b (xs.drop i) σ2 st2=.ok fl st',⟨xs.length,by omega,ρ1,σ,st1,.refl _ _,a.ext x1,rp1,e⟩,?_⟩
 rintro i m τ' H' ⟨him,ρ2,σ2,st2,x2,a2,rp2,e2⟩
 rcases Nat.lt_or_ge i xs.length with hlt | hge
 ·obtain ⟨x,hx,hd⟩:=zse hlt
  rw[hd] at e2
  obtain ⟨go,yl⟩:=ok.item ρ2 H' x2.toG i x hx
  refine .inr ⟨go,fun τ3 H3=>∃ρ3 σ3 st3,Ext ρ1 H1 ρ3 H3∧AtS X.K ρ3 H3 σ3 τ3∧Rep X.K ρ3 st3 H3∧forF bd b (xs.drop (i+1)) σ3 st3=.ok fl st',fun τ3 H3 ⟨ρ3,σ3,st3,n1,n2,n3,n4⟩=>⟨m - 1,by omega,by omega,ρ3,σ3,st3,n1,n2,n3,n4⟩,fun y H3 hy=>?_⟩
  obtain ⟨y1,y4⟩:=yl y H3 hy
  obtain ⟨y2,y3⟩:=y4 _ rp2
  unfold forF at e2
  cases hbd:bd x σ2 with
  | none=>rw[hbd] at e2;cases e2
  | some σ1 =>
   rw[hbd] at e2
   dsimp only at e2
   have X3:=x2.trans y1
   refine ⟨ρ2,σ2,x,σ1,a2.ext y1,y3,hbd,fun τ4 a4=>?_⟩
   cases hr:b σ1 st2 with
   | stuck=>rw[hr] at e2;cases e2
   | exc z w=>rw[hr] at e2;cases e2
   | ok fb st3 =>
    rw[hr] at e2
    refine ⟨ρ2,σ1,st2,fb,st3,a4,y2,hr,?_⟩
    cases fb with
    | nx σ3=>exact fun ρ' H'' τ5 x5 rp5 a5=>⟨ρ',σ3,st3,X3.trans x5,a5,rp5,e2⟩
    | ct σ3=>exact fun ρ' H'' τ5 x5 rp5 a5=>⟨ρ',σ3,st3,X3.trans x5,a5,rp5,e2⟩
    | brk σ3 =>
     dsimp only at e2
     cases e2
     exact fun ρ' H'' τ5 x5 rp5 a5=>q1 _ _ _ (X3.trans x5) rp5 a5
    | ret v =>
     dsimp only at e2
     cases e2
     exact fun ρ' H'' u x5 rp5 a5=>q1 _ _ _ (X3.trans x5) rp5 a5
 ·rw[List.drop_eq_nil_of_le hge] at e2
  unfold forF at e2
  cases e2
  exact .inl ⟨ok.done ρ2 H' x2.toG i hge,q1 _ _ _ x2 rp2 a2⟩
theorem zun (hp:PassesOwn (model X.prog X.w) X.A X.env X.xe) (hc:DT X c t) (hb:DSs X body b):DSt X (.While c body [] pos) (sWhile t b):=ps_to (zte hp hc hb) fun E τ H hq0=>by
 obtain ⟨ρ,σ,st,fl,st',a,rp,e,q⟩:=hq0
 unfold sWhile at e
 generalize wCap=n at e
 refine ⟨fun m τ' H'=>∃ρ2 σ2 st2,Ext ρ H ρ2 H'∧AtS X.K ρ2 H' σ2 τ'∧Rep X.K ρ2 st2 H'∧whileF t b m σ2 st2=.ok fl st',⟨n,ρ,σ,st,.refl _ _,a,rp,e⟩,?_⟩
 rintro m τ' H' ⟨ρ2,σ2,st2,x2,a2,rp2,e2⟩
 cases m with
 | zero=>unfold whileF at e2;cases e2
 | succ m =>
  unfold whileF at e2
  obtain ⟨x,st3,e3,e4⟩:=zb e2
  refine ⟨ρ2,σ2,st2,x,st3,a2,rp2,e3,fun ρ3 H3 x3 rp3=>?_⟩
  have X3:=x2.trans x3
  cases x with
  | false =>
   rw[if_neg (by decide)] at e4
   cases e4
   exact iteF (q _ _ _ X3 rp3 (a2.ext x3))
  | true =>
   rw[if_pos rfl] at e4
   refine iteT ⟨fun τ4 H4=>∃ρ4 σ4 st4,Ext ρ H ρ4 H4∧AtS X.K ρ4 H4 σ4 τ4∧Rep X.K ρ4 st4 H4∧whileF t b m σ4 st4=.ok fl st',fun τ4 H4 hh=>⟨m,Nat.lt_succ_self m,hh⟩,?_⟩
   cases hr:b σ2 st3 with
   | stuck=>rw[hr] at e4;cases e4
   | exc z w=>rw[hr] at e4;cases e4
   | ok fb st5 =>
    rw[hr] at e4
    refine ⟨ρ3,σ2,st3,fb,st5,a2.ext x3,rp3,hr,?_⟩
    cases fb with
    | nx σ3=>exact fun ρ' H'' τ5 x5 rp5 a5=>⟨ρ',σ3,st5,X3.trans x5,a5,rp5,e4⟩
    | ct σ3=>exact fun ρ' H'' τ5 x5 rp5 a5=>⟨ρ',σ3,st5,X3.trans x5,a5,rp5,e4⟩
    | brk σ3 =>
     dsimp only at e4
     cases e4
     exact fun ρ' H'' τ5 x5 rp5 a5=>q _ _ _ (X3.trans x5) rp5 a5
    | ret v =>
     dsimp only at e4
     cases e4
     exact fun ρ' H'' u x5 rp5 a5=>q _ _ _ (X3.trans x5) rp5 a5
end
noncomputable def compF (bd:SG) (c:ST) (f:SE):List D→DS→Store→Res (List D)
 | [],_,st=>.ok [] st
 | x::xs,σ,st=>match bd x σ with
  | none=>.stuck
  | some σ1=>(c σ1 st).bind fun b st1=>if b=true then (f σ1 st1).bind fun y st2=>(compF bd c f xs σ1 st2).bind fun ys st3=>.ok (y::ys) st3 else compF bd c f xs σ1 st1
noncomputable def startD (k:Nat) (is:List Nat) (σ:DS):DS:=List.replicate k none++is.map fun i=>(σ[i]?).getD none
noncomputable def eComp (it:SA) (k:Nat) (is:List Nat) (bd:SG) (c:ST) (f:SE):SE:=fun σ st=>(it σ st).bind fun xs st1=>if xs.length≤sizeLine then (compF bd c f xs (startD k is σ) st1).bind fun ys st2=>.ok (.lst ys) st2 else .stuck
noncomputable def bYes:ST:=fun _ st=>.ok true st
theorem AtS.start {K:PySem.W.Frag} {ρ:Loc} {H:Hp} {σ:DS} {τ:St} (h:AtS K ρ H σ τ) (k:Nat) (is:List Nat):AtS K ρ H (startD k is σ) (startC k is τ):=by
 have app:∀{a c:DS} {b d:St},AtS K ρ H a b→AtS K ρ H c d→AtS K ρ H (a++c) (b++d):=fun h1 h2=>by
  induction h1 with
  | nil=>exact h2
  | cons r t ih=>exact .cons r ih
 refine app ?_ ?_
 ·induction k with
  | zero=>exact .nil
  | succ k ih=>exact .cons (fun d e=>nomatch e) ih
 ·induction is with
  | nil=>exact .nil
  | cons i is ih =>
   refine .cons (fun d e=>?_) ih
   have e:(σ[i]?).getD none=some d:=e
   have e':σ[i]?=some (some d):=by
    cases q:σ[i]? with
    | none=>rw[q] at e;cases e
    | some o=>rw[q] at e;exact congrArg some e
   obtain ⟨u,hu,a⟩:=h.get e'
   exact ⟨u,by show (τ[i]?).getD none=some u;rw[hu];rfl,a⟩
noncomputable def Loc.with (ρ:Loc) (p:Addr):Loc:=⟨ρ.m,p::ρ.g⟩
mutual
theorem At.with {K:PySem.W.Frag} {ρ:Loc} {H:Hp} {p:Addr} {o:HO} (hp:H p=none):∀{d:D} {v:V},At K ρ H d v→At K (ρ.with p) (upd H p o) d v
 | _,_,.non=>.non
 | _,_,.bl b=>.bl b
 | _,_,.int i=>.int i
 | _,_,.str z=>.str z
 | _,_,.ty n=>.ty n
 | _,_,.exn h=>.exn (h.map fun b ob u e n=>⟨by rw[upd_ne (zg e hp)];exact e,n.1,fun z=>by
  rcases List.mem_cons.mp z with z | z
  ·exact zg e hp z
  ·exact n.2 z⟩)
 | _,_,.ref h e=>.ref h e
 | _,_,.tup h n al=>.tup (by rw[upd_ne (zg h hp)];exact h) ⟨n.1,fun z=>by
  rcases List.mem_cons.mp z with z | z
  ·exact zg h hp z
  ·exact n.2 z⟩ (AtAll.with hp al)
 | _,_,.lst h n al=>.lst (by rw[upd_ne (zg h hp)];exact h) ⟨n.1,fun z=>by
  rcases List.mem_cons.mp z with z | z
  ·exact zg h hp z
  ·exact n.2 z⟩ (AtAll.with hp al)
 | _,_,.scr h al=>.scr (by
  rcases h with ⟨h | ⟨ob,h⟩,n⟩ | h
  ·exact .inl ⟨.inl (by rw[upd_ne (zg h hp)];exact h),n.1,fun z=>by
    rcases List.mem_cons.mp z with z | z
    ·exact zg h hp z
    ·exact n.2 z⟩
  ·exact .inl ⟨.inr ⟨ob,by rw[upd_ne (zg h hp)];exact h⟩,n.1,fun z=>by
    rcases List.mem_cons.mp z with z | z
    ·exact zg h hp z
    ·exact n.2 z⟩
  ·exact .inr h) (AtAll.with hp al)
theorem AtAll.with {K:PySem.W.Frag} {ρ:Loc} {H:Hp} {p:Addr} {o:HO} (hp:H p=none):∀{d:List D} {v:List V},AtAll K ρ H d v→AtAll K (ρ.with p) (upd H p o) d v
 | _,_,.nil=>.nil
 | _,_,.cons a b=>.cons (At.with hp a) (AtAll.with hp b)
end
mutual
theorem At.grow {K:PySem.W.Frag} {ρ ρ':Loc} {H:Hp} {p:Addr} {o:HO} (hm:ρ'.m=ρ.m) (hg:p∈ρ.g) (hs:∀a,a∈ρ'.g→a∈ρ.g):∀{d:D} {v:V},At K ρ H d v→At K ρ' (upd H p o) d v
 | _,_,.non=>.non
 | _,_,.bl b=>.bl b
 | _,_,.int i=>.int i
 | _,_,.str z=>.str z
 | _,_,.ty n=>.ty n
 | _,_,.exn h=>.exn (h.map fun b ob u e n=>⟨by rw[upd_ne (by rintro rfl;exact n.2 hg)];exact e,by rw[hm];exact n.1,fun z=>n.2 (hs _ z)⟩)
 | _,_,.ref h e=>.ref (by rw[hm];exact h) (by rw[hm];exact e)
 | _,_,.tup h n al=>.tup (by rw[upd_ne (by rintro rfl;exact n.2 hg)];exact h) ⟨by rw[hm];exact n.1,fun z=>n.2 (hs _ z)⟩ (AtAll.grow hm hg hs al)
 | _,_,.lst h n al=>.lst (by rw[upd_ne (by rintro rfl;exact n.2 hg)];exact h) ⟨by rw[hm];exact n.1,fun z=>n.2 (hs _ z)⟩ (AtAll.grow hm hg hs al)
 | _,_,.scr h al=>.scr (by
  rcases h with ⟨h | ⟨ob,h⟩,n⟩ | h
  ·exact .inl ⟨.inl (by rw[upd_ne (by rintro rfl;exact n.2 hg)];exact h),by rw[hm];exact n.1,fun z=>n.2 (hs _ z)⟩
  ·exact .inl ⟨.inr ⟨ob,by rw[upd_ne (by rintro rfl;exact n.2 hg)];exact h⟩,by rw[hm];exact n.1,fun z=>n.2 (hs _ z)⟩
  ·exact .inr h) (AtAll.grow hm hg hs al)
theorem AtAll.grow {K:PySem.W.Frag} {ρ ρ':Loc} {H:Hp} {p:Addr} {o:HO} (hm:ρ'.m=ρ.m) (hg:p∈ρ.g) (hs:∀a,a∈ρ'.g→a∈ρ.g):∀{d:List D} {v:List V},AtAll K ρ H d v→AtAll K ρ' (upd H p o) d v
 | _,_,.nil=>.nil
 | _,_,.cons a b=>.cons (At.grow hm hg hs a) (AtAll.grow hm hg hs b)
end
theorem OAt.map {K:PySem.W.Frag} {ρ ρ':Loc} {H H':Hp} {a:Addr} {x:O} (k:∀d v,At K ρ H d v→At K ρ' H' d v) (same:H' a=H a) (h:OAt K ρ H x a):OAt K ρ' H' x a:=by
 have ka:∀{d:List D} {v:List V},AtAll K ρ H d v→AtAll K ρ' H' d v:=fun {d v} h=>by
  induction d generalizing v with
  | nil=>cases h;exact .nil
  | cons x xs ih=>cases h with | cons a b=>exact .cons (k _ _ a) (ih b)
 cases x with
 | lst xs=>obtain ⟨vs,q,r⟩:=h;exact ⟨vs,by rw[same];exact q,ka r⟩
 | dT kvs=>obtain ⟨vs,q,r⟩:=h;exact ⟨vs,by rw[same];exact q,Paired.mapP r fun p q z=>⟨z.1,k _ _ z.2⟩⟩
 | fT kvs=>obtain ⟨vs,ob,q,r⟩:=h;exact ⟨vs,ob,by rw[same];exact q,Paired.mapP r fun p q z=>⟨z.1,k _ _ z.2⟩⟩
 | dead=>exact h.elim
theorem Rep.with {K:PySem.W.Frag} {ρ:Loc} {st:Store} {H:Hp} {p:Addr} (r:Rep K ρ st H) (hp:H p=none) (vs:List V):Rep K (ρ.with p) st (upd H p (.lst vs)) :=
 ⟨r.len,r.inj,fun m b y e1 e2=>by
  have q:=r.obj m b y e1 e2
  obtain ⟨u,hu⟩:=q.has
  exact q.map (fun d v h=>h.with hp) (upd_ne (zg hu hp)),fun a ha=>by
  rcases List.mem_cons.mp ha with rfl | ha
  ·exact ⟨⟨vs,zr⟩,(zia r hp).1⟩
  ·obtain ⟨⟨ws,h1⟩,h2⟩:=r.gh a ha
   exact ⟨⟨ws,by rw[upd_ne (zg h1 hp)];exact h1⟩,h2⟩,r.live⟩
theorem Rep.grow {K:PySem.W.Frag} {ρ ρ':Loc} {st:Store} {H:Hp} {p:Addr} (r:Rep K ρ st H) (hm:ρ'.m=ρ.m) (hg:p∈ρ.g) (hs:∀a,a∈ρ'.g→a∈ρ.g) (vs:List V):Rep K ρ' st (upd H p (.lst vs)) :=
 ⟨by rw[hm];exact r.len,by rw[hm];exact r.inj,fun m b y e1 e2=>by
  rw[hm] at e1
  refine (r.obj m b y e1 e2).map (fun d v h=>h.grow hm hg hs) (upd_ne ?_)
  rintro rfl
  exact (r.gh b hg).2 (List.mem_of_getElem? e1),fun a ha=>by
  obtain ⟨⟨ws,h1⟩,h2⟩:=r.gh a (hs a ha)
  refine ⟨?_,by rw[hm];exact h2⟩
  by_cases e:a=p
  ·subst e;exact ⟨vs,zr⟩
  ·exact ⟨ws,by rw[upd_ne e];exact h1⟩,by rw[hm];exact r.live⟩
theorem AtS.map {K:PySem.W.Frag} {ρ ρ':Loc} {H H':Hp} {σ:DS} {τ:St} (k:∀d v,At K ρ H d v→At K ρ' H' d v) (h:AtS K ρ H σ τ):AtS K ρ' H' σ τ:=Paired.mapP h fun o v z d e=>by
 obtain ⟨u,e1,a⟩:=z d e
 exact ⟨u,e1,k _ _ a⟩
section
variable {X:Cx} {tg iter elt:Expr} {ifs:List Expr} {it:SA} {bd:SG} {c:ST} {f:SE} {N:List Str} {k:Nat} {is:List Nat} {scope:Scope} {pos:Pos}
theorem comp_t {K:PySem.W.Frag}:∀τ H Q,tD K (eComp it k is bd c f) τ H Q→tComp (iD K it) k is (gD K bd) (tDT K c) (tD K f) τ H Q:=fun τ H Q hq0=>by
 obtain ⟨ρ,σ,st,v,st',a,rp,e,q⟩:=hq0
 obtain ⟨xs,st1,e1,e⟩:=zb e
 split at e
 ·rename_i hlen
  obtain ⟨ys,st2,e2,e⟩:=zb e
  cases e
  refine ⟨ρ,σ,st,xs,st1,a,rp,e1,fun ρ1 H1 J x1 rp1 ok p hp=>?_⟩
  refine ⟨fun i m τ' H'=>i+m=xs.length∧∃ρ2 σ2 st3 acc accV zs,ExtG ρ1 H1 ρ2 H'∧ρ2.g=p::ρ1.g∧H' p=some (.lst accV)∧AtAll K ρ2 H' acc accV∧acc.length≤i∧AtS K ρ2 H' σ2 τ'∧Rep K ρ2 st3 H'∧compF bd c f (xs.drop i) σ2 st3=.ok zs st'∧acc++zs=ys,
   ⟨xs.length,by omega,ρ1.with p,startD k is σ,st1,[],[],ys,?_,rfl,zr,.nil,Nat.zero_le _,((a.ext x1).start k is).map fun d v h=>h.with hp,rp1.with hp [],e2,rfl⟩,?_⟩
  ·have E:Ext ρ1 H1 ρ1 (upd H1 p (.lst [])):=Ext.new hp _
   exact ⟨E.len,E.old,E.keep,fun a h=>by
    rcases List.mem_cons.mp h with rfl | h
    ·exact .inr hp
    ·exact .inl h,E.frz⟩
  rintro i m τ' H' ⟨him,ρ2,σ2,st3,acc,accV,zs,x2,hg,hpp,hal,hli,a2,rp2,e3,hac⟩
  have hpg:p∈ρ2.g:=by rw[hg];exact List.mem_cons_self
  rcases Nat.lt_or_ge i xs.length with hlt | hge
  ·obtain ⟨x,hx,hd⟩:=zse hlt
   rw[hd] at e3
   obtain ⟨go,yl⟩:=ok.item ρ2 H' x2 i x hx
   refine .inr ⟨go,fun τ4 H4=>∃ρ2 σ2 st3 acc accV zs,ExtG ρ1 H1 ρ2 H4∧ρ2.g=p::ρ1.g∧H4 p=some (.lst accV)∧AtAll K ρ2 H4 acc accV∧acc.length≤i+1∧AtS K ρ2 H4 σ2 τ4∧Rep K ρ2 st3 H4∧compF bd c f (xs.drop (i+1)) σ2 st3=.ok zs st'∧acc++zs=ys,
    fun τ4 H4 hh=>⟨m - 1,by omega,by omega,hh⟩,fun y H3 hy=>?_⟩
   obtain ⟨y1,y4⟩:=yl y H3 hy
   obtain ⟨y2,y3⟩:=y4 _ rp2
   unfold compF at e3
   cases hbd:bd x σ2 with
   | none=>rw[hbd] at e3;cases e3
   | some σ1 =>
    rw[hbd] at e3
    dsimp only at e3
    obtain ⟨bb,st4,e4,e5⟩:=zb e3
    refine ⟨ρ2,σ2,x,σ1,a2.ext y1,y3,hbd,fun τ4 a4=>?_⟩
    have hpm:some p∉ρ2.m:=(rp2.gh p hpg).2
    have hpp3:=(y1.keep p _ hpp hpm).1
    refine ⟨ρ2,σ1,st3,bb,st4,a4,y2,e4,fun ρ5 H5 x5 rp5=>?_⟩
    have hpp5:=(x5.keep p _ hpp3 hpm).1
    have hal5:=(hal.ext y1).ext x5
    have g5:ρ5.g=p::ρ1.g:=x5.gho.trans hg
    cases bb with
    | false =>
     rw[if_neg (by decide)] at e5
     exact iteF ⟨ρ5,σ1,st4,acc,accV,zs,(x2.then y1).then x5,g5,hpp5,hal5,by omega,a4.ext x5,rp5,e5,hac⟩
    | true =>
     rw[if_pos rfl] at e5
     obtain ⟨w,st6,e6,e7⟩:=zb e5
     obtain ⟨zs',st7,e8,e9⟩:=zb e7
     cases e9
     refine iteT ⟨ρ5,σ1,st4,w,st6,a4.ext x5,rp5,e6,fun ρ6 H6 u x6 rp6 a6=>?_⟩
     have hpm5:some p∉ρ5.m:=(x5.keep p _ hpp3 hpm).2
     have hpp6:=(x6.keep p _ hpp5 hpm5).1
     have g6:ρ6.g=p::ρ1.g:=x6.gho.trans g5
     have hp6:p∈ρ6.g:=by rw[g6];exact List.mem_cons_self
     have hl6:accV.length≤i:=by rw[hal.length];exact hli
     refine ⟨accV,hpp6,by have:i < sizeLine:=Nat.lt_of_lt_of_le hlt hlen;omega,ρ6,σ1,st6,acc++[w],accV++[u],zs',?_,g6,zr,?_,by rw[List.length_append];simp;omega,?_,rp6.grow rfl hp6 (fun _ h=>h) _,e8,by rw[← hac];simp⟩
     ·have G:=((x2.then y1).then x5).then x6
      refine ⟨G.len,G.old,fun b o e n=>?_,G.gho,fun b ob uu e=>?_⟩
      ·rw[upd_ne (zg e hp)]
       exact G.keep b o e n
      ·rw[upd_ne (zg e hp)]
       exact G.frz b ob uu e
     ·exact ((hal5.ext x6).append (.cons a6 .nil)).grow rfl hp6 (fun _ h=>h)
     ·exact (a4.ext (x5.trans x6)).map fun d v h=>h.grow rfl hp6 (fun _ h=>h)
  ·rw[List.drop_eq_nil_of_le hge] at e3
   unfold compF at e3
   cases e3
   refine .inl ⟨ok.done _ _ x2 i hge,?_⟩
   rw[List.append_nil] at hac
   subst hac
   have hpm:some p∉ρ2.m:=(rp2.gh p hpg).2
   have self:upd H' p (.lst accV)=H':=zsq hpp
   have sub:∀a,a∈(⟨ρ2.m,ρ1.g⟩:Loc).g→a∈ρ2.g:=fun b hb=>by rw[hg];exact List.mem_cons_of_mem _ hb
   have E:Ext ρ1 H1 ⟨ρ2.m,ρ1.g⟩ H':=⟨x2.len,x2.old,x2.keep,rfl,x2.frz⟩
   have R:=rp2.grow (ρ':=⟨ρ2.m,ρ1.g⟩) rfl hpg sub accV
   have L:=AtAll.grow (ρ:=ρ2) (ρ':=⟨ρ2.m,ρ1.g⟩) (o:=.lst accV) rfl hpg sub hal
   rw[self] at R L
   refine q _ _ _ (x1.trans E) R (.lst hpp ⟨hpm,fun z=>?_⟩ L)
   obtain ⟨⟨ws,h1⟩,_⟩:=rp1.gh p z
   rw[hp] at h1;cases h1
 ·cases e
theorem d_comp (hcalm:X.calm=true) (hi:DI X tg iter it) (hg:∀cl C fp s H,DG (cxC X N scope cl C fp s H) tg bd) (hc:∀cl C fp s H,PIf (cxC X N scope cl C fp s H) ifs (tDT X.K c)) (he:∀cl C fp s H,DE (cxC X N scope cl C fp s H) elt f)
 (S:CompScope X N k is scope) (hs:∀x,foldedSetIterable iter X.env x=pure x:=by intro _;rfl):DE X (.ListComp elt [⟨tg,iter,ifs,0⟩] scope pos) (eComp it k is bd c f):=pe_to (zwj hcalm hi hg hc he S hs) comp_t
theorem zxo {i:Nat} {x:Str} {pos' spos:Pos} (hcalm:X.calm=true) (hN:X.N.Nodup) (hxi:X.N[i]?=some x) (hx:L2.Loc X.env.scope x) (hi:DI X tg iter it) (hg:∀cl C fp s H,DG (cxC X N scope cl C fp s H) tg bd)
  (hc:∀cl C fp s H,PIf (cxC X N scope cl C fp s H) ifs (tDT X.K c)) (he:∀cl C fp s H,DE (cxC X N scope cl C fp s H) elt f) (S:CompScope X N k is scope)
  (hsw:swapsWith (.ListComp elt [⟨tg,iter,ifs,0⟩] scope pos) (some (.Name x pos')) spos.line X.env=pure true:=by rfl)
  (hf:X.fn x=true∨X.env.scope.names.lookup x=some .local:=by first | exact .inl rfl | exact .inr rfl | assumption)
  (hs:∀x,foldedSetIterable iter X.env x=pure x:=by intro _;rfl):DSt X (.Assign [.Name x pos'] (.ListComp elt [⟨tg,iter,ifs,0⟩] scope pos) spos) (sSet i (eComp it k is bd c f)) :=
 ps_to (zvv hcalm hN hxi hx hi hg hc he S hsw hf hs) fun E τ H h=>by
  obtain ⟨ρ,σ,st,fl,st',a,rp,e,q⟩:=h
  obtain ⟨v,st1,e1,e⟩:=zb e
  cases e
  exact comp_t τ H _ ⟨ρ,σ,st,v,_,a,rp,e1,fun ρ' H' u x r t=>q _ _ _ x r ((a.ext x).set t i)⟩
theorem zxx {X:Cx}:PIf X [] (tDT X.K bYes):=fun pins s σ H Q I hq0=>by
 obtain ⟨ρ,σ',st,v,st',a,rp,e,q⟩:=hq0
 cases e
 exact zwc pins s σ H Q I (q _ _ (.refl _ _) rp)
theorem zxw {X:Cx} {c:Expr} {t:ST} (h:DT X c t):PIf X [c] (tDT X.K t):=zwb h
end
end Dd
set_option maxHeartbeats 4000000
namespace Dd
open PySem L2 PyProof.Rows
noncomputable def spD (K:PySem.W.Frag) (np:Nat) (F:DFn):Sp:=fun vs H Q _=>∃ρ ds st v st',AtAll K ρ H ds vs∧Rep K ρ st H∧F ds st=.ok v st'∧vs.length=np∧∀ρ' H' u,Ext ρ H ρ' H'→Rep K ρ' st' H'→At K ρ' H' v u→Q u H'
noncomputable def CalD (P:Program) (w:World) (K:PySem.W.Frag) (mg:Str→Option Value) (base:Heap) (x:Str) (k:Nat) (ps:List Str) (F:DFn):Prop:=Callee P w K mg base x k ps (spD K ps.length F)
noncomputable def fnD (n np:Nat) (body:SS):DFn:=fun ds st=>if ds.length=np then (match body (ds.map some++List.replicate (n - np) none) st with
 | .ok (.ret v) st'=>.ok v st'
 | .ok (.nx _) st'=>.ok .non st'
 | .exc x st'=>.exc x st'
 | _=>.stuck) else .stuck
section
variable {X:Cx} {x:Str} {k:Nat} {ps:List Str} {F:DFn} {p pos:Pos} {e:Expr} {es:List Expr} {g:SA}
theorem call_t {K:PySem.W.Frag} {np:Nat} {f:SA} (hn:∀ds st v st',F ds st=.ok v st'→ds.length=np):∀τ H Q,tD K (eCall F f) τ H Q→tCall (spD K np F) [] E0 (tDA K f) τ H Q:=fun τ H Q hq0=>by
 obtain ⟨ρ,σ,st,v,st',a,rp,e,q⟩:=hq0
 obtain ⟨x,st1,e1,e⟩:=zb e
 refine ⟨ρ,σ,st,x,st1,a,rp,e1,fun ρ1 H1 u x1 rp1 a1=>?_⟩
 show spD K np F (u++[]) H1 Q E0
 rw[List.append_nil]
 exact ⟨ρ1,x,st1,v,st',a1,rp1,e,by rw[a1.length];exact hn _ _ _ _ e,fun ρ' H' w x2=>q ρ' H' w (x1.trans x2)⟩
theorem d_call (c : CalD X.prog X.w X.K X.mg X.base x k ps F) (hn : ∀ ds st v st', F ds st = .ok v st' → ds.length = ps.length) (hr : Room k X.A) (hg : Gl X x) (ha : DA X (e :: es) g) (hdb : (x == ("__debug__" : Str)) = false := by decide)
 (he:starEach (e::es) X.env=(false,eval e X.env)::starEach es X.env:=by rfl) (hpl:(backTo pos (starEach es X.env)).any (·.1)=false:=by rfl) :
 DE X (.Call (.Name x p) (e::es) [] pos) (eCall F g):=pe_to (zto c hr hg ha hdb he hpl) (call_t hn)
theorem zx {n np:Nat} {b:SS} {ds:List D} {st st':Store} {v:D} (h:fnD n np b ds st=.ok v st'):ds.length=np:=by
 unfold fnD at h
 split at h
 ·assumption
 ·cases h
end
theorem AtAll.some {K:PySem.W.Frag} {ρ:Loc} {H:Hp}:∀{ds:List D} {vs:List V},AtAll K ρ H ds vs→AtS K ρ H (ds.map Option.some) (vs.map Option.some)
 | _,_,.nil=>.nil
 | _,_,.cons a b=>.cons (fun d e=>by cases e;exact ⟨_,rfl,a⟩) (AtAll.some b)
theorem AtS.append {K:PySem.W.Frag} {ρ:Loc} {H:Hp}:∀{a c:DS} {b d:L2.St},AtS K ρ H a b→AtS K ρ H c d→AtS K ρ H (a++c) (b++d)
 | _,_,_,_,.nil,h=>h
 | _,_,_,_,.cons r t,h=>.cons r (AtS.append t h)
theorem AtS.nones {K:PySem.W.Frag} {ρ:Loc} {H:Hp}:∀n,AtS K ρ H (List.replicate n none) (List.replicate n none)
 | 0=>.nil
 | n+1=>.cons (fun d e=>nomatch e) (AtS.nones n)
theorem body_t {K:PySem.W.Frag} {N:List Str} {np:Nat} {b:SS} {vs:List V} {H:Hp} {Q:VK} {E:XK} (h:spD K np (fnD N.length np b) vs H Q E):tDS K b {nx:=fun _ H'=>Q .non H',rt:=Q} (L2.start N vs) H:=by
 obtain ⟨ρ,ds,st,v,st',a,rp,e,hl,q⟩:=h
 have hd:ds.length=np:=by rw[← a.length];exact hl
 unfold fnD at e
 rw[if_pos hd] at e
 have as:AtS K ρ H (ds.map Option.some++List.replicate (N.length - np) none) (L2.start N vs):=by
  unfold L2.start
  rw[hl]
  exact a.some.append (.nones _)
 refine ⟨ρ,ds.map Option.some++List.replicate (N.length - np) none,st,?_⟩
 cases hr:b (ds.map Option.some++List.replicate (N.length - np) none) st with
 | stuck=>rw[hr] at e;cases e
 | exc z w=>rw[hr] at e;cases e
 | ok fl st1 =>
  rw[hr] at e
  cases fl with
  | ret w =>
   dsimp only at e
   cases e
   exact ⟨.ret v,st',as,rp,rfl,fun ρ' H' u x r t=>q ρ' H' u x r t⟩
  | nx σ =>
   dsimp only at e
   cases e
   exact ⟨.nx σ,st',as,rp,rfl,fun ρ' H' τ x r t=>q ρ' H' .non x r .non⟩
  | brk σ=>cases e
  | ct σ=>cases e
theorem zyk {P:Program} {w:World} {K:PySem.W.Frag} {mg:Str→Option Value} {base h:Heap} {x:Str} {st:Stmt} {N ps:List Str} {k:Nat} {b:SS} (T:TopF K x st) (X:K.In h) (G:h.Ns mainGlobals mg) (S:FnScope N ps (defScope st))
  (bd:∀(kV doc pm:Value) (an:Option Addr) (cdv ct:Value) (us:List Value),us.length=ps.length→bindArgs (PySem.W.fnOf x x (defArgs st) (defBody st) (defScope st) .none kV doc pm an cdv ct) ⟨us,[]⟩=pure (ps.zip us))
  (hbody:∀(f:Addr) (cdv:Value) (A:Around) (outer:List Env) (s:Shared) (H:Hp) (E:XK),Room k (A.deeper (envOfC x (defScope st) s.heap.objs.size f cdv)) →
   DSs (cxOf CX0 P w K mg base N x (defScope st) f cdv A outer s H E).nox (defBody st) b):CalD P w K mg base x (k+1) ps (fnD N.length ps.length b) :=
 zrj T X G S bd (fun vs H Q E hh=>by obtain ⟨ρ,ds,st,v,st',a,rp,e,hl,q⟩:=hh;exact hl) fun f cdv A outer s H vs Q E hr hh=>⟨_,hbody f cdv A outer s H E hr,body_t hh⟩
noncomputable def spLaw (K:PySem.W.Frag):Sp:=fun vs H Q _=>∃(a:Addr) (ns:List Int),vs=[.ref a]∧SqL K H a (ns.map V.int)∧ns.length≤63∧∀H',Q (.bl true) H'
theorem law_ok {P : Program} {w : World} {K : PySem.W.Frag} {mg : Str → Option Value} {base : Heap} {st : Stmt} {N ps : List Str} {k : Nat} {b : SS} {f : Addr} {fd : FuncData} (F : Fun K "law" "law" st f fd) (S : FnScope N ps (defScope st)) (hp : ps.length = 1)
  (hbody : ∀ (cdv : Value) (A : Around) (outer : List Env) (s : Shared) (H : Hp) (E : XK), Room k (A.deeper (envOfC "law" (defScope st) s.heap.objs.size f cdv)) →
   DSs (cxOf CX0 P w K mg base N "law" (defScope st) f cdv A outer s H E).nox (defBody st) b)
  (holds:∀ns:List Int,ns.length≤63→∃st',fnD N.length 1 b [.scr (ns.map .int)] []=.ok (.bl true) st'):FnOk P w K mg base CX0 (k+1) f fd ps (spLaw K):=by
 refine F.ok S (fun vs H Q E hh=>?_) (fun cdv A outer s H vs Q E hr hh=>⟨_,hbody cdv A outer s H E hr,?_⟩)
 ·obtain ⟨a,ns,rfl,_⟩:=hh
  exact hp.symm
 ·obtain ⟨a,ns,rfl,hS,hl,q⟩:=hh
  obtain ⟨st',e⟩:=holds ns hl
  refine body_t (np:=1) (E:=E) ⟨⟨[],[]⟩,[.scr (ns.map .int)],[],_,st',.cons (.scr ?_ (zic ns)) .nil,⟨rfl,fun n m a e _=>by simp at e,fun n a o e _=>by simp at e,fun a h=>(by cases h),fun n o e _=>by simp at e⟩,e,rfl,fun ρ' H' u x r t=>?_⟩
  ·rcases hS with h | h
   ·exact .inl ⟨h,by simp[Out]⟩
   ·exact .inr fun H'=>.inr h
  ·cases t
   exact q H'
end Dd
set_option maxHeartbeats 4000000
namespace Dd
open PySem L2
noncomputable def oNeg:D→Store→Res D:=fun x st=>match x with
 | .int i=>.ok (.int (-i)) st
 | _=>.stuck
noncomputable def sStuck:SS:=fun _ _=>.stuck
noncomputable def tru (st:Store):D→Option Bool
 | .non=>some false
 | .bl b=>some b
 | .int i=>some (i != 0)
 | .tup xs=>some !xs.isEmpty
 | d=>(asL st d).map fun xs=>!xs.isEmpty
noncomputable def eTru (f:SE):ST:=fun σ st=>(f σ st).bind fun v st1=>match tru st1 v with
 | some b=>.ok b st1
 | none=>.stuck
theorem ziy {K:PySem.W.Frag} {ρ:Loc} {H:Hp} {ds:List D} {vs:List V} (h:AtAll K ρ H ds vs):ds.isEmpty=vs.isEmpty:=by
 cases h<;>rfl
theorem tru_at {K:PySem.W.Frag} {ρ:Loc} {st:Store} {H:Hp} (rp:Rep K ρ st H) {d:D} {u:V} {b:Bool} (a:At K ρ H d u) (e:tru st d=some b):TruV K u H b:=by
 unfold tru at e
 split at e
 ·cases a;cases e;exact rfl
 ·cases a;cases e;exact rfl
 ·cases a;cases e;exact rfl
 ·cases e
  cases a with
  | tup h1 h2 h3=>exact .inr (.inl ⟨_,SqT.of h1,by rw[ziy h3]⟩)
 ·obtain ⟨xs,h0,rfl⟩:=Option.map_eq_some_iff.mp e
  obtain ⟨p,vs,rfl,h1,h2⟩:=asL_at rp a h0
  exact .inl ⟨_,SqL.of h1,by rw[ziy h2]⟩
section
variable {X:Cx} {a b c e:Expr} {f f' f'':SE} {pos:Pos} {sm:Stmt}
theorem d_neg (h:DE X a f):DE X (.UnaryOp .USub a pos) (eUn oNeg f):=pe_to (pe_un un_neg h) fun τ H Q hq0=>by
 obtain ⟨ρ,σ,st,v,st',at',rp,e,q⟩:=hq0
 obtain ⟨x,st1,e1,e⟩:=zb e
 refine ⟨ρ,σ,st,x,st1,at',rp,e1,fun ρ1 H1 u x1 rp1 a1=>?_⟩
 cases x<;>try (cases e;done)
 cases e
 cases a1
 exact ⟨_,rfl,q _ _ _ x1 rp1 (.int _)⟩
theorem zum {op op':CmpOp} {r r':R2} {g g':D→D→Store→Res D} (ho:OpR X (compareOp op) r) (ho':OpR X (compareOp op') r') (hr:OpD X.K g r) (hr':OpD X.K g' r') (ha:DE X a f) (hb:DE X b f') (hc:DE X c f'')
 (hm:lastMarks [op,op'] [b,c]=false:=by with_unfolding_all rfl):DT X (.Compare a [op,op'] [b,c] pos) (eB (eChain g g' f f' f'')):=pt_to (ztc ho ho' ha hb hc hm) fun τ H Q h=>zyi hr hr' _ _ _ (eB_t _ _ _ h)
theorem zup:DSt X sm sStuck:=fun pins s σ H E I ⟨ρ,σ',st,fl,st',a,rp,e,q⟩=>by cases e
theorem dt_tru (h:DE X a f) (he:∀whole,isTrue a X.env whole=(do let v ← whole;standAt a.pos;holding [v] (truthy v)):=by intro _;rfl):DT X a (eTru f):=pt_to (ztb h he) fun τ H Q hq0=>by
 obtain ⟨ρ,σ,st,v,st',at',rp,e,q⟩:=hq0
 obtain ⟨x,st1,e1,e⟩:=zb e
 refine ⟨ρ,σ,st,x,st1,at',rp,e1,fun ρ1 H1 u x1 rp1 a1=>?_⟩
 split at e
 ·rename_i bb hb
  cases e
  exact ⟨_,tru_at rp1 a1 hb,q _ _ x1 rp1⟩
 ·cases e
end
end Dd
namespace Dd
open PySem PySem.Spec PyProof.Rows L2
noncomputable def numF:Int→List D→List D
 | _,[]=>[]
 | n,x::xs=>.tup [.int n,x]::numF (n+1) xs
noncomputable def iEnum (f:SE):SA:=fun σ st=>(f σ st).bind fun x st1=>match x with
 | .tup xs=>.ok (numF 1 xs) st1
 | _=>.stuck
theorem zkg:∀{xs:List D} {n:Int} {i:Nat} {d:D},(numF n xs)[i]?=some d→∃x,xs[i]?=some x∧d=.tup [.int (n+i),x]
 | [],_,_,_,h=>by simp[numF] at h
 | x::xs,n,0,d,h=>by
  simp[numF] at h
  exact ⟨x,rfl,by rw[← h];simp⟩
 | x::xs,n,i+1,d,h=>by
  simp only[numF,List.getElem?_cons_succ] at h
  obtain ⟨y,h1,h2⟩:=zkg h
  exact ⟨y,by simpa using h1,by rw[h2];congr 3;push_cast;omega⟩
theorem zfm:∀{xs:List D} {n:Int},(numF n xs).length=xs.length
 | [],_=>rfl
 | _::xs,n=>by simp[numF,zfm (xs:=xs)]
section
variable {X:Cx} {l:Expr} {f:SE} {elts:List Expr} {k j:Nat} {tpos p pos kpos cpos:Pos}
theorem zuq (hg : Gl X "enumerate") (hm : X.mg "enumerate" = none) (hl : DE X l f) (he : starEach [l] X.env = [(false, eval l X.env)] := by rfl) :
  DI X (.Tuple elts k tpos) (.Call (.Name "enumerate" p) [l] [⟨some "start", .Constant (.int 1) j cpos, kpos⟩] pos) (iEnum f) := pi_to (zti hg hm hl he) fun τ H R ⟨ρ, σ, st, xs, st', a, rp, e, q⟩ => by
 obtain ⟨x,st1,e1,e⟩:=zb e
 refine ⟨ρ,σ,st,x,st1,a,rp,e1,fun ρ1 H1 u x1 rp1 a1=>?_⟩
 split at e
 ·rename_i ys
  cases e
  cases a1 with
  | tup h1 h2 h3 =>
   refine ⟨_,rfl,⟨_,SqT.of h1⟩,q _ _ _ x1 rp1 ⟨fun ρ2 H2 x2 i d e=>?_,fun ρ2 H2 x2 i h=>?_⟩⟩
   ·obtain ⟨z,hz,rfl⟩:=zkg e
    obtain ⟨v,hv,av⟩:=h3.get hz
    refine ⟨⟨_,v,SqT.of (x2.out h1 h2).1,hv⟩,fun y H3 hy=>?_⟩
    obtain ⟨p,hp,rfl,hH⟩:=hy
    rw[hH _ _ (SqT.of (x2.out h1 h2).1) hv]
    refine ⟨Ext.new hp _,fun st rp2=>⟨rp2.new hp _,?_⟩⟩
    have e3:(1:Int)+(i:Int)=((i+1:Nat):Int):=by push_cast;omega
    rw[e3]
    exact At.newT rp2 hp (.cons (.int _) (.cons (av.extG x2) .nil))
   ·rw[zfm] at h
    exact ⟨_,SqT.of (x2.out h1 h2).1,by rw[h3.length];exact h⟩
 ·cases e
end
end Dd
set_option maxHeartbeats 4000000
namespace Dd
open PySem L2
noncomputable def bInt:List D→Store→Res D:=fun xs st=>match xs with
 | [.int i]=>.ok (.int i) st
 | [.bl k]=>.ok (.int (if k then 1 else 0)) st
 | _=>.stuck
theorem bInt_D {K:PySem.W.Frag}:CaD K bInt (fun xs H Q=>(∃i,xs=[.int i]∧Q (.int i) H)∨∃k,xs=[.bl k]∧Q (.int (if k then 1 else 0)) H):=fun ρ H st xs us z st' Q rp aa e q=>by
 unfold bInt at e
 split at e
 ·cases e
  obtain ⟨u,rfl,a⟩:=aa.one
  cases a
  exact .inl ⟨_,rfl,q _ _ _ (.refl _ _) rp (.int _)⟩
 ·cases e
  obtain ⟨u,rfl,a⟩:=aa.one
  cases a
  exact .inr ⟨_,rfl,q _ _ _ (.refl _ _) rp (.int _)⟩
 ·cases e
noncomputable def eCompM (it:SA) (k:Nat) (is:List Nat) (bd:SG) (c:ST) (f:SE):SE:=fun σ st=>(it σ st).bind fun xs st1=>if xs.length≤sizeLine then (compF bd c f xs (startD k is σ) st1).bind fun ys st2=>.ok (.ref st2.length) (st2++[.lst ys]) else .stuck
section
variable {X:Cx} {tg iter elt:Expr} {ifs:List Expr} {it:SA} {bd:SG} {c:ST} {f:SE} {N:List Str} {k:Nat} {is:List Nat} {scope:Scope} {pos:Pos}
end
end Dd
set_option maxHeartbeats 4000000
namespace Dd
open PySem L2
noncomputable def plainE:Expr→Bool
 | .Starred _ _=>false
 | _=>true
theorem zna {e:Expr} {es:List Expr} {env:Env} (h:plainE e=true):starEach (e::es) env=(false,eval e env)::starEach es env:=by
 cases e<;>first | rfl | cases h
theorem zut {X:Cx} {e:Expr} {es:List Expr} {f:SE} {g:SA} (ha:DE X e f) (hr:DA X es g) (hp:plainE e=true:=by rfl):DA X (e::es) (aCons f g):=zyb ha hr (zna hp)
noncomputable def bBest (gt:Bool):List D→Store→Res D:=fun xs st=>match xs with
 | [x]=>match (seqOf st x).bind asInts with
  | some (n::ns)=>.ok (.int (bestI gt n ns)) st
  | _=>.stuck
 | _=>.stuck
noncomputable def pairsF:List D→List D→List D
 | x::xs,y::ys=>.tup [x,y]::pairsF xs ys
 | _,_=>[]
noncomputable def iZipT (g:SA):SA:=fun σ st=>(g σ st).bind fun xs st1=>match xs with
 | [.tup a,.tup b]=>.ok (pairsF a b) st1
 | _=>.stuck
theorem ziq:∀{xs ys:List D} {i:Nat} {d:D},(pairsF xs ys)[i]?=some d→∃x y,xs[i]?=some x∧ys[i]?=some y∧d=.tup [x,y]
 | [],_,_,_,h=>by simp[pairsF] at h
 | _::_,[],_,_,h=>by simp[pairsF] at h
 | x::xs,y::ys,0,d,h=>by
  simp[pairsF] at h
  exact ⟨x,y,rfl,rfl,h.symm⟩
 | x::xs,y::ys,i+1,d,h=>by
  simp only[pairsF,List.getElem?_cons_succ] at h
  obtain ⟨x',y',h1,h2,h3⟩:=ziq h
  exact ⟨x',y',by simpa using h1,by simpa using h2,h3⟩
theorem zfs:∀{xs ys:List D},(pairsF xs ys).length=min xs.length ys.length
 | [],_=>by simp[pairsF]
 | _::_,[]=>by simp[pairsF]
 | _::xs,_::ys=>by simp[pairsF,zfs (xs:=xs) (ys:=ys)]
section
variable {X:Cx} {a b:Expr} {g:SA} {elts:List Expr} {k:Nat} {tpos p pos:Pos}
theorem di_zip (hg : Gl X "zip") (hm : X.mg "zip" = none) (ha : DA X [a, b] g) (hs : starEach [a, b] X.env = [(false, eval a X.env), (false, eval b X.env)] := by rfl) (hs2 : starEach [b] X.env = [(false, eval b X.env)] := by rfl) :
  DI X (.Tuple elts k tpos) (.Call (.Name "zip" p) [a, b] [] pos) (iZipT g) := pi_to (pi_zip hg hm ha hs hs2) fun τ H R ⟨ρ, σ, st, xs, st', a, rp, e, q⟩ => by
 obtain ⟨x,st1,e1,e⟩:=zb e
 refine ⟨ρ,σ,st,x,st1,a,rp,e1,fun ρ1 H1 u x1 rp1 a1=>?_⟩
 split at e
 ·rename_i as bs
  cases e
  obtain ⟨u1,u2,rfl,b1,b2⟩:=a1.two
  cases b1 with
  | tup h1 h2 h3 =>
   cases b2 with
   | tup k1 k2 k3 =>
    refine ⟨_,_,rfl,⟨_,SqT.of h1⟩,⟨_,SqT.of k1⟩,q _ _ _ x1 rp1 ⟨fun ρ2 H2 x2 i d e=>?_,fun ρ2 H2 x2 i h=>?_⟩⟩
    ·obtain ⟨x',y',ex,ey,rfl⟩:=ziq e
     obtain ⟨v1,hv1,av1⟩:=h3.get ex
     obtain ⟨v2,hv2,av2⟩:=k3.get ey
     refine ⟨⟨_,_,v1,v2,SqT.of (x2.out h1 h2).1,SqT.of (x2.out k1 k2).1,hv1,hv2⟩,fun y H3 hy=>?_⟩
     obtain ⟨p,hp,rfl,hH⟩:=hy
     rw[hH _ _ _ _ (SqT.of (x2.out h1 h2).1) (SqT.of (x2.out k1 k2).1) hv1 hv2]
     exact ⟨Ext.new hp _,fun st rp2=>⟨rp2.new hp _,At.newT rp2 hp (.cons (av1.extG x2) (.cons (av2.extG x2) .nil))⟩⟩
    ·rw[zfs] at h
     exact ⟨_,_,SqT.of (x2.out h1 h2).1,SqT.of (x2.out k1 k2).1,by rw[h3.length,k3.length];omega⟩
 ·cases e
end
noncomputable def sSetG (bd:SG) (f:SE):SS:=fun σ st=>(f σ st).bind fun v st1=>match bd v σ with
 | some σ1=>.ok (.nx σ1) st1
 | none=>.stuck
end Dd
set_option maxHeartbeats 4000000
namespace Dd
open PySem L2 PyProof.Rows
structure JE (X:Cx) (e:Expr) (f:SE):Prop where out:DE X e f
structure JT (X:Cx) (e:Expr) (f:ST):Prop where out:DT X e f
structure JW (X:Cx) (e:Expr) (f:ST):Prop where out:DW X e f
structure JA (X:Cx) (e:List Expr) (f:SA):Prop where out:DA X e f
structure JS (X:Cx) (s:Stmt) (f:SS):Prop where out:DSt X s f
structure JB (X:Cx) (s:List Stmt) (f:SS):Prop where out:DSs X s f
structure JO (X:Cx) (e:Option Expr) (f:DS→Store→Res (Option Int)):Prop where out:DO X e f
structure JG (X:Cx) (e:Expr) (b:SG):Prop where out:DG X e b
structure JGs (X:Cx) (e:List Expr) (b:List D→DS→Option DS):Prop where out:DGs X e b
structure JI (X:Cx) (tg iter:Expr) (f:SA):Prop where out:DI X tg iter f
structure JIf (X:Cx) (ifs:List Expr) (c:ST):Prop where out:PIf X ifs (tDT X.K c)
structure JC (X:Cx) (op:CmpOp) (a b:Expr) (f:SE):Prop where out:PC X op a b (tD X.K f)
theorem JW.pt {X:Cx} {e:Expr} {t:ST} (h:JW X e t):JT X e t:=⟨PW.pt h.out⟩
section
variable {X:Cx}
theorem d_varJ {e:Expr} {i:Nat} (h:PE X e (tVar i)):JE X e (eVar i):=⟨d_var h⟩
theorem d_conJ {e:Expr} {v:V} {d:D} (h:PE X e (tC v)) (k:∀ρ H,At X.K ρ H d v):JE X e (eC d):=⟨d_con h k⟩
theorem d_intJ {i j pos}:JE X (.Constant (.int i) j pos) (eC (.int i)):=⟨d_int⟩
theorem d_blJ {b j pos}:JE X (.Constant (.bool b) j pos) (eC (.bl b)):=⟨d_bl⟩
theorem d_nonJ {j pos}:JE X (.Constant .none j pos) (eC .non):=⟨d_non⟩
end
section
variable {X:Cx} {a b c:Expr} {f f' f'':SE} {pos:Pos}
theorem d_opJ {op:Operator} {r:R2} {g:D→D→Store→Res D} (ho:OpR X (binaryOp op) r) (hr:OpD X.K g r) (ha:JE X a f) (hb:JE X b f'):JE X (.BinOp a op b pos) (eOp g f f'):=⟨d_op ho hr ha.out hb.out⟩
theorem d_cmpJ {op:CmpOp} {r:R2} {g:D→D→Store→Res D} (ho:OpR X (compareOp op) r) (hr:OpD X.K g r) (ha:JE X a f) (hb:JE X b f') (hm:behindInMarks op b=false):JE X (.Compare a [op] [b] pos) (eOp g f f'):=⟨d_cmp ho hr ha.out hb.out hm⟩
theorem zce {op:CmpOp} {r:R2} {g:D→D→Store→Res D} (ho:OpR X (compareOp op) r) (hr:OpD X.K g r) (ha:JE X a f) (hb:JE X b f') (hm:behindInMarks op b=false):JT X (.Compare a [op] [b] pos) (eB (eOp g f f')):=⟨dt_cmp ho hr ha.out hb.out hm⟩
end
section
variable {X:Cx} {a b:Expr} {rest:List Expr} {f f':SE} {t t':ST} {pos:Pos}
theorem d_oneJ {op} (h:JE X a f):JE X (.BoolOp op [a] pos) f:=⟨d_one h.out⟩
theorem d_orJ (ha:JE X a f) (hb:JE X (.BoolOp .Or (b::rest) pos) f'):JE X (.BoolOp .Or (a::b::rest) pos) (eOr f f'):=⟨d_or ha.out hb.out⟩
theorem d_notJ (ha:JE X a f):JE X (.UnaryOp .Not a pos) (eNot f):=⟨d_not ha.out⟩
theorem zja {op} (h:JT X a t) (hop:op=.And∨op=.Or):JW X (.BoolOp op [a] pos) t:=⟨dw_one h.out hop⟩
theorem zod (ha:JT X a t) (hb:JW X (.BoolOp .And (b::rest) pos) t'):JW X (.BoolOp .And (a::b::rest) pos) (bAnd t t'):=⟨dw_and ha.out hb.out⟩
theorem dw_orJ (ha:JT X a t) (hb:JW X (.BoolOp .Or (b::rest) pos) t'):JW X (.BoolOp .Or (a::b::rest) pos) (bOr t t'):=⟨dw_or ha.out hb.out⟩
theorem zoe (ha:JT X a t):JT X (.UnaryOp .Not a pos) (bNot t):=⟨dt_not ha.out⟩
end
section
variable {X:Cx} {e:Expr} {es:List Expr} {f:SE} {g:SA} {pos:Pos}
theorem zc :JA X [] aNil:=⟨da_nil⟩
theorem d_tupJ {x1} (h:JA X es g):JE X (.Tuple es x1 pos) (eTup g):=⟨d_tup h.out⟩
theorem d_lstJ (h:JA X es g):JE X (.List es pos) (eLst g):=⟨d_lst h.out⟩
theorem zfa (h:JA X es g):JE X (.List es pos) (eLstM g):=⟨d_lstM h.out⟩
end
section
variable {X:Cx} {a b e:Expr} {f f':SE} {pos:Pos} {lo hi:Option Expr} {l h:DS→Store→Res (Option Int)}
theorem zoj :JO X none pNone:=⟨zxv⟩
theorem zoi (he:JE X e f):JO X (some e) (pSome f):=⟨zxu he.out⟩
theorem d_ixJ (ha:JE X a f) (hb:JE X b f') (hs:PlainIx b):JE X (.Subscript a b pos) (eOp oIx f f'):=⟨d_ix ha.out hb.out hs⟩
theorem d_slJ {p2:Pos} (he:JE X e f) (hl:JO X lo l) (hu:JO X hi h):JE X (.Subscript e (.Slice lo hi none p2) pos) (eSl f l h):=⟨d_sl he.out hl.out hu.out⟩
end
section
variable {X:Cx} {x:Str} {p pos:Pos} {e:Expr} {es:List Expr} {f:SA} {id T:String} {r:List V→Hp→VK→Prop} {g:List D→Store→Res D}
theorem zn (hc : CallR X (.builtin id) r) (hr : CaD X.K g r) (hg : Gl X x) (hm : X.mg x = none) (hv : bootBuiltins x = some (.builtin id)) (ha : JA X (e :: es) f) (hn : x ≠ "__name__" := by decide) (hdb : (x == ("__debug__" : Str)) = false := by decide) (he : starEach (e :: es) X.env = (false, eval e X.env) :: starEach es X.env := by rfl) (hpl : (backTo pos (starEach es X.env)).any (·.1) = false := by rfl) : JE X (.Call (.Name x p) (e :: es) [] pos) (eCall g f) := ⟨zyg hc hr hg hm hv ha.out hn hdb he hpl⟩
theorem zbo (hc : CallR X (.type T) r) (hr : CaD X.K g r) (hg : Gl X x) (hm : X.mg x = none) (hv : bootBuiltins x = some (.type T)) (ha : JA X (e :: es) f) (hn : x ≠ "__name__" := by decide) (hdb : (x == ("__debug__" : Str)) = false := by decide) (he : starEach (e :: es) X.env = (false, eval e X.env) :: starEach es X.env := by rfl) (hpl : (backTo pos (starEach es X.env)).any (·.1) = false := by rfl) : JE X (.Call (.Name x p) (e :: es) [] pos) (eCall g f) := ⟨zuw hc hr hg hm hv ha.out hn hdb he hpl⟩
end
section
variable {X:Cx} {a b c o i e value f':Expr} {f g h:SE} {pos pos' apos cpos:Pos}
theorem zsh :JE X (.Dict [] [] pos) eDNew:=⟨d_dnew⟩
theorem pc_inJ (hu:X.A.units+1 < cLine) (hi:JE X i g) (ho:JE X o f):JC X .In i o (eOp (oDIn false) g f):=⟨pc_in hu hi.out ho.out⟩
theorem dt_inJ {op:CmpOp} {t:SE} (h:JC X op a b t) (h1:behindInMarks op b=false:=by first | exact nobehind _ (by decide) (by decide) | rfl):JT X (.Compare a [op] [b] pos) (eB t):=⟨dt_in h.out h1⟩
theorem zye (hu:X.A.units+1 < cLine) (ho:JE X o f) (hi:JE X i g) (hs:NoSl i):JE X (.Subscript o i pos) (eOp oDGet f g):=⟨d_dget hu ho.out hi.out hs⟩
theorem zuv (hu : X.A.units + 1 < cLine) (ho : JE X o f) (he : JE X e g) (hf : JE X f' h) (m : M2 X o "get" apos e f' cpos) : JE X (.Call (.Attribute o "get" apos) [e, f'] [] cpos) (eDGet2 f g h) := ⟨zyf hu ho.out he.out hf.out m⟩
theorem zyd (hu : X.A.units + 1 < cLine) (ho : JE X o f) (he : JE X e g) (m : M1 X o "pop" apos e cpos) : JE X (.Call (.Attribute o "pop" apos) [e] [] cpos) (eDPop f g) := ⟨d_dpop hu ho.out he.out m⟩
theorem zog (hu:X.A.units+1 < cLine) (ho:JE X o f) (hi:JE X i g) (hv:JE X value h) (hs:swapsWith value (some (.Subscript o i pos')) pos.line X.env=pure false):JS X (.Assign [.Subscript o i pos'] value pos) (sDPut f g h):=⟨zxq hu ho.out hi.out hv.out hs⟩
end
section
variable {X:Cx} {o e i value:Expr} {es:List Expr} {f g h:SE} {ga:SA} {pos apos cpos:Pos}
theorem zde (ho : JE X o f) (ha : JA X (e :: es) ga) (hbase : attributeBase o "append" X.env (eval o X.env) = eval o X.env := by rfl) (hfew : ((backTo cpos (starEach (e :: es) X.env)).all (fun x => !x.1) && (backToKw cpos (keywordEach [] X.env)).all (fun x => x.1.isSome)
 && decide ((e :: es).length + ([] : List Keyword).length + (if ([] : List Keyword).isEmpty then 0 else 1) < 30)) = true := by rfl) (hline : (apos.endLine == cpos.line) = true := by rfl) (hs : starEach (e :: es) X.env = (false, eval e X.env) :: starEach es X.env := by rfl) (hplain : (backTo cpos (starEach es X.env)).any (·.1) = false := by rfl) : JE X (.Call (.Attribute o "append" apos) (e :: es) [] cpos) (eAppend f ga) := ⟨zux ho.out ha.out hbase hfew hline hs hplain⟩
theorem zrf (ho : JE X o f) (ha : JA X (e :: es) ga) (hbase : attributeBase o "extend" X.env (eval o X.env) = eval o X.env := by rfl) (hfew : ((backTo cpos (starEach (e :: es) X.env)).all (fun x => !x.1) && (backToKw cpos (keywordEach [] X.env)).all (fun x => x.1.isSome)
 && decide ((e :: es).length + ([] : List Keyword).length + (if ([] : List Keyword).isEmpty then 0 else 1) < 30)) = true := by rfl) (hline : (apos.endLine == cpos.line) = true := by rfl) (hs : starEach (e :: es) X.env = (false, eval e X.env) :: starEach es X.env := by rfl) (hplain : (backTo cpos (starEach es X.env)).any (·.1) = false := by rfl) : JE X (.Call (.Attribute o "extend" apos) (e :: es) [] cpos) (eExtend f ga) := ⟨zuu ho.out ha.out hbase hfew hline hs hplain⟩
theorem d_popJ (ho : JE X o f) (hbase : attributeBase o "pop" X.env (eval o X.env) = eval o X.env := by rfl) (hline : (apos.endLine == cpos.line) = true := by rfl) : JE X (.Call (.Attribute o "pop" apos) [] [] cpos) (ePop f) := ⟨d_pop ho.out hbase hline⟩
theorem d_fzJ (ho:JE X o f):JE X o (eFz f):=⟨d_fz ho.out⟩
end
section
variable {X:Cx} {e c o i value:Expr} {sm:Stmt} {rest:List Stmt} {f g h:SE} {s t:SS} {b:ST} {pos pos':Pos}
theorem zdt :JB X [] sNx:=⟨ds_nil⟩
theorem zbd (he:JE X e f):JS X (.Return (some e) pos) (sRet f):=⟨ds_ret he.out⟩
theorem zbt (he:JE X e f) (hs:swapsWith e none pos.line X.env=pure false:=by rfl):JS X (.Expr e pos) (sDrop f):=⟨zxp he.out hs⟩
theorem zl {i:Nat} {x:Str} (hN:X.N.Nodup) (hi:X.N[i]?=some x) (hx:L2.Loc X.env.scope x) (he:JE X e f) (hs:swapsWith e (some (.Name x pos')) pos.line X.env=pure false:=by rfl) (hf:X.fn x=true∨X.env.scope.names.lookup x=some .local:=by first | exact .inl rfl | exact .inr rfl | assumption):JS X (.Assign [.Name x pos'] e pos) (sSet i f):=⟨ds_set hN hi hx he.out hs hf⟩
theorem zf (h1:JS X sm s):JB X [sm] s:=⟨ds_one h1.out⟩
theorem zd (h1:JS X sm s) (h2:JB X rest t):JB X (sm::rest) (sSeq s t):=⟨zxr h1.out h2.out⟩
theorem ds_ifJ {a' b':List Stmt} (hc:JT X c b) (ha:JB X a' s) (hb:JB X b' t):JS X (.If c a' b' pos) (sIf b s t):=⟨ds_if hc.out ha.out hb.out⟩
theorem zxs {i:Nat} {x:Str} {op:Operator} {ti:TIp} {g:D→D→Store→Res D} (hN:X.N.Nodup) (hi:X.N[i]?=some x) (hx:L2.Loc X.env.scope x) (he:JE X e f) (ho:PIp X op ti) (hr:IpD X.K g ti) (hf:X.fn x=true∨X.env.scope.names.lookup x=some .local:=by first | exact .inl rfl | exact .inr rfl | assumption):JS X (.AugAssign (.Name x pos') op e pos) (sAug i g f):=⟨ds_aug hN hi hx he.out ho hr hf⟩
theorem zlr (he:JE X value h) (ho:JE X o f) (hi:JE X i g) (ha:∀v,assign (.Subscript o i pos') X.env v=(do
 let ov ← holding [v] (eval o X.env)
 let iv ← holding [v,ov] (eval i X.env)
 standAt pos'
 holding [v,ov,iv] (setItem ov iv v)
 release [v,ov,iv] []):=by intro _;rfl) (hs:swapsWithSole [.Subscript o i pos'] value pos.line X.env=pure false:=by rfl) (hw:swappedStores [.Subscript o i pos'] value X.env=pure none:=by rfl) (h1:(assignEach [.Subscript o i pos'] X.env).map (·.2)=[assign (.Subscript o i pos') X.env]:=by rfl):JS X (.Assign [.Subscript o i pos'] value pos) (sSetIx f g h):=⟨zuo he.out ho.out hi.out ha hs hw h1⟩
end
section
variable {X:Cx} {pos:Pos} {e:Expr} {es:List Expr} {t:SG} {u:List D→DS→Option DS}
theorem ze {i:Nat} {x:Str} (hN:X.N.Nodup) (hi:X.N[i]?=some x) (hx:L2.Loc X.env.scope x) (hf:X.fn x=true∨X.env.scope.names.lookup x=some .local:=by first | exact .inl rfl | exact .inr rfl | assumption):JG X (.Name x pos) (gN i):=⟨zya hN hi hx hf⟩
theorem zbx :JGs X [] gsNil:=⟨zxz⟩
theorem zm (h1:JG X e t) (h2:JGs X es u) (hs:(assignEach (e::es) X.env).map (·.2)=assign e X.env::(assignEach es X.env).map (·.2):=by rfl):JGs X (e::es) (gsCons t u):=⟨zus h1.out h2.out hs⟩
theorem zdh {k:Nat} {n:Nat} (hc:X.calm=true) (h:JGs X es u) (hn:(assignEach es X.env).length=n:=by rfl) (hst:(assignEach es X.env).findIdx? (·.1)=none:=by rfl):JG X (.Tuple es k pos) (gT n u):=⟨dg_tup hc h.out hn hst⟩
end
section
variable {X:Cx} {tg l a b:Expr} {f:SE} {g:SA} {p pos:Pos}
theorem zbe (hl:JE X l f):JI X tg l (iSeq f):=⟨di_seq hl.out⟩
theorem zcf (hg : Gl X "range") (hm : X.mg "range" = none) (ha : JA X [a] g) (hs : starEach [a] X.env = [(false, eval a X.env)] := by rfl) : JI X tg (.Call (.Name "range" p) [a] [] pos) (iR1 g) := ⟨zqz hg hm ha.out hs⟩
theorem zgv (hg : Gl X "range") (hm : X.mg "range" = none) (ha : JA X [a, b] g) (hs : starEach [a, b] X.env = [(false, eval a X.env), (false, eval b X.env)] := by rfl) (hs2 : starEach [b] X.env = [(false, eval b X.env)] := by rfl) : JI X tg (.Call (.Name "range" p) [a, b] [] pos) (iR2 g) := ⟨zqy hg hm ha.out hs hs2⟩
end
section
variable {X:Cx} {tg l:Expr} {f:SE}
theorem zur (hl:JE X l f):JI X tg l (iDict f):=⟨zxy hl.out⟩
end
section
variable {X:Cx} {tg iter c:Expr} {body:List Stmt} {it:SA} {bd:SG} {b:SS} {t:ST} {pos:Pos}
theorem zba (hp:PassesOwn (model X.prog X.w) X.A X.env X.xe) (hc:X.calm=true) (hi:JI X tg iter it) (hg:JG X tg bd) (hb:JB X body b) (hs:∀x,foldedSetIterable iter X.env x=pure x:=by intro _;rfl):JS X (.For tg iter body [] pos) (sFor it bd b):=⟨ds_for hp hc hi.out hg.out hb.out hs⟩
theorem zgb (hp:PassesOwn (model X.prog X.w) X.A X.env X.xe) (hc:JT X c t) (hb:JB X body b):JS X (.While c body [] pos) (sWhile t b):=⟨zun hp hc.out hb.out⟩
end
section
variable {X:Cx} {tg iter elt:Expr} {ifs:List Expr} {it:SA} {bd:SG} {c:ST} {f:SE} {N:List Str} {k:Nat} {is:List Nat} {scope:Scope} {pos:Pos}
theorem zdu (hcalm:X.calm=true) (hi:JI X tg iter it) (hg:∀cl C fp s H,JG (cxC X N scope cl C fp s H) tg bd) (hc:∀cl C fp s H,JIf (cxC X N scope cl C fp s H) ifs c) (he:∀cl C fp s H,JE (cxC X N scope cl C fp s H) elt f) (S:CompScope X N k is scope) (hs:∀x,foldedSetIterable iter X.env x=pure x:=by intro _;rfl):JE X (.ListComp elt [⟨tg,iter,ifs,0⟩] scope pos) (eComp it k is bd c f):=⟨d_comp hcalm hi.out (fun cl C fp s H=>(hg cl C fp s H).out) (fun cl C fp s H=>(hc cl C fp s H).out) (fun cl C fp s H=>(he cl C fp s H).out) S hs⟩
theorem zof {i:Nat} {x:Str} {pos' spos:Pos} (hcalm:X.calm=true) (hN:X.N.Nodup) (hxi:X.N[i]?=some x) (hx:L2.Loc X.env.scope x) (hi:JI X tg iter it) (hg:∀cl C fp s H,JG (cxC X N scope cl C fp s H) tg bd) (hc:∀cl C fp s H,JIf (cxC X N scope cl C fp s H) ifs c) (he:∀cl C fp s H,JE (cxC X N scope cl C fp s H) elt f) (S:CompScope X N k is scope) (hsw:swapsWith (.ListComp elt [⟨tg,iter,ifs,0⟩] scope pos) (some (.Name x pos')) spos.line X.env=pure true:=by rfl) (hf:X.fn x=true∨X.env.scope.names.lookup x=some .local:=by first | exact .inl rfl | exact .inr rfl | assumption) (hs:∀x,foldedSetIterable iter X.env x=pure x:=by intro _;rfl):JS X (.Assign [.Name x pos'] (.ListComp elt [⟨tg,iter,ifs,0⟩] scope pos) spos) (sSet i (eComp it k is bd c f)):=⟨zxo hcalm hN hxi hx hi.out (fun cl C fp s H=>(hg cl C fp s H).out) (fun cl C fp s H=>(hc cl C fp s H).out) (fun cl C fp s H=>(he cl C fp s H).out) S hsw hf hs⟩
theorem zcu {X:Cx}:JIf X [] bYes:=⟨zxx⟩
theorem zkj {X:Cx} {c:Expr} {t:ST} (h:JT X c t):JIf X [c] t:=⟨zxw h.out⟩
end
section
variable {X:Cx} {x:Str} {k:Nat} {ps:List Str} {F:DFn} {p pos:Pos} {e:Expr} {es:List Expr} {g:SA}
theorem zy (c : CalD X.prog X.w X.K X.mg X.base x k ps F) (hn : ∀ ds st v st', F ds st = .ok v st' → ds.length = ps.length) (hr : Room k X.A) (hg : Gl X x) (ha : JA X (e :: es) g) (hdb : (x == ("__debug__" : Str)) = false := by decide) (he : starEach (e :: es) X.env = (false, eval e X.env) :: starEach es X.env := by rfl) (hpl : (backTo pos (starEach es X.env)).any (·.1) = false := by rfl) : JE X (.Call (.Name x p) (e :: es) [] pos) (eCall F g) := ⟨d_call c hn hr hg ha.out hdb he hpl⟩
end
section
theorem zbb {P:Program} {w:World} {K:PySem.W.Frag} {mg:Str→Option Value} {base h:Heap} {x:Str} {st:Stmt} {N ps:List Str} {k:Nat} {b:SS} (T:TopF K x st) (X:K.In h) (G:h.Ns mainGlobals mg) (S:FnScope N ps (defScope st)) (bd:∀(kV doc pm:Value) (an:Option Addr) (cdv ct:Value) (us:List Value),us.length=ps.length→bindArgs (PySem.W.fnOf x x (defArgs st) (defBody st) (defScope st) .none kV doc pm an cdv ct) ⟨us,[]⟩=pure (ps.zip us)) (hbody:∀(f:Addr) (cdv:Value) (A:Around) (outer:List Env) (s:Shared) (H:Hp) (E:XK),Room k (A.deeper (envOfC x (defScope st) s.heap.objs.size f cdv)) →
 JB (cxOf CX0 P w K mg base N x (defScope st) f cdv A outer s H E).nox (defBody st) b):CalD P w K mg base x (k+1) ps (fnD N.length ps.length b):=zyk T X G S bd (fun f cdv A outer s H E rr=>(hbody f cdv A outer s H E rr).out)
end
section
theorem zxg {P : Program} {w : World} {K : PySem.W.Frag} {mg : Str → Option Value} {base : Heap} {st : Stmt} {N ps : List Str} {k : Nat} {b : SS} {f : Addr} {fd : FuncData} (F : Fun K "law" "law" st f fd) (S : FnScope N ps (defScope st)) (hp : ps.length = 1) (hbody : ∀ (cdv : Value) (A : Around) (outer : List Env) (s : Shared) (H : Hp) (E : XK), Room k (A.deeper (envOfC "law" (defScope st) s.heap.objs.size f cdv)) →
 JB (cxOf CX0 P w K mg base N "law" (defScope st) f cdv A outer s H E).nox (defBody st) b) (holds : ∀ ns : List Int, ns.length ≤ 63 → ∃ st', fnD N.length 1 b [.scr (ns.map .int)] [] = .ok (.bl true) st') : FnOk P w K mg base CX0 (k + 1) f fd ps (spLaw K) := law_ok F S hp (fun cdv A outer s H E rr => (hbody cdv A outer s H E rr).out) holds
end
section
variable {X:Cx} {a b c e:Expr} {f f' f'':SE} {pos:Pos} {sm:Stmt}
theorem d_negJ (h:JE X a f):JE X (.UnaryOp .USub a pos) (eUn oNeg f):=⟨d_neg h.out⟩
theorem zqw {op op':CmpOp} {r r':R2} {g g':D→D→Store→Res D} (ho:OpR X (compareOp op) r) (ho':OpR X (compareOp op') r') (hr:OpD X.K g r) (hr':OpD X.K g' r') (ha:JE X a f) (hb:JE X b f') (hc:JE X c f'') (hm:lastMarks [op,op'] [b,c]=false:=by with_unfolding_all rfl):JT X (.Compare a [op,op'] [b,c] pos) (eB (eChain g g' f f' f'')):=⟨zum ho ho' hr hr' ha.out hb.out hc.out hm⟩
theorem zqx :JS X sm sStuck:=⟨zup⟩
theorem zgt (h:JE X a f) (he:∀whole,isTrue a X.env whole=(do let v ← whole;standAt a.pos;holding [v] (truthy v)):=by intro _;rfl):JT X a (eTru f):=⟨dt_tru h.out he⟩
end
section
variable {X:Cx} {l:Expr} {f:SE} {elts:List Expr} {k j:Nat} {tpos p pos kpos cpos:Pos}
theorem zra (hg : Gl X "enumerate") (hm : X.mg "enumerate" = none) (hl : JE X l f) (he : starEach [l] X.env = [(false, eval l X.env)] := by rfl) : JI X (.Tuple elts k tpos) (.Call (.Name "enumerate" p) [l] [⟨some "start", .Constant (.int 1) j cpos, kpos⟩] pos) (iEnum f) := ⟨zuq hg hm hl.out he⟩
end
section
variable {X:Cx} {tg iter elt:Expr} {ifs:List Expr} {it:SA} {bd:SG} {c:ST} {f:SE} {N:List Str} {k:Nat} {is:List Nat} {scope:Scope} {pos:Pos}
end
section
theorem za {X:Cx} {e:Expr} {es:List Expr} {f:SE} {g:SA} (ha:JE X e f) (hr:JA X es g) (hp:plainE e=true:=by rfl):JA X (e::es) (aCons f g):=⟨zut ha.out hr.out hp⟩
end
section
variable {X:Cx} {a b:Expr} {g:SA} {elts:List Expr} {k:Nat} {tpos p pos:Pos}
theorem zsf (hg : Gl X "zip") (hm : X.mg "zip" = none) (ha : JA X [a, b] g) (hs : starEach [a, b] X.env = [(false, eval a X.env), (false, eval b X.env)] := by rfl) (hs2 : starEach [b] X.env = [(false, eval b X.env)] := by rfl) : JI X (.Tuple elts k tpos) (.Call (.Name "zip" p) [a, b] [] pos) (iZipT g) := ⟨di_zip hg hm ha.out hs hs2⟩
end
section
end
end Dd
set_option maxHeartbeats 4000000
namespace L2
open PySem PySem.Spec PyProof.Rows
section
variable {prog:Program} {w:World} {A:Around} {R:Result→Shared→Prop} {I:Addr} {fp wr:List Addr} {n:Nat} {P:Nat→Value→Prop} {St:Nat→Heap→Prop}
end
section
variable {prog:Program} {w:World} {A:Around} {E:Value→Shared→Prop} {s:Shared}
end
section
variable {X:Cx} {p pos cpos kpos:Pos} {l:Expr} {t:TA} {d:Int} {j:Nat}
end
end L2
set_option maxHeartbeats 4000000
namespace L2
open PySem PySem.Spec PyProof.Rows
section
open PySem.AutoSeq1
end
end L2
set_option maxHeartbeats 4000000
namespace Dd
open PySem L2
section
variable {X:Cx} {p pos cpos kpos:Pos} {l:Expr} {f:SA} {d:Int} {j:Nat}
end
section
variable {X:Cx} {o e:Expr} {es:List Expr} {f:SE} {ga:SA} {apos cpos:Pos}
end
end Dd
set_option maxHeartbeats 4000000
namespace L2
open PySem PySem.Spec PyProof.Rows
section
variable {X:Cx}
end
theorem ziv : fillsNumberSlot (.type "tuple") "mul" = pure false :=
 PySem.fillsNumberSlot_seq (id := "tuple.__mul__") (r := some (.builtin "tuple.__rmul__")) F.slot_tuple_mul.lookup (by decide +kernel) F.slot_tuple_rmul.lookup (by decide +kernel)
theorem zvq : seqRepeat? (.type "tuple") = pure (some (.builtin "tuple.__mul__")) := by
 unfold seqRepeat?
 rw [PySem.seqSlot_of (T := "tuple") (name := "__mul__") (id := "tuple.__mul__") F.slot_tuple_mul.lookup (by decide +kernel), PySem.seqSlot_of (T := "tuple") (name := "__rmul__") (id := "tuple.__rmul__") F.slot_tuple_rmul.lookup (by decide +kernel)]
 rfl
theorem zsy (a:Int) (t:Tok) (l:Addr) (items:Array Value) (n:Nat) (dd:Option Addr) (sl:Array (Option Value)) :
  Meets (Builtin.«int.__rmul__» ⟨[.int a t, .ref l], []⟩) (fun _ R s => s.heap.get? l = some { cls := .type "tuple", dict := dd, data := .seq items n, slots := sl } ∧ R (.ok (.ret Value.notImplemented)) s) :=
 .of_wp fun prog w A R s h=>by
  obtain ⟨hp,g,d,tk,os⟩:=s
  obtain ⟨hl,h⟩:=h
  wp_walk
  exact ⟨_,rfl,h⟩
theorem nb {b:Bool} (h:b=false):decide (b=true)=false:=by rw[h];rfl
section
open PySem.AutoSeq1
variable (l:Addr) (items:Array Value) (n:Nat) (dd:Option Addr) (sl:Array (Option Value)) (x:Int) (u:Tok)
theorem zqh (lo:-1000000≤x) (hx:x≤0) (ne:items.isEmpty=false) :
  Meets (Builtin.«tuple.__mul__» ⟨[.ref l, .int x u], []⟩) (fun _ R s => s.heap.get? l = some { cls := .type "tuple", dict := dd, data := .seq items n, slots := sl } ∧ R (.ok (.ret (.ref s.heap.objs.size))) { s with heap := s.heap.push { cls := .type "tuple", data := .seq #[] } }) :=
 .of_wp fun prog w A R s h=>by
  obtain ⟨hp,g,d,tk,os⟩:=s
  obtain ⟨hl,h⟩:=h
  wp_walk
  try
   refine wpAny_ite_false ?c1 ?_
   case c1=>exact nb (by rw[Bool.or_eq_false_iff];exact ⟨decide_eq_false (by omega),decide_eq_false (by omega)⟩)
   wp_walk
  try
   refine wpAny_ite_false ?c1 ?_
   case c1=>exact nb (by rw[Bool.or_eq_false_iff];exact ⟨ne,beq_false_of_ne (by omega)⟩)
   wp_walk
  try
   refine wpAny_ite_true ?c1 ?_
   case c1=>exact yb (by rw[Bool.or_eq_true];exact .inl (decide_eq_true hx))
   wp_walk
  exact ⟨_,rfl,h⟩
theorem ztx (hx:x=1) :
  Meets (Builtin.«tuple.__mul__» ⟨[.ref l, .int x u], []⟩) (fun _ R s => s.heap.get? l = some { cls := .type "tuple", dict := dd, data := .seq items n, slots := sl } ∧ R (.ok (.ret (.ref l))) s) :=
 .of_wp fun prog w A R s h=>by
  obtain ⟨hp,g,d,tk,os⟩:=s
  obtain ⟨hl,h⟩:=h
  wp_walk
  try
   refine wpAny_ite_false ?c1 ?_
   case c1=>exact nb (by rw[Bool.or_eq_false_iff];exact ⟨decide_eq_false (by omega),decide_eq_false (by omega)⟩)
   wp_walk
  try
   refine wpAny_ite_true ?c1 ?_
   case c1=>exact yb (by rw[Bool.or_eq_true];exact .inr (by rw[hx];rfl))
   wp_walk
  exact ⟨_,rfl,h⟩
theorem zqi (hx:2≤x) (hi:x≤1000000) (ne:items.isEmpty=false) (hz:((items.size:Nat):Int) * x≤1000000) (c4:Builtin.Tuple.tupleTooMany (((items.size:Nat):Int) * x)=false)
  (hsz:(List.foldl (fun x1 x2=>x1++x2) #[] (List.replicate x.toNat items)).size≤sizeLine) :
  Meets (Builtin.«tuple.__mul__» ⟨[.ref l, .int x u], []⟩) (fun _ R s => s.heap.get? l = some { cls := .type "tuple", dict := dd, data := .seq items n, slots := sl } ∧ R (.ok (.ret (.ref s.heap.objs.size))) { s with heap := s.heap.push { cls := .type "tuple", data := .seq (List.foldl (fun x1 x2 => x1 ++ x2) #[] (List.replicate x.toNat items)) } }) :=
 .of_wp fun prog w A R s h=>by
  obtain ⟨hp,g,d,tk,os⟩:=s
  obtain ⟨hl,h⟩:=h
  wp_walk
  try
   refine wpAny_ite_false ?c1 ?_
   case c1=>exact nb (by rw[Bool.or_eq_false_iff];exact ⟨decide_eq_false (by omega),decide_eq_false (by omega)⟩)
   wp_walk
  try
   refine wpAny_ite_false ?c1 ?_
   case c1=>exact nb (by rw[Bool.or_eq_false_iff];exact ⟨ne,beq_false_of_ne (by omega)⟩)
   wp_walk
  try
   refine wpAny_ite_false ?c1 ?_
   case c1=>exact nb (by rw[Bool.or_eq_false_iff];exact ⟨decide_eq_false (by omega),ne⟩)
   wp_walk
  try
   refine wpAny_ite_false ?c1 ?_
   case c1=>exact decide_eq_false (by omega)
   wp_walk
  try
   refine wpAny_ite_false ?c1 ?_
   case c1=>exact nb c4
   wp_walk
  try (refine wpAny_ite_false (decide_eq_false (Nat.not_lt.mpr hsz)) ?_;wp_walk)
  exact ⟨_,rfl,h⟩
end
noncomputable def timesL {α:Type} (xs:List α) (n:Int):List α:=(List.replicate n.toNat xs).flatten
theorem ziz {α:Type} (xs:List α):∀(n:Nat) (acc:List α),(List.foldl (fun (x1 x2:Array α)=>x1++x2) acc.toArray (List.replicate n xs.toArray))=(acc++(List.replicate n xs).flatten).toArray
 | 0,acc=>by simp
 | n+1,acc=>by
  rw[List.replicate_succ,List.foldl_cons,List.replicate_succ,List.flatten_cons,← List.append_assoc,← ziz xs n (acc++xs)]
  congr 1
  simp
theorem Vals.times {xs:List V} {us:List Value} (r:Vals xs us):∀n:Nat,Vals (List.replicate n xs).flatten (List.replicate n us).flatten
 | 0=>.nil
 | n+1=>by
  rw[List.replicate_succ,List.flatten_cons,List.replicate_succ,List.flatten_cons]
  exact r.append (Vals.times r n)
noncomputable def rMulT (K:PySem.W.Frag):R2:=fun x y H Q=>∃t xs n,x=.ref t∧y=.int n∧SqT K H t xs∧xs≠[]∧-1000000≤n∧n≤1000000∧(xs.length:Int) * n≤1000000∧(n=1→Q (.ref t) H)∧(n≠1→∀p,H p=none→Q (.ref p) (upd H p (.tup (timesL xs n))))
theorem zhu {α:Type} (xs:List α):∀n:Nat,(List.replicate n xs).flatten.length=n * xs.length
 | 0=>by simp
 | n+1=>by rw[List.replicate_succ,List.flatten_cons,List.length_append,zhu xs n,Nat.succ_mul];omega
theorem zlc {X:Cx}:OpR X (binaryOp .Mult) (rMulT X.K):=by
 intro pins s σ H x y v u Q I r1 r2 h
 obtain ⟨t,xs,n,rfl,rfl,ht,ne,lo,hi,hz,q1,q2⟩:=h
 cases r1
 obtain ⟨tk,rfl⟩:=r2
 obtain ⟨its,r,⟨o,e,ty,m,dt⟩,z⟩:=I.tuple ht
 obtain ⟨cls,dd,data,sl⟩:=o
 dsimp only at ty dt
 subst ty dt
 have len:=r.length
 have ne':its.toArray.isEmpty=false:=by
  cases its with
  | nil=>cases r;exact absurd rfl ne
  | cons a l=>rfl
 have road : ∀ {Q' : Value → Shared → Prop}, wpAny (model X.prog X.w) X.A (call (.builtin "tuple.__mul__") [.ref t, .int n tk]) Q' X.xe s → wpAny (model X.prog X.w) X.A (binaryOp .Mult (.ref t) (.int n tk)) Q' X.xe s := fun {Q'} hq =>
  wpAny_binaryOp_repeat_ref (T := "tuple") (U := "int") (by decide) ⟨_, e, rfl⟩ (fun s' => typeIs_int s' n tk) ziv F.fills_int_mul F.slot_int_rmul zvq F.slot_int_index.lookup
   (call_meets F.slot_int_rmul (typeIs_int s n tk) F.entry_int_rmul (F.args_int_rmul_2 _ _) (zsy n tk t its.toArray m dd sl) ⟨e,rfl,⟨_,e,rfl⟩,hq⟩)
 refine road ?_
 by_cases c:n=1
 ·exact call_meets F.slot_tuple_mul ⟨_,e,rfl⟩ F.entry_tuple_mul (F.args_tuple_mul_2 _ _) (ztx t its.toArray m dd sl n tk c) ⟨e,.ref t,H,I,rfl,q1 c⟩
 have done : ∀ ts : List Value, Vals (timesL xs n) ts → (timesL xs n).length ≤ sizeLine → EP X pins σ Q (.ref s.heap.objs.size) { s with heap := s.heap.push { cls := .type "tuple", data := .seq ts.toArray } } := fun ts rt hl =>
  ⟨.ref s.heap.objs.size,_,I.laid (t':=s.toks) (o:=.tup (timesL xs n)) (fun b ob hb=>Heap.get?_push_of_some _ hb) (Nat.le_refl _) ⟨hl,ts,rt,IsTup.new s.heap _⟩,rfl,q2 c _ (I.hok.fresh (Nat.le_refl _))⟩
 have lenT:(timesL xs n).length=n.toNat * xs.length:=zhu xs n.toNat
 by_cases c2:n≤0
 ·refine call_meets F.slot_tuple_mul ⟨_,e,rfl⟩ F.entry_tuple_mul (F.args_tuple_mul_2 _ _) (zqh t its.toArray m dd sl n tk lo c2 ne') ⟨e,?_⟩
  have e0:timesL xs n=[]:=by unfold timesL;rw[show n.toNat=0 by omega];rfl
  exact done [] (by rw[e0];exact .nil) (by rw[e0];exact Nat.zero_le _)
 ·have hz2:n.toNat * xs.length≤1000000:=by
   have:((n.toNat * xs.length:Nat):Int)=(xs.length:Int) * n:=by rw[Int.natCast_mul,Int.toNat_of_nonneg (by omega),Int.mul_comm]
   omega
  have hsl:n.toNat * xs.length≤sizeLine:=by rw[sizeLine_eq];omega
  have ef:List.foldl (fun (x1 x2:Array Value)=>x1++x2) #[] (List.replicate n.toNat its.toArray)=((List.replicate n.toNat its).flatten).toArray:=by
   have:=ziz its n.toNat []
   simpa using this
  have zi:((its.toArray.size:Nat):Int) * n≤1000000:=by rw[List.size_toArray,← len];exact hz
  refine call_meets F.slot_tuple_mul ⟨_,e,rfl⟩ F.entry_tuple_mul (F.args_tuple_mul_2 _ _) (zqi t its.toArray m dd sl n tk (by omega) hi ne' zi (decide_eq_false (by rw[sizeLine_eq];omega)) (by rw[ef,List.size_toArray,zhu,← len];exact hsl)) ⟨e,?_⟩
  rw[ef]
  exact done _ (r.times n.toNat) (by rw[lenT];exact hsl)
end L2
namespace Dd
open PySem L2 PyProof.Rows
noncomputable abbrev oOrI:=oI (fun _ _=>True) fun i j=>.int (Builtin.bitOr i j)
noncomputable def oMulT (x y:D) (st:Store):Res D:=match x,y with
 | .tup xs,.int n=>if xs≠[]∧-1000000≤n∧n≤1000000∧(xs.length:Int) * n≤1000000 then .ok (.tup (timesL xs n)) st else .stuck
 | _,_=>.stuck
theorem AtAll.times {K:PySem.W.Frag} {ρ:Loc} {H:Hp} {ds:List D} {vs:List V} (h:AtAll K ρ H ds vs):∀n:Nat,AtAll K ρ H (List.replicate n ds).flatten (List.replicate n vs).flatten
 | 0=>.nil
 | n+1=>by
  rw[List.replicate_succ,List.flatten_cons,List.replicate_succ,List.flatten_cons]
  exact h.append (AtAll.times h n)
theorem zle {K:PySem.W.Frag}:OpD K oMulT (rMulT K):=fun ρ H st x y u v z st' Q rp a b e q=>by
 unfold oMulT at e
 split at e
 ·rename_i xs n
  split at e
  ·rename_i hs
   cases e
   cases b
   cases a with
   | tup h1 h2 h3 =>
    have hl:=h3.length
    refine ⟨_,_,n,rfl,rfl,SqT.of h1,fun z=>?_,hs.2.1,hs.2.2.1,by rw[hl];exact hs.2.2.2,fun z=>?_,fun z p hp=>?_⟩
    ·subst z
     cases h3
     exact hs.1 rfl
    ·subst z
     refine q _ _ _ (.refl _ _) rp ?_
     have e1:timesL xs 1=xs:=by simp[timesL]
     rw[e1]
     exact .tup h1 h2 h3
    ·exact q _ _ _ (Ext.new hp _) (rp.new hp _) (.newT rp hp (h3.times n.toNat))
  ·cases e
 ·cases e
end Dd
set_option maxHeartbeats 4000000
namespace L2
open PySem PySem.Spec PyProof.Rows PySem.W
section
variable {P:Program} {w:World} {B:Around} {sg:Shared}
end
end L2
namespace Dd
open PySem L2 PyProof.Rows
end Dd
namespace Dd
open PySem L2 PyProof.Rows
end Dd
set_option maxHeartbeats 4000000
namespace L2
open PySem PySem.Spec PyProof.Rows
end L2
namespace Dd
open PySem L2 PyProof.Rows
section
variable {X:Cx} {o e:Expr} {es:List Expr} {f:SE} {ga:SA} {apos cpos:Pos}
end
end Dd
namespace Dd
variable {α:Type} {motive:List α→Prop}
@[elab_as_elim] theorem len0 (us:List α) (hl:us.length=0) (h:motive []):motive us:=by rw[List.eq_nil_of_length_eq_zero hl];exact h
@[elab_as_elim] theorem lenS {n:Nat} (us:List α) (hl:us.length=n+1) (h:∀a us,us.length=n→motive (a::us)):motive us:=by
 cases us with
 | nil=>cases hl
 | cons a us=>exact h a us (Nat.succ.inj hl)
@[elab_as_elim] theorem len1 (us:List α) (hl:us.length=1) (h:∀a,motive [a]):motive us:=lenS us hl fun a us hl=>len0 us hl (h a)
@[elab_as_elim] theorem len2 (us:List α) (hl:us.length=2) (h:∀a b,motive [a,b]):motive us:=lenS us hl fun a us hl=>len1 us hl (h a)
@[elab_as_elim] theorem len3 (us:List α) (hl:us.length=3) (h:∀a b c,motive [a,b,c]):motive us:=lenS us hl fun a us hl=>len2 us hl (h a)
@[elab_as_elim] theorem len4 (us:List α) (hl:us.length=4) (h:∀a b c d,motive [a,b,c,d]):motive us:=lenS us hl fun a us hl=>len3 us hl (h a)
end Dd
namespace Dd
open PySem L2
end Dd
namespace L2
open PySem PySem.Spec PyProof.Rows
end L2
namespace Dd
open PySem L2 PyProof.Rows
end Dd
namespace L2
open PySem PySem.Spec PyProof.Rows
noncomputable def ItrD (hi:Int) (n:Nat):It where
 go:=fun i _=>i < n
 yld:=fun i H x H'=>H'=H∧x=.int (hi - i)
 stop:=fun i _=>n≤i
theorem zky (a b:Int):Builtin.Range.rangeSize a b (-1)=((a - b).toNat:Int):=by
 unfold Builtin.Range.rangeSize
 rw[if_neg (by decide)]
 simp only[Int.neg_neg,Int.ediv_one]
 split<;>omega
theorem znb {a b:Int} (ha:-(2 ^ 60)≤a) (ha':a < 2 ^ 60) (hb:-(2 ^ 60)≤b) (hb':b < 2 ^ 60):Builtin.Range.small a b (-1)=true:=by
 unfold Builtin.Range.small
 rw[zky]
 simp only[Builtin.Range.rangeFitsLong,Bool.and_eq_true,Bool.or_eq_true,decide_eq_true_eq,beq_iff_eq]
 refine ⟨by omega,Or.inr ?_⟩
 rw[if_neg (by decide),Bool.and_eq_true,decide_eq_true_iff,decide_eq_true_iff]
 omega
theorem zpn {P:Program} {w:World} {K:PySem.W.Frag} {tg:Expr} (it:Addr) (hi:Int) (n:Nat):Turn P w K tg (ItrD hi n) [it] it (fun i h=>IsRangeIter h it (hi+(i:Nat) * (-1)) ((n:Int) - (i:Nat)) (-1)) where
 mem:=List.mem_singleton.mpr rfl
 obj:=fun i h st b hb=>by
  cases List.mem_singleton.mp hb
  exact ⟨_,st,fun v z=>by cases (show Data.fields _=Data.cell v from z)⟩
 keep:=fun i h h' st k=>k it (List.mem_singleton.mpr rfl) _ st
 item:=by
  intro X hP hw hK hc i pins s σ H E I hf st hg
  subst hP hw hK
  obtain ⟨f0,f1,f2,f3,f4,f5⟩:=hf it (List.mem_singleton.mpr rfl)
  refine (Walks.range (prog:=X.prog) (w:=X.w) (I.ok.hd hc) it hi (-1) n).item i s _ _ hg st fun v h' tk hv st' kk=>?_
  obtain ⟨t,rfl⟩:=hv
  have J:Inv X pins σ H {s with heap:=h',toks:=tk}:=I.turned (fun b o hb e=>kk b o (by simpa using hb) e) f0 f1 f3 f4 f5
  exact ⟨_, rfl, go_of (s := { s with heap := h', toks := tk }) (n := "range_iterator") st' rfl rfl (by decide) ⟨.int (hi - i), H, J, ⟨t, by rw [Int.mul_neg, Int.mul_one]; rfl⟩, ⟨rfl, rfl⟩, st', fun b hb => (hf b hb).1⟩⟩
 done:=by
  intro X hP hw hK hc i pins s σ H E I hf st hg
  subst hP hw hK
  obtain ⟨f0,f1,f2,f3,f4,f5⟩:=hf it (List.mem_singleton.mpr rfl)
  have hg:n≤i:=hg
  exact wpAny_pyNext_range_end (I.ok.hd hc) st (by omega) fun h' eb=>⟨rfl,I.turned (t':=s.toks) (fun b o hb e=>eb b o hb e) f0 f1 f3 f4 f5⟩
 self:=fun _ _ _ _ _ st h=>wpAny_pyIter_rangeiter st h
noncomputable def iRngD (ta:TA):TI:=fun σ H R=>ta σ H fun vs H1=>∃i j:Int,vs=[.int i,.int j,.int (-1)]∧(-(2 ^ 60)≤i∧i < 2 ^ 60∧-(2 ^ 60)≤j∧j < 2 ^ 60)∧R (ItrD i (i - j).toNat) H1
section
variable {X:Cx} {tg:Expr}
theorem zxt {pins:List (Addr × Obj)} {σ:St} {H:Hp} {s:Shared} {R:It→Hp→Prop} {E:Value→Shared→Prop} {a b:Int} {t u v:Tok} {tk:Nat} (I:Inv X pins σ H s) (h:-(2 ^ 60)≤a∧a < 2 ^ 60∧-(2 ^ 60)≤b∧b < 2 ^ 60)
  (q : R (ItrD a (a - b).toNat) H) : wpAny (model X.prog X.w) X.A (pyIter (.ref s.heap.objs.size)) (PIE X pins σ tg R) E { s with heap := s.heap.push { cls := .type "range", data := .fields #[.int a t, .int b u, .int (-1) v] }, toks := tk } := by
 refine wpAny_pyIter_range (IsRange.new ..) (znb h.1 h.2.1 h.2.2.1 h.2.2.2) ?_
 have J : Inv X pins σ H { s with heap := s.heap.push { cls := .type "range", data := .fields #[.int a t, .int b u, .int (-1) v] }, toks := tk } := I.kept fun b o e => Heap.get?_push_of_some _ e
 refine ⟨_,[_],_,_,H,rfl,J.kept (t':=tk) fun b o e=>Heap.get?_push_of_some _ e,zpn _ a (a - b).toNat,?_,fun c hc=>?_,q⟩
 ·show IsRangeIter _ _ (a+((0:Nat):Int) * (-1)) ((((a - b).toNat:Nat):Int) - ((0:Nat):Int)) (-1)
  rw[show a+((0:Nat):Int) * (-1)=a by simp,show (((a - b).toNat:Nat):Int) - ((0:Nat):Int)=Builtin.Range.rangeSize a b (-1) by rw[zky];omega]
  exact Heap.get?_push_size _ rfl
 ·cases List.mem_singleton.mp hc
  exact J.fpOk (Nat.le_refl _) (J.hok.fresh (Nat.le_refl _))
theorem zpz {a b c : Expr} {ta : TA} {p pos : Pos} (hg : Gl X "range") (hm : X.mg "range" = none) (ha : PA X [a, b, c] ta) (hs : starEach [a, b, c] X.env = [(false, eval a X.env), (false, eval b X.env), (false, eval c X.env)] := by rfl) (hs2 : starEach [b, c] X.env = [(false, eval b X.env), (false, eval c X.env)] := by rfl) :
  PI X tg (.Call (.Name "range" p) [a, b, c] [] pos) (iRngD ta) := by
 intro pins s σ H R I h
 refine Call_ (ld_blt I hg hm boot_range (PyProof.Rows.callWith_type1 (thn (ha pos pins s σ H _ I h) fun us s1 hq=>?_) (by rw[hs,hs2]) (by rw[hs2];rfl)))
 obtain ⟨vs,H1,I1,r1,i,j,e,hb,q⟩:=hq
 subst e
 cases r1 with
 | cons r1 rr =>
  cases rr with
  | cons r2 rr =>
   cases rr with
   | cons r3 rr =>
    cases rr
    obtain ⟨t,rfl⟩:=r1
    obtain ⟨t',rfl⟩:=r2
    obtain ⟨t'',rfl⟩:=r3
    refine call_range_3 (by decide) (zxt I1 hb q) (Or.inl (PyProof.noPylong_small ?_))
    decide
end
end L2
namespace Dd
open PySem L2
noncomputable def rngD (hi:Int) (n:Nat):List D:=(List.range n).map fun (i:Nat)=>D.int (hi - i)
noncomputable def iRD (g:SA):SA:=fun σ st=>(g σ st).bind fun xs st1=>match xs with
 | [.int i,.int j,.int k]=>if k=-1∧-(2 ^ 60)≤i∧i < 2 ^ 60∧-(2 ^ 60)≤j∧j < 2 ^ 60 then .ok (rngD i (i - j).toNat) st1 else .stuck
 | _=>.stuck
theorem zng {hi:Int} {n i:Nat} {x:D} (h:(rngD hi n)[i]?=some x):i < n∧x=.int (hi - i):=by
 unfold rngD at h
 rw[List.getElem?_map] at h
 rcases Nat.lt_or_ge i n with z | z
 ·rw[List.getElem?_range z] at h
  exact ⟨z,(Option.some.inj h).symm⟩
 ·rw[List.getElem?_eq_none (by rw[List.length_range];exact z)] at h
  cases h
theorem zxi {K:PySem.W.Frag} {ρ:Loc} {H:Hp} {hi:Int} {n:Nat}:ItOk K ρ H (ItrD hi n) (rngD hi n) where
 item:=fun ρ2 H2 x i d e=>by
  obtain ⟨h1,rfl⟩:=zng e
  refine ⟨h1,fun y H3 hy=>?_⟩
  obtain ⟨rfl,rfl⟩:=hy
  exact ⟨.refl _ _,fun _ r=>⟨r,.int _⟩⟩
 done:=fun ρ2 H2 x i h=>by
  unfold rngD at h
  rw[List.length_map,List.length_range] at h
  exact h
section
variable {X:Cx} {tg a b c:Expr} {g:SA} {p pos:Pos}
theorem zok (hg : Gl X "range") (hm : X.mg "range" = none) (ha : JA X [a, b, c] g) (hs : starEach [a, b, c] X.env = [(false, eval a X.env), (false, eval b X.env), (false, eval c X.env)] := by rfl) (hs2 : starEach [b, c] X.env = [(false, eval b X.env), (false, eval c X.env)] := by rfl) : JI X tg (.Call (.Name "range" p) [a, b, c] [] pos) (iRD g) :=
 ⟨pi_to (zpz hg hm ha.out hs hs2) fun τ H R hq=>by
 obtain ⟨ρ,σ,st,xs,st',a,rp,e,q⟩:=hq
 obtain ⟨x,st1,e1,e⟩:=zb e
 split at e
 ·split at e
  ·rename_i hj
   cases e
   obtain ⟨rfl,hj⟩:=hj
   refine ⟨ρ,σ,st,_,_,a,rp,e1,fun ρ1 H1 u x1 rp1 a1=>?_⟩
   cases a1 with
   | cons b1 r1 =>
    obtain ⟨w,w2,rfl,b2,b3⟩:=r1.two
    cases b1
    cases b2
    cases b3
    exact ⟨_,_,rfl,hj,q _ _ _ x1 rp1 zxi⟩
  ·cases e
 ·cases e⟩
end
end Dd
namespace Dd
open PySem L2 PyProof.Rows
noncomputable def ePopZ (f:SE) (g:SA):SE:=fun σ st=>(f σ st).bind fun x st1=>match x with
 | .ref n=>match st1[n]? with
  | some (.lst _)=>(g σ st1).bind fun ys st2=>match ys,st2[n]? with
   | [.int 0],some (.lst (y::zs))=>.ok y (st2.set n (.lst zs))
   | _,_=>.stuck
  | _=>.stuck
 | _=>.stuck
section
variable {X:Cx} {o e:Expr} {es:List Expr} {f:SE} {ga:SA} {apos cpos:Pos}
theorem zyc (ho : JE X o f) (ha : JA X (e :: es) ga) (hbase : attributeBase o "pop" X.env (eval o X.env) = eval o X.env := by rfl)
  (hfew:((backTo cpos (starEach (e::es) X.env)).all (fun x=>!x.1) && (backToKw cpos (keywordEach [] X.env)).all (fun x=>x.1.isSome)
   && decide ((e::es).length+([]:List Keyword).length+(if ([]:List Keyword).isEmpty then 0 else 1) < 30))=true:=by rfl)
  (hline:(apos.endLine == cpos.line)=true:=by rfl) (hs:starEach (e::es) X.env=(false,eval e X.env)::starEach es X.env:=by rfl) (hplain:(backTo cpos (starEach es X.env)).any (·.1)=false:=by rfl) :
  JE X (.Call (.Attribute o "pop" apos) (e :: es) [] cpos) (ePopZ f ga) := ⟨pe_to (pe_bm PySem.F.plainAttrs_list PySem.F.slot_list_pop PySem.F.type_list_pop zty ho.out ha.out hbase hfew hline hs hplain) fun τ H Q hq => by
 obtain ⟨ρ,σ,st,v,st',a,rp,e,q⟩:=hq
 obtain ⟨x,st1,e1,e⟩:=zb e
 refine ⟨ρ,σ,st,x,st1,a,rp,e1,fun ρ1 H1 u x1 rp1 a1=>?_⟩
 split at e
 ·split at e
  ·rename_i n _ xs hn
   obtain ⟨ys,st2,e2,e⟩:=zb e
   obtain ⟨p,rfl,hp,vs2,k1,k2⟩:=ref_at rp1 a1 hn (by intro z;cases z)
   refine ⟨.inl ⟨rfl,_,SqL.of k1⟩,ρ1,σ,st1,ys,st2,a.ext x1,rp1,e2,fun ρ2 H2 ws x2 rp2 a2=>?_⟩
   split at e
   ·rename_i y zs hn2
    cases e
    obtain ⟨w,rfl,a3⟩:=a2.one
    cases a3
    obtain ⟨p',ep,hp',vs3,m1,m2⟩:=ref_at rp2 (a1.ext x2) hn2 (by intro z;cases z)
    cases ep
    cases m2 with
    | cons b1 b2 =>
     rename_i w ws
     have E:Ext ρ2 H2 ρ2 (upd H2 p (.lst ws)):=Ext.wr hp' (zct m1) _
     exact ⟨p,_,0,0,w,rfl,rfl,m1,by decide,by decide,by simp[seqIndex?],rfl,q _ _ _ ((x1.trans x2).trans E) (rp2.wr hp' (zct m1) ⟨_,zr,b2.ext E⟩) (b1.ext E)⟩
   ·cases e
  ·cases e
 ·cases e⟩
end
end Dd
namespace L2
open PySem PySem.Spec PyProof.Rows
theorem zft {α β:Type} {f:α→Option β} {g:α→β}:∀{l:List α},(∀x∈l,f x=some (g x))→l.filterMap f=l.map g
 | [],_=>rfl
 | x::l,h=>by
  rw[List.filterMap_cons,h x List.mem_cons_self,List.map_cons,zft fun y hy=>h y (List.mem_cons_of_mem _ hy)]
theorem zla (items:Array Value):slicePick items none none (some (-1))=items.toList.reverse.toArray:=by
 have e:sliceRange (sliceBounds none none (some (-1)) items.size).1 (sliceBounds none none (some (-1)) items.size).2.1 (sliceBounds none none (some (-1)) items.size).2.2=(List.range items.size).map fun k=>items.size - 1 - k:=by
  unfold sliceRange sliceBounds
  simp only[Option.getD_some,show ¬ ((-1:Int) > 0) by decide,if_false]
  have ec:(if (items.size:Int) - 1 > -1 then ((items.size:Int) - 1 - -1 - -1 - 1) / - -1 else 0).toNat=items.size:=by
   rw[Int.neg_neg,Int.ediv_one]
   split<;>omega
  rw[ec]
  refine List.map_congr_left fun k hk=>?_
  have:=List.mem_range.mp hk
  omega
 unfold slicePick
 rw[e,List.filterMap_map]
 congr 1
 cases hz:items.size with
 | zero =>
  have:items.toList=[]:=List.length_eq_zero_iff.mp (by rw[Array.length_toList];exact hz)
  rw[this]
  rfl
 | succ n =>
  have hlt:∀k,items.size - 1 - k < items.size:=fun k=>by omega
  rw[zft (g:=fun k=>items[items.size - 1 - k]'(hlt k)) fun k _=>by
   show items[n+1 - 1 - k]?=_
   rw[← hz]
   exact getElem?_pos items _ (hlt k)]
  refine List.ext_getElem (by simp[hz]) fun i h1 h2=>?_
  rw[List.getElem_map,List.getElem_range,List.getElem_reverse]
  simp
variable {X:Cx} {e es:Expr} {te ts:TE} {pos p2:Pos}
noncomputable def tBack (K:PySem.W.Frag) (te ts:TE):TE:=fun σ H Q=>te σ H fun x H1=>ts σ H1 fun y H2=>∃a xs,x=.ref a∧y=.int (-1)∧SqL K H2 a xs∧∀p,H2 p=none→Q (.ref p) (upd H2 p (.lst xs.reverse))
theorem zjo:∀{xs:List V} {us:List Value},Vals xs us→Vals xs.reverse us.reverse
 | [],_,h=>by cases h;exact .nil
 | x::xs,_,h=>by
  cases h with
  | cons a b=>rw[List.reverse_cons,List.reverse_cons];exact (zjo b).append (.cons a .nil)
theorem zwm (he:PE X e te) (hs:PE X es ts):PE X (.Subscript e (.Slice none none (some es) p2) pos) (tBack X.K te ts):=by
 intro pins s σ H Q I h
 refine Subscript_ (thn (he pins s σ H _ I h) fun v s1 hq=>?_)
 obtain ⟨x,H1,I1,r1,q1⟩:=hq
 refine wpAny_Slice ?_
 rw[evalPart_none,evalPart_some]
 refine wpAny_pure (wpAny_pure (thn (hs pins s1 σ H1 _ I1 q1) fun vs s3 hq=>?_))
 obtain ⟨y,H3,I3,r3,a,xs,rfl,rfl,hx,q⟩:=hq
 obtain ⟨tk,rfl⟩:=r3
 cases r1
 have I4 : Inv X pins σ H3 { s3 with heap := s3.heap.push { cls := .type "slice", data := .fields #[.none, .none, .int (-1) tk] } } := I3.kept (t' := s3.toks) fun b ob q => Heap.get?_push_of_some _ q
 obtain ⟨its,r,ht,hz⟩:=I4.list hx
 have hlen:=r.length
 refine tail_any (ops:=[.ref a,.ref s3.heap.objs.size]) ht.isList.typeIs slot_list_getitem.lookup ?_ (by with_unfolding_all rfl)
 refine wpAny_getItem_list_slice ht.isList (Heap.IsSliceOf.new ..) .none .none (.int (-1) tk) (by simp) ?_ (by rw[List.size_toArray]<;>omega)
 rw[zla]
 refine ⟨.ref _,_,I4.laid (t':=s3.toks) (o:=.lst xs.reverse) (fun b ob q=>Heap.get?_push_of_some _ q) (Nat.le_refl _) ?_,rfl,q _ (I4.hok.fresh (Nat.le_refl _))⟩
 exact ⟨by rw[List.length_reverse];exact hz,_,0,zjo r,Heap.get?_push_size _ rfl⟩
end L2
namespace Dd
open PySem L2
theorem AtAll.rev {K:PySem.W.Frag} {ρ:Loc} {H:Hp}:∀{ds:List D} {us:List V},AtAll K ρ H ds us→AtAll K ρ H ds.reverse us.reverse
 | [],_,h=>by cases h;exact .nil
 | d::ds,_,h=>by
  cases h with
  | cons a b=>rw[List.reverse_cons,List.reverse_cons];exact (AtAll.rev b).append (.cons a .nil)
section
variable {X:Cx} {e es:Expr} {f g:SE} {pos p2:Pos}
end
end Dd
namespace L2
open PySem PySem.Spec PyProof.Rows
section
variable {prog:Program} {w:World} {A:Around} {E:Value→Shared→Prop} {s:Shared}
theorem zkp {sl:Addr} {tk:Tok} {n:Nat} {Q:Int × Int × Nat→Shared→Prop} (hs:s.heap.IsSliceOf sl .none .none (.int (-1) tk)) (h:Q ((n:Int) - 1,-1,n) s):wpAny (model prog w) A (Builtin.Slice.sliceApplied (.ref sl) (pure (n:Int))) Q E s:=by
 obtain ⟨os,hos,hcs,hds⟩:=id hs
 unfold Builtin.Slice.sliceApplied Builtin.Slice.sliceFields
 refine wpAny_bind (wpAny_bind (wpAny_field hos hds (x:=.none) rfl (wpAny_bind (wpAny_field hos hds (x:=.none) rfl (wpAny_bind (wpAny_field hos hds (x:=.int (-1) tk) rfl (wpAny_pure ?_)))))))
 refine wpAny_bind (HT.zdl (.int (-1) tk) ?_)
 show wpAny _ _ (if ((-1:Int) == 0)=true then _ else _) _ _ s
 rw[if_neg (by decide)]
 refine wpAny_bind (HT.zdl .none (wpAny_bind (HT.zdl .none (wpAny_bind (wpAny_pure ?_)))))
 show wpAny _ _ (match Builtin.Slice.sliceAdjust none none (-1) (n:Int) with | (lo,hi)=>pure (lo,(-1:Int),Builtin.Slice.slicePlaces lo hi (-1))) _ _ s
 have e1:Builtin.Slice.sliceAdjust none none (-1) (n:Int)=((n:Int) - 1,-1):=by
  unfold Builtin.Slice.sliceAdjust
  simp
 have e2:Builtin.Slice.slicePlaces ((n:Int) - 1) (-1) (-1)=n:=by
  unfold Builtin.Slice.slicePlaces
  simp only[show ¬ ((-1:Int) > 0) by decide,if_false,Int.neg_neg,Int.ediv_one]
  split<;>omega
 rw[e1]
 show wpAny _ _ (pure ((n:Int) - 1,(-1:Int),Builtin.Slice.slicePlaces ((n:Int) - 1) (-1) (-1))) _ _ s
 rw[e2]
 exact wpAny_pure h
theorem zsx (xs:Array Value):((List.range xs.size).filterMap fun (m:Nat)=>xs[((xs.size:Int) - 1+(m:Int) * (-1)).toNat]?).toArray=xs.toList.reverse.toArray:=by
 rw[← zla]
 unfold slicePick
 have e:sliceRange (sliceBounds none none (some (-1)) xs.size).1 (sliceBounds none none (some (-1)) xs.size).2.1 (sliceBounds none none (some (-1)) xs.size).2.2=(List.range xs.size).map fun k:Nat=>((xs.size:Int) - 1+(k:Int) * (-1)).toNat:=by
  unfold sliceRange sliceBounds
  simp only[Option.getD_some,show ¬ ((-1:Int) > 0) by decide,if_false]
  have ec:(if (xs.size:Int) - 1 > -1 then ((xs.size:Int) - 1 - -1 - -1 - 1) / - -1 else 0).toNat=xs.size:=by
   rw[Int.neg_neg,Int.ediv_one]
   split<;>omega
  rw[ec]
  refine List.map_congr_left fun k hk=>?_
  omega
 rw[e,List.filterMap_map]
 rfl
theorem zfn {t sl:Addr} {items:Array Value} {tk:Tok} {Q:Value→Shared→Prop} (ht:IsTup s.heap t items) (hs:s.heap.IsSliceOf sl .none .none (.int (-1) tk))
  (h : Q (.ref s.heap.objs.size) { s with heap := s.heap.push { cls := .type "tuple", data := .seq items.toList.reverse.toArray } })
  (hsz:items.size≤sizeLine):wpAny (model prog w) A (getItem (.ref t) (.ref sl)) Q E s:=by
 have htake:sizeOk (.seq items.toList.reverse.toArray):=by
  show items.toList.reverse.toArray.size≤sizeLine
  rw[List.size_toArray,List.length_reverse,Array.length_toList]
  exact hsz
 obtain ⟨os,hos,hcs,hds⟩:=id hs
 have hTs : s.TypeIs (.ref sl) "slice" := ⟨os, hos, hcs⟩
 unfold getItem
 try with_reducible refine wpAny_holding ?_
 first | refine wpAny_bind (wpAny_pure ?_) | skip
 refine wpAny_bind (wpAny_sequenceKey ht.typeIs (by decide) ?_)
 refine wpAny_bind (wpAny_callSpecial?_slot (name := Str.ofString "__getitem__") ht.typeIs PyProof.Rows.slot_tuple_getitem
  (wpAny_call_entry PyProof.Rows.slot_tuple_getitem ht.typeIs PyProof.Rows.entry_tuple_getitem ?_ (PyProof.Rows.args_tuple_getitem _ _)))
 show wpAny _ _ (Builtin.Tuple.tupleItemsOf (.ref t) >>= _) _ _ s
 refine wpAny_bind (PyProof.Rows.tupleItemsOf_ ht ?_)
 refine wpAny_bind (wpAny_typeOf hTs ?_)
 rw[if_pos (by decide)]
 refine wpAny_bind (zkp hs ?_)
 have hno:¬ ((((items.size:Int) - 1) == 0 && (-1:Int) == 1 && items.size == items.size)=true):=by
  intro q
  rw[Bool.and_eq_true,Bool.and_eq_true] at q
  exact absurd (eq_of_beq q.1.2) (by decide)
 show wpAny _ _ (if (((items.size:Int) - 1) == 0 && (-1:Int) == 1 && items.size == items.size)=true then _ else _) _ _ s
 rw[if_neg hno,zsx]
 first
  | exact wpAny_bind (m:=Builtin.Tuple.tupleExact _) (wpAny_newObj_type (wpAny_pure ⟨_,rfl,wpAny_pure h⟩) htake)
  | exact wpAny_bind (m:=Builtin.Tuple.tupleExact _) (wpAny_newObj_type (wpAny_bind (wpAny_pure (wpAny_pure ⟨_,rfl,wpAny_pure h⟩))) htake)
  | exact wpAny_bind (wpAny_bind (m:=Builtin.Tuple.tupleExact _) (wpAny_newObj_type (wpAny_pure (wpAny_pure ⟨_,rfl,wpAny_pure h⟩)) htake))
  | exact wpAny_bind (wpAny_bind (m:=Builtin.Tuple.tupleExact _) (wpAny_newObj_type (wpAny_pure ⟨_,rfl,wpAny_pure h⟩) htake))
end
end L2
namespace L2
open PySem PySem.Spec PyProof.Rows
variable {X:Cx} {e es:Expr} {te ts:TE} {pos p2:Pos}
noncomputable def tBackT (K:PySem.W.Frag) (te ts:TE):TE:=fun σ H Q=>te σ H fun x H1=>ts σ H1 fun y H2=>∃a xs,x=.ref a∧y=.int (-1)∧SqT K H2 a xs∧∀p,H2 p=none→Q (.ref p) (upd H2 p (.tup xs.reverse))
theorem ztq (he:PE X e te) (hs:PE X es ts):PE X (.Subscript e (.Slice none none (some es) p2) pos) (tBackT X.K te ts):=by
 intro pins s σ H Q I h
 refine Subscript_ (thn (he pins s σ H _ I h) fun v s1 hq=>?_)
 obtain ⟨x,H1,I1,r1,q1⟩:=hq
 refine wpAny_Slice ?_
 rw[evalPart_none,evalPart_some]
 refine wpAny_pure (wpAny_pure (thn (hs pins s1 σ H1 _ I1 q1) fun vs s3 hq=>?_))
 obtain ⟨y,H3,I3,r3,a,xs,rfl,rfl,hx,q⟩:=hq
 obtain ⟨tk,rfl⟩:=r3
 cases r1
 have I4 : Inv X pins σ H3 { s3 with heap := s3.heap.push { cls := .type "slice", data := .fields #[.none, .none, .int (-1) tk] } } := I3.kept (t' := s3.toks) fun b ob q => Heap.get?_push_of_some _ q
 obtain ⟨its,r,ht,hz⟩:=I4.tuple hx
 have hlen:=r.length
 refine tail_any (ops:=[.ref a,.ref s3.heap.objs.size]) ht.typeIs PyProof.Rows.slot_tuple_getitem.lookup ?_ (by with_unfolding_all rfl)
 refine zfn ht (Heap.IsSliceOf.new ..) ?_ (by rw[List.size_toArray]<;>omega)
 refine ⟨.ref _,_,I4.laid (t':=s3.toks) (o:=.tup xs.reverse) (fun b ob q=>Heap.get?_push_of_some _ q) (Nat.le_refl _) ?_,rfl,q _ (I4.hok.fresh (Nat.le_refl _))⟩
 exact ⟨by rw[List.length_reverse];exact hz,_,zjo r,⟨_,Heap.get?_push_size _ rfl,rfl,_,rfl⟩⟩
theorem zqc {e:Expr} {t t':TE} (h:PE X e t) (h':PE X e t'):PE X e (fun σ H Q=>t σ H Q∨t' σ H Q):=fun pins s σ H Q I q=>by
 rcases q with q | q
 ·exact h pins s σ H Q I q
 ·exact h' pins s σ H Q I q
end L2
namespace Dd
open PySem L2
noncomputable def eBack (f g:SE):SE:=fun σ st=>(f σ st).bind fun x st1=>(g σ st1).bind fun y st2=>match y with
 | .int (-1)=>match x with
  | .tup xs=>.ok (.tup xs.reverse) st2
  | x=>match asL st2 x with
   | some xs=>.ok (.lst xs.reverse) st2
   | none=>.stuck
 | _=>.stuck
section
variable {X:Cx} {e es:Expr} {f g:SE} {pos p2:Pos}
theorem zyh (he:JE X e f) (hs:JE X es g):JE X (.Subscript e (.Slice none none (some es) p2) pos) (eBack f g):=⟨pe_to (zqc (zwm he.out hs.out) (ztq he.out hs.out)) fun τ H Q hq=>by
 obtain ⟨ρ,σ,st,v,st',a,rp,e,q⟩:=hq
 obtain ⟨x,st1,e1,e⟩:=zb e
 obtain ⟨y,st2,e2,e⟩:=zb e
 split at e
 ·split at e
  ·cases e
   refine .inr ⟨ρ,σ,st,_,st1,a,rp,e1,fun ρ1 H1 u x1 rp1 a1=>?_⟩
   refine ⟨ρ1,σ,st1,_,_,a.ext x1,rp1,e2,fun ρ2 H2 w x2 rp2 a2=>?_⟩
   cases a2
   cases a1.ext x2 with
   | tup h1 h2 h3=>exact ⟨_,_,rfl,rfl,SqT.of h1,fun p hp=>q _ _ _ ((x1.trans x2).trans (Ext.new hp _)) (rp2.new hp _) (.newT rp2 hp h3.rev)⟩
  ·split at e
   ·rename_i xs hx
    cases e
    refine .inl ⟨ρ,σ,st,x,st1,a,rp,e1,fun ρ1 H1 u x1 rp1 a1=>?_⟩
    refine ⟨ρ1,σ,st1,_,_,a.ext x1,rp1,e2,fun ρ2 H2 w x2 rp2 a2=>?_⟩
    cases a2
    obtain ⟨p,vs,rfl,g1,g2⟩:=asL_at rp2 (a1.ext x2) hx
    exact ⟨_,_,rfl,rfl,SqL.of g1,fun p hp=>q _ _ _ ((x1.trans x2).trans (Ext.new hp _)) (rp2.new hp _) (.newL rp2 hp g2.rev)⟩
   ·cases e
 ·cases e⟩
end
end Dd
namespace L2
open PySem PySem.Spec PyProof.Rows
end L2
namespace Dd
open PySem L2
end Dd
namespace L2
open PySem PySem.Spec PyProof.Rows
section
variable {X:Cx} {x:Str} {C:Addr} {bmB bmN:List Value} {newId nid initId inN B Bn:String} {e:Expr} {es:List Expr} {ta:TA} {np cpos pos:Pos}
end
end L2
namespace L2
open PySem PySem.Spec PyProof.Rows
section
variable {M:Model} {A:Around} {E:Value→Shared→Prop} {s:Shared}
end
section
variable {P:Program} {w:World} {K:PySem.W.Frag} {mg:Str→Option Value} {base:Heap} {N:List Str} {qual:Str} {scope:Scope} {f:Addr} {cd:Value} {A:Around} {outer:List Env} {s₀:Shared} {H₀:Hp} {E:XK}
end
end L2
namespace L2
open PySem PySem.Spec PyProof.Rows
section
variable {X:Cx}
end
section
variable {X:Cx} {pins pins':List (Addr × Obj)} {σ:St} {H:Hp} {s:Shared} {E:Value→Shared→Prop} {e:Value}
end
section
variable {X:Cx} {body:List Stmt} {x n:Str} {B:Addr} {i:Nat} {b0:Stmt} {suite:List Stmt} {xp hp pos:Pos} {tb:(St→Value→Option Addr→Hp→Prop)→TS} {ts:TS}
end
end L2
namespace L2
open PySem PySem.Spec PyProof.Rows
section
variable {prog:Program} {w:World} {A:Around} {E:Value→Shared→Prop}
end
section
variable {X:Cx} {pos:Pos}
end
end L2
set_option maxHeartbeats 400000
namespace L2
open PySem
namespace St
end St
end L2
set_option maxHeartbeats 400000
namespace L2
open PySem
namespace St
/- the leaps meet all places -/
end St
end L2
set_option maxHeartbeats 400000
namespace L2
open PySem
namespace St
/- laid anew -/
end St
end L2
set_option maxHeartbeats 400000
namespace L2
open PySem
namespace St
end St
end L2
set_option maxHeartbeats 1000000
namespace L2
open PySem PySem.W PyProof.Rows PySem.Spec
namespace St
section
variable {P:Program} {w:World} {B:Around} {E:Value→Shared→Prop} {s:Shared} {a:Addr}
end
end St
end L2
set_option maxHeartbeats 4000000
namespace L2
open PySem PySem.W PyProof.Rows PySem.Spec
namespace St
section
variable {P:Program} {w:World} {B:Around} {R:Result→Shared→Prop} {it:Addr} {fp wr:List Addr} {G:Array GenState→Array GenState→Prop} {N:Nat} {It:Nat→Value→Prop} {St:Nat→Shared→Prop}
end
section
variable {P:Program} {w:World} {B:Around} {E:Value→Shared→Prop} {s:Shared}
end
end St
end L2
set_option maxHeartbeats 4000000
namespace L2
open PySem PySem.W PyProof.Rows PySem.Spec
namespace St
section
variable {P:Program} {w:World} {B:Around} {E:Value→Shared→Prop} {s:Shared} {a it:Addr} {es:Array (Int × Value)} {ep:Nat} {t:SetTable} {ks:List Nat}
end
end St
end L2
set_option maxHeartbeats 4000000
namespace L2
open PySem PySem.Spec PyProof.Rows PySem.W
end L2
namespace Dd
open PySem L2 PyProof.Rows
section
variable {X:Cx} {x y:Str} {p p2 pos pos2:Pos} {e:Expr} {f:SA} {g:List D→Store→Res D}
end
end Dd
set_option maxHeartbeats 4000000
namespace L2
open PySem PySem.Spec PyProof.Rows PySem.W
end L2
namespace L2
open PySem PySem.Spec PyProof.Rows PySem.W
end L2
namespace Dd
open PySem L2 PyProof.Rows
section
variable {X:Cx} {p p2 pos pos2 cpos apos:Pos} {e o:Expr} {f:SA} {g:SE}
end
end Dd
set_option maxHeartbeats 4000000
namespace Dd
open PySem L2 PyProof.Rows
section
variable {X:Cx} {R:RXT} {e:Expr} {es:List Expr} {f:SE} {g:SA} {sm:Stmt} {rest body:List Stmt} {s t:SS} {pos p:Pos} {x:Str} {k:Nat} {ps:List Str} {F:DFn}
end
section
variable {P:Program} {w:World} {K:PySem.W.Frag} {mg:Str→Option Value} {base h:Heap} {x:Str} {st:Stmt} {N ps:List Str} {k:Nat} {b:SS}
end
end Dd
set_option maxHeartbeats 4000000
namespace Dd
open PySem L2 PyProof.Rows
section
variable {X:Cx} {pos:Pos} {es:List Expr} {u:List D→DS→Option DS}
end
end Dd
set_option maxHeartbeats 4000000
namespace L2
open PySem PySem.Spec PyProof.Rows
section
variable {prog:Program} {w:World} {A:Around} {R:Result→Shared→Prop} {I:Addr} {fp wr:List Addr} {n:Nat} {P:Nat→Value→Prop} {St:Nat→Heap→Prop}
end
section
variable {prog:Program} {w:World} {A:Around} {E:Value→Shared→Prop} {s:Shared}
end
section
variable {X:Cx} {p pos cpos kpos:Pos} {l:Expr} {t:TA} {d:Int} {j:Nat}
end
end L2
set_option maxHeartbeats 4000000
namespace L2
open PySem PySem.Spec PyProof.Rows
section
variable {X:Cx}
end
end L2
set_option maxHeartbeats 4000000
namespace Dd
open PySem L2 PyProof.Rows
section
variable {X:Cx} {p pos cpos kpos:Pos} {l:Expr} {f:SA} {j:Nat}
end
end Dd
namespace Dd
open PySem L2
noncomputable def zed:DFn:=fnD 5 2 (sSeq (sSet 2 (eC (.int 0)))
 (sSeq (sIf (eB (eOp oLtT (eVar 1) (eCall bLen (aCons (eVar 0) aNil)))) (sSet 2 (eCall bAbs (aCons (eOp oIx (eVar 0) (eVar 1)) aNil))) sNx)
 (sSeq (sSet 3 (eOp oAdd (eOp oMulI (eC (.int 7919)) (eVar 1)) (eC (.int 17))))
 (sSeq (sFor (iR1 (aCons (eCall bMin2 (aCons (eCall bLen (aCons (eVar 0) aNil)) (aCons (eC (.int 60)) aNil))) aNil)) (gN 4) (sSet 3 (eOp oMod (eOp oAdd (eOp oAdd (eOp oMulI (eVar 3) (eC (.int 48271))) (eOp oMod (eOp oIx (eVar 0) (eVar 4)) (eC (.int 2147483647)))) (eVar 4)) (eC (.int 2147483629)))))
 (sSeq (sIf (eB (eOp oLtT (eVar 2) (eOp oPow (eC (.int 10)) (eC (.int 18))))) (sSet 2 (eC (.int 0))) sNx)
 (sRet (eLstM (aCons (eVar 2) (aCons (eVar 3) aNil)))))))))
noncomputable def zbg:DFn:=fnD 5 2 (sSeq (sIf (eB (eOp oGt (eOp oIx (eVar 0) (eC (.int 0))) (eC (.int 0)))) (sSeq (sSet 2 (eOp oMod (eOp oIx (eVar 0) (eC (.int 0))) (eVar 1)))
 (sSeq (sSetIx (eVar 0) (eC (.int 0)) (eOp oFdiv (eOp oIx (eVar 0) (eC (.int 0))) (eVar 1)))
 (sRet (eVar 2)))) sNx)
 (sSeq (sSet 3 (eC (.int 0)))
 (sSeq (sSet 4 (eC (.int 1)))
 (sSeq (sWhile (eB (eOp oLtT (eVar 4) (eVar 1))) (sSeq (sSetIx (eVar 0) (eC (.int 1)) (eOp oMod (eOp oAdd (eOp oMulI (eOp oIx (eVar 0) (eC (.int 1))) (eC (.int 48271))) (eC (.int 7919))) (eC (.int 2147483647))))
 (sSeq (sSet 3 (eOp oAdd (eOp oMulI (eVar 3) (eC (.int 1073741789))) (eOp oMod (eOp oMulI (eOp oFdiv (eOp oIx (eVar 0) (eC (.int 1))) (eC (.int 8))) (eC (.int 69621))) (eC (.int 1073741789)))))
 (sSet 4 (eOp oMulI (eVar 4) (eC (.int 1073741789)))))))
 (sRet (eOp oMod (eVar 3) (eVar 1)))))))
noncomputable def F_flip:DFn:=fnD 2 2 (sIf (eB (eOp (oDIn false) (eVar 1) (eVar 0))) (sDrop (eDPop (eVar 0) (eVar 1))) (sDPut (eVar 0) (eVar 1) (eC (.bl true))))
noncomputable def zer:SS:=(sDPut (eVar 1) (eVar 2) (eNot (eDGet2 (eVar 1) (eVar 2) (eC (.bl false)))))
noncomputable def zbv:DFn:=fnD 3 1 (sSeq (sSet 1 eDNew)
 (sSeq (sFor (iSeq (eVar 0)) (gN 2) zer)
 (sRet (eCall bTuple (aCons (eCall bSorted (aCons (eComp (iDict (eVar 1)) 1 [1] (gN 0) (eTru (eOp oDGet (eVar 1) (eVar 0))) (eVar 0)) aNil)) aNil)))))
noncomputable def zbz : SS := (sIf (bOr (bNot (eTru (eCall bIsinst (aCons (eVar 2) (aCons (eC (.ty "tuple")) aNil))))) (eTru (eCall (bAny false) (aCons (eComp (iSeq (eVar 2)) 1 [] (gN 0) bYes (eOr (eNot (eCall bIsinst (aCons (eVar 0) (aCons (eC (.ty "int")) aNil)))) (eCall bIsinst (aCons (eVar 0) (aCons (eC (.ty "bool")) aNil))))) aNil)))) (sRet (eC (.bl false))) sNx)
noncomputable def zbq : DFn := fnD 3 2 (sSeq (sIf (bOr (bNot (eTru (eCall bIsinst (aCons (eVar 0) (aCons (eC (.ty "tuple")) aNil))))) (eB (eOp oNe (eVar 0) (eVar 1)))) (sRet (eC (.bl false))) sNx)
 (sSeq (sFor (iSeq (eVar 0)) (gN 2) zbz)
 (sRet (eC (.bl true)))))
end Dd
namespace Dd
open PySem L2
noncomputable def zem:SS:=(sSeq (sSet 5 (eCall zbg (aCons (eVar 0) (aCons (eOp oAdd (eOp oFdiv (eVar 3) (eOp oSub (eOp oShl (eC (.int 2)) (eVar 4)) (eC (.int 1)))) (eC (.int 1))) aNil))))
 (sSeq (sSet 3 (eOp oSub (eVar 3) (eOp oMulI (eVar 5) (eOp oSub (eOp oShl (eC (.int 2)) (eVar 4)) (eC (.int 1))))))
 (sDrop (eAppend (eVar 2) (aCons (eVar 5) aNil)))))
noncomputable def zel:SS:=(sDrop (ePopZ (eVar 2) (aCons (eC (.int 0)) aNil)))
noncomputable def zcl:DFn:=fnD 6 2 (sSeq (sSet 2 (eLstM aNil))
 (sSeq (sSet 3 (eVar 1))
 (sSeq (sFor (iRD (aCons (eC (.int 3)) (aCons (eUn oNeg (eC (.int 1))) (aCons (eUn oNeg (eC (.int 1))) aNil)))) (gN 4) zem)
 (sSeq (sWhile (bAnd (eB (eOp oGt (eCall bLen (aCons (eVar 2) aNil)) (eC (.int 0)))) (eB (eOp oEq (eOp oIx (eVar 2) (eC (.int 0))) (eC (.int 0))))) zel)
 (sRet (eCall bTuple (aCons (eBack (eVar 2) (eUn oNeg (eC (.int 1)))) aNil)))))))
noncomputable def zq:DFn:=fnD 3 3 (sRet (eCall zbv (aCons (eComp (iR1 (aCons (eCall zbg (aCons (eVar 0) (aCons (eOp oAdd (eVar 1) (eC (.int 1))) aNil))) aNil)) 1 [0,2] (gN 0) bYes (eCall zcl (aCons (eVar 1) (aCons (eVar 2) aNil)))) aNil)))
noncomputable def zt:SS:=(sDrop (ePop (eVar 1)))
noncomputable def zbc:DFn:=fnD 2 1 (sSeq (sSet 1 (eCall bListM (aCons (eVar 0) aNil)))
 (sSeq (sWhile (bAnd (eTru (eVar 1)) (eB (eOp oEq (eOp oIx (eVar 1) (eUn oNeg (eC (.int 1)))) (eC (.int 0))))) zt)
 (sRet (eCall bTuple (aCons (eVar 1) aNil)))))
noncomputable def zfb:SS:=(sSeq (sAug 1 (oI (fun _ _=>True) fun i j=>.int (i+j)) (eOp oMulI (eVar 2) (eVar 3)))
 (sSet 2 (eOp oAdd (eOp oMulI (eC (.int 2)) (eVar 2)) (eC (.int 1)))))
noncomputable def zcc:DFn:=fnD 4 1 (sSeq (sSet 1 (eC (.int 0)))
 (sSeq (sSet 2 (eC (.int 1)))
 (sSeq (sFor (iSeq (eVar 0)) (gN 3) zfb)
 (sRet (eVar 1)))))
end Dd
namespace Dd
open PySem L2
noncomputable def zcq:DFn:=fnD 3 3 (sRet (eOp oAdd (eOp oAdd (eSl (eVar 0) pNone (pSome (eVar 1))) (eTup (aCons (eOp oAdd (eOp oIx (eVar 0) (eVar 1)) (eVar 2)) aNil))) (eSl (eVar 0) (pSome (eOp oAdd (eVar 1) (eC (.int 1)))) pNone)))
noncomputable def zby:SS:=(sIf (eB (eOp oEq (eOp oAndI (eOp oIx (eVar 5) (eVar 3)) (eVar 8)) (eC (.int 0)))) (sDrop (eAppend (eVar 4) (aCons (eTup (aCons (eCall zcq (aCons (eVar 5) (aCons (eVar 3) (aCons (eVar 8) aNil)))) (aCons (eCall zcq (aCons (eVar 6) (aCons (eOp oSub (eVar 2) (eC (.int 1))) (aCons (eUn oNeg (eVar 8)) aNil)))) (aCons (eOp oSub (eVar 7) (eOp oShl (eVar 8) (eVar 2))) aNil)))) aNil))) sNx)
noncomputable def zdi:SS:=(sFor (iR1 (aCons (eOp oAdd (eCall bMin2 (aCons (eOp oIx (eVar 6) (eOp oSub (eVar 2) (eC (.int 1)))) (aCons (eOp oShr (eVar 7) (eVar 2)) aNil))) (eC (.int 1))) aNil)) (gN 8) zby)
noncomputable def zbp:DFn:=fnD 9 3 (sSeq (sSet 3 (eOp oSub (eOp oAdd (eVar 1) (eVar 2)) (eC (.int 1))))
 (sSeq (sSet 4 (eLstM aNil))
 (sSeq (sFor (iSeq (eVar 0)) (gT 3 (gsCons (gN 5) (gsCons (gN 6) (gsCons (gN 7) gsNil)))) zdi)
 (sRet (eFz (eVar 4))))))
noncomputable def zdw:SS:=(sSet 4 (eCall zbp (aCons (eVar 4) (aCons (eVar 1) (aCons (eVar 5) aNil)))))
noncomputable def zdv:SS:=(sIf (eB (eOp oEq (eOp oAndI (eOp oIx (eVar 7) (eOp oSub (eVar 1) (eC (.int 1)))) (eVar 9)) (eC (.int 0)))) (sDrop (eAppend (eVar 6) (aCons (eTup (aCons (eCall zcq (aCons (eVar 7) (aCons (eOp oSub (eVar 1) (eC (.int 1))) (aCons (eVar 9) aNil)))) (aCons (eVar 8) aNil))) aNil))) sNx)
noncomputable def zbu:DFn:=fnD 10 4 (sSeq (sSet 4 (eComp (iSeq (eVar 0)) 2 [2] (gT 2 (gsCons (gN 0) (gsCons (gN 1) gsNil))) bYes (eTup (aCons (eVar 0) (aCons (eVar 1) (aCons (eVar 2) aNil))))))
 (sSeq (sFor (iR2 (aCons (eC (.int 1)) (aCons (eOp oAdd (eVar 3) (eC (.int 1))) aNil))) (gN 5) zdw)
 (sSeq (sSet 6 (eLstM aNil))
 (sSeq (sFor (iSeq (eVar 4)) (gT 3 (gsCons (gN 7) (gsCons (gN 8) (gsCons (gN 9) gsNil)))) zdv)
 (sRet (eFz (eVar 6)))))))
noncomputable def zeh:SS:=(sSeq (sSet 4 (eOp oAdd (eVar 3) (eOp oMulT (eTup (aCons (eC (.int 0)) aNil)) (eOp oSub (eCall bLen (aCons (eVar 2) aNil)) (eCall bLen (aCons (eVar 3) aNil))))))
 (sIf (eTru (eCall (bAny true) (aCons (eComp (iZipT (aCons (eVar 2) (aCons (eVar 4) aNil))) 2 [] (gT 2 (gsCons (gN 0) (gsCons (gN 1) gsNil))) bYes (eOp oEq (eOp oAndI (eVar 0) (eVar 1)) (eC (.int 0)))) aNil))) (sDrop (eAppend (eVar 1) (aCons (eCall bTuple (aCons (eComp (iZipT (aCons (eVar 2) (aCons (eVar 4) aNil))) 2 [] (gT 2 (gsCons (gN 0) (gsCons (gN 1) gsNil))) bYes (eOp oAdd (eVar 0) (eVar 1))) aNil)) aNil))) sNx))
noncomputable def zch:DFn:=fnD 5 1 (sSeq (sSet 1 (eLstM aNil))
 (sSeq (sFor (iSeq (eVar 0)) (gT 2 (gsCons (gN 2) (gsCons (gN 3) gsNil))) zeh)
 (sRet (eFz (eVar 1)))))
noncomputable def zcp:SS:=(sSet 2 (eCall zbu (aCons (eVar 2) (aCons (eVar 3) (aCons (eVar 4) (aCons (eCall bLen (aCons (eVar 1) aNil)) aNil))))))
noncomputable def zbf:DFn:=fnD 5 2 (sSeq (sSet 2 (eLst (aCons (eTup (aCons (eOp oMulT (eTup (aCons (eC (.int 0)) aNil)) (eOp oAdd (eCall bLen (aCons (eVar 0) aNil)) (eCall bLen (aCons (eVar 1) aNil)))) (aCons (eVar 1) aNil))) aNil)))
 (sSeq (sFor (iEnum (eVar 0)) (gT 2 (gsCons (gN 3) (gsCons (gN 4) gsNil))) zcp)
 (sRet (eComp (iSeq (eCall zch (aCons (eVar 2) aNil))) 1 [] (gN 0) bYes (eCall zbc (aCons (eVar 0) aNil))))))
noncomputable def zjk:SS:=(sDrop (eCall F_flip (aCons (eVar 2) (aCons (eVar 5) aNil))))
noncomputable def zjj:SS:=(sSeq (sIf (eB (eOp oGt (eOp oAdd (eCall zcc (aCons (eVar 3) aNil)) (eCall zcc (aCons (eVar 4) aNil))) (eC (.int 16)))) sStuck sNx)
 (sFor (iSeq (eCall zbf (aCons (eVar 3) (aCons (eVar 4) aNil)))) (gN 5) zjk))
noncomputable def zji:SS:=(sFor (iSeq (eVar 1)) (gN 4) zjj)
noncomputable def zjl:DFn:=fnD 6 2 (sSeq (sSet 2 eDNew)
 (sSeq (sFor (iSeq (eVar 0)) (gN 3) zji)
 (sRet (eCall bTuple (aCons (eCall bSorted (aCons (eVar 2) aNil)) aNil)))))
noncomputable def zfv:SS:=(sSeq (sIf (eB (eOp oGt (eOp oAndI (eVar 4) (eVar 5)) (eC (.int 0)))) (sRet (eC .non)) sNx)
 (sSet 4 (eOp oOrI (eVar 4) (eVar 5))))
noncomputable def zfu:SS:=(sSeq (sSet 3 (eComp (iR1 (aCons (eC (.int 5)) aNil)) 1 [0,2] (gN 0) (eB (eChain oLe oLtT (eC (.int 0)) (eOp oSub (eVar 2) (eVar 0)) (eC (.int 5)))) (eOp oIx (eOp oIx (eVar 1) (eVar 0)) (eOp oSub (eVar 2) (eVar 0)))))
 (sSeq (sSet 4 (eC (.int 0)))
 (sSeq (sFor (iSeq (eVar 3)) (gN 5) zfv)
 (sDrop (eAppend (eVar 1) (aCons (eCall bSum (aCons (eVar 3) aNil)) aNil))))))
noncomputable def zdx:DFn:=fnD 6 1 (sSeq (sSet 1 (eLstM aNil))
 (sSeq (sFor (iR2 (aCons (eC (.int 1)) (aCons (eC (.int 9)) aNil))) (gN 2) zfu)
 (sSeq (sWhile (bAnd (eB (eOp oGt (eCall bLen (aCons (eVar 1) aNil)) (eC (.int 0)))) (eB (eOp oEq (eOp oIx (eVar 1) (eUn oNeg (eC (.int 1)))) (eC (.int 0))))) zt)
 (sRet (eCall bTuple (aCons (eVar 1) aNil))))))
noncomputable def zff:SS:=(sDrop (eAppend (eVar 4) (aCons (eTup (aCons (eOp oSub (eVar 5) (eOp oShl (eVar 7) (eVar 3))) (aCons (eOp oAdd (eVar 6) (eTup (aCons (eVar 7) aNil))) aNil))) aNil)))
noncomputable def zfe:SS:=(sFor (iR1 (aCons (eOp oAdd (eCall bMin2 (aCons (eOp oIx (eVar 1) (eOp oSub (eVar 3) (eC (.int 1)))) (aCons (eOp oShr (eVar 5) (eVar 3)) aNil))) (eC (.int 1))) aNil)) (gN 7) zff)
noncomputable def zfd:SS:=(sSeq (sSet 4 (eLstM aNil))
 (sSeq (sFor (iSeq (eVar 2)) (gT 2 (gsCons (gN 5) (gsCons (gN 6) gsNil))) zfe)
 (sSet 2 (eFz (eVar 4)))))
noncomputable def zcz:DFn:=fnD 8 2 (sSeq (sSet 2 (eLst (aCons (eTup (aCons (eVar 0) (aCons (eTup aNil) aNil))) aNil)))
 (sSeq (sFor (iR2 (aCons (eC (.int 1)) (aCons (eC (.int 5)) aNil))) (gN 3) zfd)
 (sRet (eComp (iSeq (eVar 2)) 2 [] (gT 2 (gsCons (gN 0) (gsCons (gN 1) gsNil))) bYes (eOp oAdd (eTup (aCons (eVar 0) aNil)) (eVar 1))))))
noncomputable def zek:SS:=(sSeq (sSet 8 (eCall bTuple (aCons (eComp (iR1 (aCons (eC (.int 4)) aNil)) 1 [6,7] (gN 0) bYes (eOp oSub (eOp oIx (eVar 1) (eVar 0)) (eOp oIx (eVar 2) (eOp oAdd (eVar 0) (eC (.int 1)))))) aNil)))
 (sDrop (eAppend (eVar 4) (aCons (eTup (aCons (eOp oAdd (eVar 5) (eTup (aCons (eVar 7) aNil))) (aCons (eVar 8) aNil))) aNil))))
noncomputable def zej:SS:=(sFor (iSeq (eCall zcz (aCons (eVar 3) (aCons (eVar 6) aNil)))) (gN 7) zek)
noncomputable def zei:SS:=(sSeq (sSet 4 (eLstM aNil))
 (sSeq (sFor (iSeq (eVar 2)) (gT 2 (gsCons (gN 5) (gsCons (gN 6) gsNil))) zej)
 (sSet 2 (eFz (eVar 4)))))
noncomputable def zck:DFn:=fnD 9 2 (sSeq (sSet 2 (eLst (aCons (eTup (aCons (eTup aNil) (aCons (eOp oAdd (eCall bTuple (aCons (eVar 1) aNil)) (eOp oMulT (eTup (aCons (eC (.int 0)) aNil)) (eOp oSub (eC (.int 4)) (eCall bLen (aCons (eVar 1) aNil))))) aNil))) aNil)))
 (sSeq (sFor (iSeq (eOp oAdd (eCall bTuple (aCons (eVar 0) aNil)) (eOp oMulT (eTup (aCons (eC (.int 0)) aNil)) (eOp oSub (eC (.int 4)) (eCall bLen (aCons (eVar 0) aNil)))))) (gN 3) zei)
 (sRet (eComp (iSeq (eVar 2)) 2 [] (gT 2 (gsCons (gN 0) (gsCons (gN 1) gsNil))) bYes (eOp oAdd (eTup (aCons (eOp oAdd (eTup (aCons (eC (.int 0)) aNil)) (eVar 1)) aNil)) (eVar 0))))))
noncomputable def zci:SS:=(sDrop (eExtend (eVar 2) (aCons (eComp (iSeq (eComp (iSeq (eCall zck (aCons (eVar 3) (aCons (eVar 4) aNil)))) 1 [] (gN 0) bYes (eCall zdx (aCons (eVar 0) aNil)))) 1 [] (gN 0) (eB (eOp (oIsN true) (eVar 0) (eC .non))) (eVar 0)) aNil)))
noncomputable def zfc:SS:=(sFor (iSeq (eVar 1)) (gN 4) zci)
noncomputable def zcj:DFn:=fnD 5 2 (sSeq (sSet 2 (eLstM aNil))
 (sSeq (sFor (iSeq (eVar 0)) (gN 3) zfc)
 (sRet (eCall zbv (aCons (eFz (eVar 2)) aNil)))))
noncomputable def zkq:SS:=(sIf (bNot (eTru (eCall zbq (aCons (eCall zjl (aCons (eVar 7) (aCons (eVar 8) aNil))) (aCons (eCall zcj (aCons (eVar 7) (aCons (eVar 8) aNil))) aNil))))) (sRet (eC (.bl false))) sNx)
noncomputable def zpf:SS:=(sSeq (sSet 2 (eCall zed (aCons (eVar 0) (aCons (eVar 1) aNil))))
 (sSeq (sSet 3 (eCall zbg (aCons (eVar 2) (aCons (eC (.int 17)) aNil))))
 (sSeq (sSet 4 (eOp oIx (eLst (aCons (eC (.int 3)) (aCons (eC (.int 3)) (aCons (eC (.int 3)) (aCons (eC (.int 12)) aNil))))) (eCall zbg (aCons (eVar 2) (aCons (eC (.int 4)) aNil)))))
 (sSeq (sSet 5 (eCall zq (aCons (eVar 2) (aCons (eVar 4) (aCons (eVar 3) aNil)))))
 (sSeq (sSet 6 (eCall zq (aCons (eVar 2) (aCons (eOp oIx (eLst (aCons (eC (.int 3)) (aCons (eC (.int 1)) aNil))) (eCall bInt (aCons (eOp oEq (eVar 4) (eC (.int 12))) aNil))) (aCons (eOp oSub (eC (.int 16)) (eVar 3)) aNil)))))
 (sFor (iSeq (eLst (aCons (eTup (aCons (eVar 5) (aCons (eVar 6) aNil))) (aCons (eTup (aCons (eVar 6) (aCons (eVar 5) aNil))) (aCons (eTup (aCons (eVar 5) (aCons (eVar 6) aNil))) aNil))))) (gT 2 (gsCons (gN 7) (gsCons (gN 8) gsNil))) zkq))))))
noncomputable def F_k40:DFn:=fnD 9 1 (sSeq (sFor (iR1 (aCons (eOp oAdd (eCall bMin2 (aCons (eCall bLen (aCons (eVar 0) aNil)) (aCons (eC (.int 4)) aNil))) (eC (.int 2))) aNil)) (gN 1) zpf)
 (sRet (eC (.bl true))))
end Dd
namespace Dd
open PySem L2
end Dd
set_option maxHeartbeats 4000000
namespace Dd
open PySem L2
noncomputable def RngOk (j:Int):Prop:=-(2 ^ 62)≤j∧j < 2 ^ 62
noncomputable instance (j:Int):Decidable (RngOk j):=by unfold RngOk;infer_instance
theorem rngOk {j:Int} (h1:-1000000000000≤j) (h2:j≤1000000000000):RngOk j:=⟨by omega,by omega⟩
section
variable {σ:DS} {st:Store}
@[simp] theorem eC_v {d:D}:eC d σ st=.ok d st:=rfl
@[simp] theorem eVar_v {i:Nat}:eVar i σ st=(match σ[i]? with
 | some (some d)=>.ok d st
 | _=>.stuck):=rfl
@[simp] theorem eOp_v {g:D→D→Store→Res D} {f f':SE}:eOp g f f' σ st=(f σ st).bind fun x st1=>(f' σ st1).bind fun y st2=>g x y st2:=rfl
@[simp] theorem eUn_v {g:D→Store→Res D} {f:SE}:eUn g f σ st=(f σ st).bind fun x st1=>g x st1:=rfl
@[simp] theorem zoc {g:List D→Store→Res D} {f:SA}:eCall g f σ st=(f σ st).bind fun xs st1=>g xs st1:=rfl
@[simp] theorem aNil_v:aNil σ st=.ok [] st:=rfl
@[simp] theorem zmd {f:SE} {g:SA}:aCons f g σ st=(f σ st).bind fun x st1=>(g σ st1).bind fun xs st2=>.ok (x::xs) st2:=rfl
@[simp] theorem eB_v {f:SE}:eB f σ st=(f σ st).bind fun v st1=>(match v with
 | .bl b=>.ok b st1
 | _=>.stuck):=rfl
@[simp] theorem eTru_v {f:SE}:eTru f σ st=(f σ st).bind fun v st1=>(match tru st1 v with
 | some b=>.ok b st1
 | none=>.stuck):=rfl
@[simp] theorem eAnd_v {f f':SE}:eAnd f f' σ st=(f σ st).bind fun v st1=>(match v with
 | .bl true=>f' σ st1
 | .bl false=>.ok (.bl false) st1
 | _=>.stuck):=rfl
@[simp] theorem eOr_v {f f':SE}:eOr f f' σ st=(f σ st).bind fun v st1=>(match v with
 | .bl true=>.ok (.bl true) st1
 | .bl false=>f' σ st1
 | _=>.stuck):=rfl
@[simp] theorem eNot_v {f:SE}:eNot f σ st=(f σ st).bind fun v st1=>(match v with
 | .bl b=>.ok (.bl (!b)) st1
 | _=>.stuck):=rfl
@[simp] theorem bAnd_v {f f':ST}:bAnd f f' σ st=(f σ st).bind fun b st1=>if b=true then f' σ st1 else .ok false st1:=rfl
@[simp] theorem bOr_v {f f':ST}:bOr f f' σ st=(f σ st).bind fun b st1=>if b=true then .ok true st1 else f' σ st1:=rfl
@[simp] theorem bNot_v {f:ST}:bNot f σ st=(f σ st).bind fun b st1=>.ok (!b) st1:=rfl
@[simp] theorem bYes_v:bYes σ st=.ok true st:=rfl
@[simp] theorem eIf_v {c:ST} {f f':SE}:eIf c f f' σ st=(c σ st).bind fun b st1=>if b=true then f σ st1 else f' σ st1:=rfl
@[simp] theorem eTup_v {g:SA}:eTup g σ st=(g σ st).bind fun xs st1=>if xs.length≤sizeLine then .ok (.tup xs) st1 else .stuck:=rfl
@[simp] theorem eLst_v {g:SA}:eLst g σ st=(g σ st).bind fun xs st1=>if xs.length≤sizeLine then .ok (.lst xs) st1 else .stuck:=rfl
@[simp] theorem zxn {g:SA}:eLstM g σ st=(g σ st).bind fun xs st1=>if xs.length≤sizeLine then .ok (.ref st1.length) (st1++[.lst xs]) else .stuck:=rfl
@[simp] theorem zuk {g g':D→D→Store→Res D} {f f' f'':SE}:eChain g g' f f' f'' σ st=(f σ st).bind fun x st1=>(f' σ st1).bind fun y st2=>(g x y st2).bind fun z st3=>(match z with
 | .bl true=>(f'' σ st3).bind fun w st4=>g' y w st4
 | .bl false=>.ok (.bl false) st3
 | _=>.stuck):=rfl
@[simp] theorem zzh:eDNew σ st=.ok (.ref st.length) (st++[.dT []]):=rfl
@[simp] theorem sNx_v:sNx σ st=.ok (.nx σ) st:=rfl
@[simp] theorem sBrk_v:sBrk σ st=.ok (.brk σ) st:=rfl
@[simp] theorem sRet_v {f:SE}:sRet f σ st=(f σ st).bind fun v st1=>.ok (.ret v) st1:=rfl
@[simp] theorem zzc:sRetN σ st=.ok (.ret .non) st:=rfl
@[simp] theorem zzd {f:SE}:sDrop f σ st=(f σ st).bind fun _ st1=>.ok (.nx σ) st1:=rfl
@[simp] theorem sSet_v {i:Nat} {f:SE}:sSet i f σ st=(f σ st).bind fun v st1=>.ok (.nx (σ.set i (some v))) st1:=rfl
@[simp] theorem sSeq_v {s t:SS}:sSeq s t σ st=(match s σ st with
 | .ok (.nx σ1) st1=>t σ1 st1
 | r=>r):=rfl
@[simp] theorem sIf_v {c:ST} {s t:SS}:sIf c s t σ st=(c σ st).bind fun b st1=>if b=true then s σ st1 else t σ st1:=rfl
@[simp] theorem sAug_v {i:Nat} {g:D→D→Store→Res D} {f:SE}:sAug i g f σ st=(match σ[i]? with
 | some (some x)=>(f σ st).bind fun y st1=>(g x y st1).bind fun z st2=>.ok (.nx (σ.set i (some z))) st2
 | _=>.stuck):=rfl
@[simp] theorem sFor_v {it:SA} {bd:SG} {body:SS}:sFor it bd body σ st=(it σ st).bind fun xs st1=>forF bd body xs σ st1:=rfl
@[simp] theorem iSeq_v {f:SE}:iSeq f σ st=(f σ st).bind fun x st1=>(match seqV x with
 | some xs=>.ok xs st1
 | none=>.stuck):=rfl
@[simp] theorem iR1_v {g:SA}:iR1 g σ st=(g σ st).bind fun xs st1=>(match xs with
 | [.int j]=>if RngOk j then .ok (rng 0 j.toNat) st1 else .stuck
 | _=>.stuck):=rfl
@[simp] theorem iR2_v {g : SA} : iR2 g σ st = (g σ st).bind fun xs st1 => (match xs with
  | [.int i, .int j] => if RngOk i ∧ RngOk j then .ok (rng i (j - i).toNat) st1 else .stuck
  | _ => .stuck) := by
  show (g σ st).bind _ = _
  congr 1
  funext xs st1
  split
  · unfold RngOk
    simp only [and_assoc]
  · rename_i h
    first
      | rfl
      | (split
         · rename_i i j
           exact absurd rfl (h i j)
         · rfl)
@[simp] theorem zzf {f:SE}:iDict f σ st=(f σ st).bind fun x st1=>(match x with
 | .ref n=>(match st1[n]? with
  | some (.dT kvs)=>.ok (rowsD (kvs.map (·.1))) (st1.set n (.fT kvs))
  | _=>.stuck)
 | _=>.stuck):=rfl
@[simp] theorem zob {it:SA} {k:Nat} {is:List Nat} {bd:SG} {c:ST} {f:SE}:eComp it k is bd c f σ st=(it σ st).bind fun xs st1=>if xs.length≤sizeLine then (compF bd c f xs (startD k is σ) st1).bind fun ys st2=>.ok (.lst ys) st2 else .stuck:=rfl
@[simp] theorem eFz_v {f:SE}:eFz f σ st=(f σ st).bind fun x st1=>(match x with
 | .ref n=>(match st1[n]? with
  | some (.lst xs)=>.ok (.lst xs) (st1.set n .dead)
  | _=>.stuck)
 | _=>.stuck):=rfl
@[simp] theorem zze:pNone σ st=.ok none st:=rfl
@[simp] theorem zwp {f:SE}:pSome f σ st=(f σ st).bind fun v st1=>(match v with
 | .int i=>.ok (some i) st1
 | _=>.stuck):=rfl
@[simp] theorem eSl_v {f:SE} {lo hi:DS→Store→Res (Option Int)}:eSl f lo hi σ st=(f σ st).bind fun x st1=>(lo σ st1).bind fun l st2=>(hi σ st2).bind fun h st3=>(match x with
 | .tup xs=>.ok (.tup (cutD xs l h)) st3
 | x=>match asL st3 x with
  | some xs=>.ok (.lst (cutD xs l h)) st3
  | none=>.stuck):=rfl
@[simp] theorem zqv {f:SE} {g:SA}:eAppend f g σ st=(f σ st).bind fun x st1=>(match x,asL st1 x with
 | .ref n,some _=>(g σ st1).bind fun ys st2=>(match ys,st2[n]? with
  | [y],some (.lst xs)=>if xs.length < sizeLine then .ok .non (st2.set n (.lst (xs++[y]))) else .stuck
  | _,_=>.stuck)
 | _,_=>.stuck):=rfl
@[simp] theorem zqu {f:SE} {g:SA}:eExtend f g σ st=(f σ st).bind fun x st1=>(match x,asL st1 x with
 | .ref n,some _=>(g σ st1).bind fun ys st2=>(match ys,st2[n]? with
  | [y],some (.lst xs)=>(match asL st2 y with
   | some zs=>if xs.length+zs.length≤sizeLine then .ok .non (st2.set n (.lst (xs++zs))) else .stuck
   | none=>.stuck)
  | _,_=>.stuck)
 | _,_=>.stuck):=rfl
@[simp] theorem zsw {f g h:SE}:sSetIx f g h σ st=(h σ st).bind fun v st1=>(f σ st1).bind fun x st2=>(g σ st2).bind fun y st3=>(match x,y with
 | .ref n,.int k=>(match st3[n]? with
  | some (.lst xs)=>(match ixN xs.length k with
   | some j=>.ok (.nx σ) (st3.set n (.lst (xs.set j v)))
   | none=>.stuck)
  | _=>.stuck)
 | _,_=>.stuck):=rfl
@[simp] theorem zuj {f g h:SE}:eDGet2 f g h σ st=(f σ st).bind fun x st1=>(match pairsOf st1 x with
 | some _=>(g σ st1).bind fun y st2=>(h σ st2).bind fun z st3=>(match pairsOf st3 x,keyOf y with
  | some kvs,some k=>.ok ((valD kvs k).getD z) st3
  | _,_=>.stuck)
 | none=>.stuck):=rfl
@[simp] theorem zzg {f g:SE}:eDPop f g σ st=(f σ st).bind fun x st1=>(match pairsOf st1 x with
 | some _=>(g σ st1).bind fun y st2=>(match x,keyOf y with
  | .ref n,some k=>(match st2[n]? with
   | some (.dT kvs)=>(match valD kvs k with
    | some v=>.ok v (st2.set n (.dT (dropD kvs k)))
    | none=>.stuck)
   | _=>.stuck)
  | _,_=>.stuck)
 | none=>.stuck):=rfl
@[simp] theorem zvp {f g h:SE}:sDPut f g h σ st=(h σ st).bind fun v st1=>(f σ st1).bind fun x st2=>(g σ st2).bind fun y st3=>(match x,keyOf y with
 | .ref n,some k=>(match st3[n]? with
  | some (.dT kvs)=>if kvs.length < sizeLine then .ok (.nx σ) (st3.set n (.dT (putD kvs k v))) else .stuck
  | _=>.stuck)
 | _,_=>.stuck):=rfl
theorem fnD_v {n np:Nat} {b:SS} {ds:List D}:fnD n np b ds st=if ds.length=np then (match b (ds.map some++List.replicate (n - np) none) st with
 | .ok (.ret v) st'=>.ok v st'
 | .ok (.nx _) st'=>.ok .non st'
 | .exc x st'=>.exc x st'
 | _=>.stuck) else .stuck:=rfl
end
section
variable {st:Store} {i j:Int}
@[simp] theorem oI_v {C:Int→Int→Prop} [DecidableRel C] {h:Int→Int→D}:oI C h (.int i) (.int j) st=if C i j then .ok (h i j) st else .stuck:=rfl
@[simp] theorem oAdd_i:oAdd (.int i) (.int j) st=.ok (.int (i+j)) st:=rfl
@[simp] theorem oAdd_t {a b:List D}:oAdd (.tup a) (.tup b) st=if a.length+b.length≤sizeLine then .ok (.tup (a++b)) st else .stuck:=rfl
@[simp] theorem oLtT_i:oLtT (.int i) (.int j) st=.ok (.bl (decide (i < j))) st:=rfl
@[simp] theorem oNeg_i:oNeg (.int i) st=.ok (.int (-i)) st:=rfl
@[simp] theorem zha (ns:List Int):asInts (ns.map .int)=some ns:=by
 induction ns with
 | nil=>rfl
 | cons n ns ih=>rw[List.map_cons,asInts,ih];rfl
@[simp] theorem zyq (l:List (List Int)):asRows (rowsD l)=some l:=by
 induction l with
 | nil=>rfl
 | cons n ns ih =>
  unfold rowsD at ih ⊢
  rw[List.map_cons,asRows,zha,ih];rfl
@[simp] theorem zey (ns:List Int):keyOf (rowD ns)=some ns:=zha ns
theorem zig:dataOf st (.int i)=some (.int i):=rfl
@[simp] theorem oEq_i:oEq (.int i) (.int j) st=.ok (.bl (decide (i=j))) st:=by
 show oEqG false (.int i) (.int j) st=_
 unfold oEqG
 rw[zig,zig]
 dsimp only
 rw[if_pos ⟨rfl,rfl⟩]
 show Res.ok (D.bl (i == j)) st=_
 rw[show (i == j)=decide (i=j) from by rw[Bool.eq_iff_iff];simp]
@[simp] theorem oNe_i:oNe (.int i) (.int j) st=.ok (.bl (!decide (i=j))) st:=by
 show oEqG true (.int i) (.int j) st=_
 unfold oEqG
 rw[zig,zig]
 dsimp only
 rw[if_pos ⟨rfl,rfl⟩]
 show Res.ok (D.bl (!(i == j))) st=_
 rw[show (i == j)=decide (i=j) from by rw[Bool.eq_iff_iff];simp]
theorem zrc (ns:List Int):toDatas (ns.map .int)=some (dI ns):=by
 induction ns with
 | nil=>rfl
 | cons n ns ih=>rw[List.map_cons,toDatas,ih];rfl
theorem zrb (l:List (List Int)):toDatas (rowsD l)=some (l.map dRow):=by
 induction l with
 | nil=>rfl
 | cons n ns ih =>
  unfold rowsD at ih ⊢
  rw[List.map_cons,toDatas,ih,toData,zrc];rfl
noncomputable abbrev sumD (l:List (List Int)):D:=.tup (rowsD l)
theorem zom (l:List (List Int)):dataOf st (sumD l)=some (.tuple (l.map dRow)):=by
 show (toDatas (rowsD l)).map PyData.tuple=_
 rw[zrb];rfl
theorem zwy {neg:Bool} (a b:List (List Int)):oEqG neg (sumD a) (sumD b) st=.ok (.bl (if neg then !decide (a=b) else decide (a=b))) st:=by
 unfold oEqG
 rw[zom,zom]
 dsimp only
 rw[if_pos ⟨zgw a,zgw b⟩]
 have e:PyData.eqv (.tuple (a.map dRow)) (.tuple (b.map dRow))=decide (a=b):=zlu a b
 rw[e]
theorem small (n:Nat) (h:n≤1000000):n≤sizeLine:=by rw[sizeLine_eq];omega
theorem smallT (n:Nat) (h:n≤1000000):n < sizeLine:=by rw[sizeLine_eq];omega
end
theorem zsd {bd:SG} {body:SS} (I:Nat→DS→Store→Prop):∀(xs:List D) (k:Nat) (σ:DS) (st:Store),I k σ st →
  (∀i x σ st,xs[i]?=some x→I (k+i) σ st→∃σ1 σ2 st2,bd x σ=some σ1∧body σ1 st=.ok (.nx σ2) st2∧I (k+i+1) σ2 st2)→∃σ' st',forF bd body xs σ st=.ok (.nx σ') st'∧I (k+xs.length) σ' st'
 | [],k,σ,st,h,_=>⟨σ,st,rfl,h⟩
 | x::xs,k,σ,st,h,s=>by
  obtain ⟨σ1,σ2,st2,e1,e2,h2⟩:=s 0 x σ st rfl h
  obtain ⟨σ',st',e3,h3⟩:=zsd I xs (k+1) σ2 st2 h2 fun i y σ st hy hi=>by
   have:=s (i+1) y σ st (by simpa using hy) (by rw[show k+(i+1)=k+1+i by omega];exact hi)
   rw[show k+(i+1)+1=k+1+i+1 by omega] at this
   exact this
  refine ⟨σ',st',?_,by rw[List.length_cons,show k+(xs.length+1)=k+1+xs.length by omega];exact h3⟩
  unfold forF
  rw[e1]
  dsimp only
  rw[e2]
  exact e3
theorem for_ok {bd:SG} {body:SS} (I:Nat→DS→Store→Prop) {xs:List D} {σ:DS} {st:Store} (h0:I 0 σ st)
  (s:∀i x σ st,xs[i]?=some x→I i σ st→∃σ1 σ2 st2,bd x σ=some σ1∧body σ1 st=.ok (.nx σ2) st2∧I (i+1) σ2 st2):∃σ' st',forF bd body xs σ st=.ok (.nx σ') st'∧I xs.length σ' st':=by
 have:=zsd I xs 0 σ st h0 fun i x σ st hx hi=>by
  rw[Nat.zero_add] at hi ⊢
  exact s i x σ st hx hi
 rw[Nat.zero_add] at this
 exact this
theorem rng_at {lo:Int} {n i:Nat} {x:D} (h:(rng lo n)[i]?=some x):i < n∧x=.int (lo+i):=zhh h
theorem zdr (lo:Int) (n:Nat):(rng lo n).length=n:=by simp[rng]
theorem zkk {bd:SG} {c:ST} {f:SE} (I:Nat→List D→DS→Store→Prop):∀(xs:List D) (k:Nat) (acc:List D) (σ:DS) (st:Store),I k acc σ st →
  (∀i x acc σ st,xs[i]?=some x→I (k+i) acc σ st→∃σ1 b st1,bd x σ=some σ1∧c σ1 st=.ok b st1∧((b=false∧I (k+i+1) acc σ1 st1)∨(b=true∧∃y st2,f σ1 st1=.ok y st2∧I (k+i+1) (acc++[y]) σ1 st2))) →
  ∃ys σ' st',compF bd c f xs σ st=.ok ys st'∧I (k+xs.length) (acc++ys) σ' st'
 | [],k,acc,σ,st,h,_=>⟨[],σ,st,rfl,by rw[List.append_nil];exact h⟩
 | x::xs,k,acc,σ,st,h,s=>by
  have s':∀i y acc σ st,xs[i]?=some y→I (k+1+i) acc σ st→∃σ1 b st1,bd y σ=some σ1∧c σ1 st=.ok b st1∧((b=false∧I (k+1+i+1) acc σ1 st1)∨(b=true∧∃z st2,f σ1 st1=.ok z st2∧I (k+1+i+1) (acc++[z]) σ1 st2)):=fun i y acc σ st hy hi=>by
   have:=s (i+1) y acc σ st (by simpa using hy) (by rw[show k+(i+1)=k+1+i by omega];exact hi)
   rw[show k+(i+1)+1=k+1+i+1 by omega] at this
   exact this
  obtain ⟨σ1,b,st1,e1,e2,h2⟩:=s 0 x acc σ st rfl h
  rcases h2 with ⟨rfl,h2⟩ | ⟨rfl,y,st2,e3,h2⟩
  ·obtain ⟨ys,σ',st',e4,h3⟩:=zkk I xs (k+1) acc σ1 st1 h2 s'
   refine ⟨ys,σ',st',?_,by rw[List.length_cons,show k+(xs.length+1)=k+1+xs.length by omega];exact h3⟩
   unfold compF
   rw[e1]
   dsimp only
   rw[e2]
   exact e4
  ·obtain ⟨ys,σ',st',e4,h3⟩:=zkk I xs (k+1) (acc++[y]) σ1 st2 h2 s'
   refine ⟨y::ys,σ',st',?_,by rw[List.length_cons,show k+(xs.length+1)=k+1+xs.length by omega];rw[List.append_assoc] at h3;exact h3⟩
   unfold compF
   rw[e1]
   dsimp only
   rw[e2]
   dsimp only [zcy]
   rw[if_pos rfl,e3]
   dsimp only [zcy]
   rw[e4]
   rfl
theorem zsj {bd:SG} {c:ST} {f:SE} (I:Nat→List D→DS→Store→Prop) {xs:List D} {σ:DS} {st:Store} (h0:I 0 [] σ st)
  (s:∀i x acc σ st,xs[i]?=some x→I i acc σ st→∃σ1 b st1,bd x σ=some σ1∧c σ1 st=.ok b st1∧((b=false∧I (i+1) acc σ1 st1)∨(b=true∧∃y st2,f σ1 st1=.ok y st2∧I (i+1) (acc++[y]) σ1 st2))) :
  ∃ys σ' st',compF bd c f xs σ st=.ok ys st'∧I xs.length ys σ' st':=by
 have:=zkk I xs 0 [] σ st h0 fun i x acc σ st hx hi=>by
  rw[Nat.zero_add] at hi ⊢
  exact s i x acc σ st hx hi
 rw[Nat.zero_add] at this
 simpa using this
end Dd
set_option maxHeartbeats 4000000
namespace Dd
open PySem L2
theorem zph {c:ST} {body:SS} (I:Nat→DS→Store→Prop) (post:DS→Store→Prop) {σ:DS} {st:Store} {k:Nat} (h0:I k σ st) (hm:k < wCap)
  (s:∀j σ st,I j σ st→∃b st1,c σ st=.ok b st1∧((b=false∧post σ st1)∨(b=true∧∃i σ2 st2,body σ st1=.ok (.nx σ2) st2∧I i σ2 st2∧i < j))):∃σ' st',sWhile c body σ st=.ok (.nx σ') st'∧post σ' st':=by
 have main:∀n j σ st,I j σ st→j < n→∃σ' st',whileF c body n σ st=.ok (.nx σ') st'∧post σ' st':=by
  intro n
  induction n with
  | zero=>intro j σ st _ h;omega
  | succ n ih =>
   intro j σ st hI hlt
   obtain ⟨b,st1,e1,h⟩:=s j σ st hI
   unfold whileF
   rw[e1]
   dsimp only [zcy]
   rcases h with ⟨rfl,h⟩ | ⟨rfl,i,σ2,st2,e2,h2,h3⟩
   ·exact ⟨σ,st1,by rw[if_neg (by decide)],h⟩
   ·obtain ⟨σ',st',e3,h4⟩:=ih i σ2 st2 h2 (by omega)
    refine ⟨σ',st',?_,h4⟩
    rw[if_pos rfl,e2]
    exact e3
 exact main wCap k σ st h0 hm
section
variable {st:Store} {n:Nat} {xs:List D} {i:Int}
@[simp] theorem zyr:seqOf st (.tup xs)=some xs:=rfl
@[simp] theorem zys:seqOf st (.scr xs)=some xs:=rfl
@[simp] theorem zyt:seqOf st (.lst xs)=some xs:=rfl
@[simp] theorem zyu:seqV (.tup xs)=some xs:=rfl
@[simp] theorem zyw:seqV (.lst xs)=some xs:=rfl
@[simp] theorem zyv:seqV (.scr xs)=some xs:=rfl
@[simp] theorem zzi:asL st (.lst xs)=some xs:=rfl
theorem zgz (h:st[n]?=some (.lst xs)):asL st (.ref n)=some xs:=by
 unfold asL
 dsimp only
 rw[h]
theorem zda (h:st[n]?=some (.lst xs)):seqOf st (.ref n)=some xs:=zgz h
theorem oIx_of {x:D} {d:D} (h:seqOf st x=some xs) (h2:L2.atI xs i=some d):oIx x (.int i) st=.ok d st:=by
 unfold oIx
 rw[h]
 dsimp only
 rw[h2]
theorem zsl {x:D} (h:seqOf st x=some xs):bLen [x] st=.ok (.int xs.length) st:=by
 unfold bLen
 dsimp only
 rw[h]
@[simp] theorem zyz:bLen [.tup xs] st=.ok (.int xs.length) st:=rfl
@[simp] theorem zzb:bLen [.lst xs] st=.ok (.int xs.length) st:=rfl
@[simp] theorem zza:bLen [.scr xs] st=.ok (.int xs.length) st:=rfl
@[simp] theorem bAbs_v:bAbs [.int i] st=.ok (.int (if i < 0 then -i else i)) st:=rfl
@[simp] theorem b2I_v {g:Int→Int→Int} {j:Int}:b2I g [.int i,.int j] st=.ok (.int (g i j)) st:=rfl
@[simp] theorem zyy {ns:List Int}:bSum [rowD ns] st=.ok (.int ns.sum) st:=by
 unfold bSum
 simp
@[simp] theorem zyp:bTuple [.tup xs] st=.ok (.tup xs) st:=rfl
@[simp] theorem zoy:bTuple [.lst xs] st=.ok (.tup xs) st:=rfl
theorem zjf (h:st[n]?=some (.lst xs)):bTuple [.ref n] st=.ok (.tup xs) st:=by
 unfold bTuple
 dsimp only
 rw[zgz h]
theorem zkn {l:List (List Int)} (h:l.length≤1000000):bSorted [.lst (rowsD l)] st=.ok (.lst (rowsD (sortR l))) st:=by
 unfold bSorted
 simp[h]
theorem zko {kvs:List (List Int × D)} (h:st[n]?=some (.dT kvs)) (hl:kvs.length≤1000000):bSorted [.ref n] st=.ok (.lst (rowsD (sortR (kvs.map (·.1))))) st:=by
 unfold bSorted asL pairsOf
 simp[h,hl]
theorem zoz {j:Nat} {d:D} (h:xs[j]?=some d):L2.atI xs (j:Int)=some d:=zmb h
theorem zim {o:O} (h:n < st.length):(st.set n o)[n]?=some o:=List.getElem?_set_self h
theorem zcn {o:O} (h:st[n]?=some o):n < st.length:=(List.getElem?_eq_some_iff.mp h).1
theorem set_eq {o:O} (h:st[n]?=some o):st.set n o=st:=by
 apply List.ext_getElem?
 intro i
 by_cases e:i=n
 ·subst e;rw[List.getElem?_set_self (zcn h),h]
 ·rw[List.getElem?_set_ne (Ne.symm e)]
end
theorem fn_ret {n np:Nat} {b:SS} {ds:List D} {st st':Store} {v:D} (h:ds.length=np) (e:b (ds.map some++List.replicate (n - np) none) st=.ok (.ret v) st'):fnD n np b ds st=.ok v st':=by
 rw[fnD_v,if_pos h,e]
theorem fn_nx {n np:Nat} {b:SS} {ds:List D} {st st':Store} {σ:DS} (h:ds.length=np) (e:b (ds.map some++List.replicate (n - np) none) st=.ok (.nx σ) st'):fnD n np b ds st=.ok .non st':=by
 rw[fnD_v,if_pos h,e]
noncomputable abbrev bagO (c x:Int):O:=.lst [.int c,.int x]
noncomputable def BagAt (st:Store) (n:Nat):Prop:=∃c x:Int,st[n]?=some (bagO c x)∧0≤c∧0≤x
structure Drew (st st':Store) (n:Nat):Prop where
 len:st.length≤st'.length
 keep : ∀ i, i < st.length → i ≠ n → st'[i]? = st[i]?
 bag:BagAt st' n
theorem Drew.trans {st st1 st2:Store} {n:Nat} (a:Drew st st1 n) (b:Drew st1 st2 n):Drew st st2 n :=
 ⟨Nat.le_trans a.len b.len,fun i h1 h2=>(b.keep i (Nat.lt_of_lt_of_le h1 a.len) h2).trans (a.keep i h1 h2),b.bag⟩
theorem Drew.set {st:Store} {n:Nat} {c x:Int} (h:BagAt st n) (hc:0≤c) (hx:0≤x):Drew st (st.set n (bagO c x)) n:=by
 obtain ⟨_,_,e,_⟩:=h
 exact ⟨by rw[List.length_set];exact Nat.le_refl _,fun i _ h2=>List.getElem?_set_ne (Ne.symm h2),c,x,zim (zcn e),hc,hx⟩
theorem Drew.more {st:Store} {n:Nat} (h:BagAt st n) (g:Store):Drew st (st++g) n:=by
 obtain ⟨c,x,e,h1,h2⟩:=h
 exact ⟨by rw[List.length_append];omega,fun i h _=>List.getElem?_append_left h,c,x,by rw[List.getElem?_append_left (zcn e)];exact e,h1,h2⟩
theorem zvl {st:Store} {n:Nat} {m:Int} (hb:BagAt st n) (h1:1≤m) (h2:m < 2 ^ 1000) :
  ∃r st',zbg [.ref n,.int m] st=.ok (.int r) st'∧0≤r∧r < m∧Drew st st' n∧st'.length=st.length:=by
 obtain ⟨c,x,hn,hc,hx⟩:=id hb
 have s0:∀{c x:Int} {st:Store},st[n]?=some (bagO c x)→oIx (.ref n) (.int 0) st=.ok (.int c) st:=fun h=>oIx_of (zda h) rfl
 have s1:∀{c x:Int} {st:Store},st[n]?=some (bagO c x)→oIx (.ref n) (.int 1) st=.ok (.int x) st:=fun h=>oIx_of (zda h) rfl
 by_cases h0:0 < c
 ·have d1:CDivP c m:=⟨by omega,h2⟩
  have e0:ixN 2 0=some 0:=rfl
  refine ⟨c % m,st.set n (bagO (c / m) x),fn_ret rfl ?_,Int.emod_nonneg _ (by omega),Int.emod_lt_of_pos _ (by omega),Drew.set hb (Int.ediv_nonneg hc (by omega)) hx,List.length_set⟩
  simp[s0 hn,h0,hn,e0,show (0:Int) < m by omega,d1]
 ·have hlen:=zcn hn
  have W:=zph (c:=eB (eOp oLtT (eVar 4) (eVar 1))) (body:=sSeq (sSetIx (eVar 0) (eC (.int 1)) (eOp oMod (eOp oAdd (eOp oMulI (eOp oIx (eVar 0) (eC (.int 1))) (eC (.int 48271))) (eC (.int 7919))) (eC (.int 2147483647))))
   (sSeq (sSet 3 (eOp oAdd (eOp oMulI (eVar 3) (eC (.int 1073741789))) (eOp oMod (eOp oMulI (eOp oFdiv (eOp oIx (eVar 0) (eC (.int 1))) (eC (.int 8))) (eC (.int 69621))) (eC (.int 1073741789)))))
   (sSet 4 (eOp oMulI (eVar 4) (eC (.int 1073741789)))))) (k:=1000) (σ:=[some (.ref n),some (.int m),none,some (.int 0),some (.int 1)]) (st:=st)
   (fun j σ s=>∃c' x' nn rr:Int,σ=[some (.ref n),some (.int m),none,some (.int nn),some (.int rr)]∧s=st.set n (bagO c' x')∧0≤c'∧0≤x'∧0≤nn∧j≤1000∧2 ^ (1000 - j)≤rr)
   (fun σ s=>∃c' x' nn:Int,(∃rr,σ=[some (.ref n),some (.int m),none,some (.int nn),some (.int rr)])∧s=st.set n (bagO c' x')∧0≤c'∧0≤x'∧0≤nn)
   ⟨c,x,0,1,rfl,(set_eq hn).symm,hc,hx,by omega,by omega,by decide⟩ (by decide) (by
    rintro j σ s ⟨c',x',nn,rr,rfl,rfl,a1,a2,a3,a4,a5⟩
    have g1:(st.set n (bagO c' x'))[n]?=some (bagO c' x'):=zim hlen
    by_cases hlt:rr < m
    ·have hj:1≤j:=by
      rcases Nat.eq_zero_or_pos j with z | z
      ·subst z
       have a5':(2:Int) ^ 1000≤rr:=a5
       omega
      ·exact z
     have e1:ixN 2 1=some 1:=rfl
     have m1:CMul x' 48271:=.inr ⟨by decide,by decide⟩
     have m2:CMul nn 1073741789:=.inr ⟨by decide,by decide⟩
     have m3:CMul rr 1073741789:=.inr ⟨by decide,by decide⟩
     have g2:∀y:Int,(st.set n (bagO c' y))[n]?=some (bagO c' y):=fun y=>zim hlen
     have m4:∀y:Int,CMul y 69621:=fun y=>.inr ⟨by decide,by decide⟩
     have d8:∀y:Int,CDivP y 8:=fun y=>⟨by decide,by decide +kernel⟩
     refine ⟨true,st.set n (bagO c' x'),by simp[hlt],.inr ⟨rfl,j - 1,_,st.set n (bagO c' ((x' * 48271+7919) % 2147483647)),?_,⟨c',(x' * 48271+7919) % 2147483647,nn * 1073741789+(x' * 48271+7919) % 2147483647 / 8 * 69621 % 1073741789,rr * 1073741789,rfl,rfl,a1,?_,?_,by omega,?_⟩,by omega⟩⟩
     ·simp[s1 g1,g1,e1,m1,m2,m3,m4,d8,s1 (g2 _)]
     ·exact Int.emod_nonneg _ (by omega)
     ·have a1:0≤nn * 1073741789:=Int.mul_nonneg a3 (by omega)
      have a2:=Int.emod_nonneg ((x' * 48271+7919) % 2147483647 / 8 * 69621) (show (1073741789:Int)≠0 by omega)
      omega
     ·have e:(2:Int) ^ (1000 - (j - 1))=2 ^ (1000 - j) * 2:=by
       rw[← Int.pow_succ];congr 1;omega
      rw[e]
      have hp:(0:Int)≤2 ^ (1000 - j):=Int.pow_nonneg (by decide)
      omega
    ·exact ⟨false,_,by simp[hlt],.inl ⟨rfl,c',x',nn,⟨rr,rfl⟩,rfl,a1,a2,a3⟩⟩)
  obtain ⟨σ',st',e,c',x',nn,hσ,hst,k1,k2,k3⟩:=W
  obtain ⟨rr,rfl⟩:=hσ
  subst hst
  refine ⟨nn % m,st.set n (bagO c' x'),fn_ret rfl ?_,Int.emod_nonneg _ (by omega),Int.emod_lt_of_pos _ (by omega),Drew.set hb k1 k2,List.length_set⟩
  simp[s0 hn,h0,e,show (0:Int) < m by omega]
end Dd
set_option maxHeartbeats 4000000
namespace Dd
open PySem L2
theorem zjg {ns:List Int} {j:Nat} (h:j < ns.length):L2.atI (ns.map D.int) (j:Int)=some (.int ns[j]):=zmb (by rw[List.getElem?_map,List.getElem?_eq_getElem h];rfl)
theorem bag_ok {st:Store} {ns:List Int} {i:Nat} (hl:ns.length≤63) (hi:i≤100000):∃c x:Int,0≤c∧0≤x∧zed [.scr (ns.map .int),.int i] st=.ok (.ref st.length) (st++[bagO c x]):=by
 have cell:∃c:Int,0≤c∧sIf (eB (eOp oLtT (eVar 1) (eCall bLen (aCons (eVar 0) aNil)))) (sSet 2 (eCall bAbs (aCons (eOp oIx (eVar 0) (eVar 1)) aNil))) sNx [some (.scr (ns.map .int)),some (.int i),some (.int 0),none,none] st
   = .ok (.nx [some (.scr (ns.map .int)),some (.int i),some (.int c),none,none]) st:=by
  by_cases h:i < ns.length
  ·have e:oIx (.scr (ns.map .int)) (.int i) st=.ok (.int ns[i]) st:=oIx_of rfl (zjg h)
   refine ⟨if ns[i] < 0 then -ns[i] else ns[i],by split<;>omega,?_⟩
   simp[h,e]
  ·exact ⟨0,by omega,by simp[h]⟩
 obtain ⟨c,hc,ec⟩:=cell
 have hmin:(if (60:Int) < (ns.length:Int) then (60:Int) else ns.length).toNat≤ns.length:=by split<;>omega
 have W:=for_ok (bd:=gN 4) (body:=sSet 3 (eOp oMod (eOp oAdd (eOp oAdd (eOp oMulI (eVar 3) (eC (.int 48271))) (eOp oMod (eOp oIx (eVar 0) (eVar 4)) (eC (.int 2147483647)))) (eVar 4)) (eC (.int 2147483629))))
  (xs:=rng 0 (if (60:Int) < (ns.length:Int) then (60:Int) else ns.length).toNat) (σ:=[some (.scr (ns.map .int)),some (.int i),some (.int c),some (.int (7919 * i+17)),none]) (st:=st)
  (fun j σ s=>s=st∧∃(mix:Int) (v:Option D),σ=[some (.scr (ns.map .int)),some (.int i),some (.int c),some (.int mix),v]∧0≤mix) ⟨rfl,_,none,rfl,by omega⟩ (by
   rintro j x σ s hx ⟨rfl,mix,v,rfl,hm⟩
   obtain ⟨hj,rfl⟩:=rng_at hx
   have hj2:j < ns.length:=by omega
   have e:oIx (.scr (ns.map .int)) (.int (0+j)) s=.ok (.int ns[j]) s:=oIx_of rfl (by rw[Int.zero_add];exact zjg hj2)
   rw[Int.zero_add] at e
   have m1:CMul mix 48271:=.inr ⟨by decide,by decide⟩
   refine ⟨_,[some (.scr (ns.map .int)),some (.int i),some (.int c),some (.int ((mix * 48271+ns[j] % 2147483647+j) % 2147483629)),some (.int (0+j))],s,rfl,?_,rfl,_,_,rfl,Int.emod_nonneg _ (by omega)⟩
   simp[e,m1])
 obtain ⟨σ',st',e,rfl,mix,v,rfl,hm⟩:=W
 have m0:CMul 7919 (i:Int):=.inl ⟨by decide,by decide⟩
 have p0:CPow 10 18:=⟨by decide,by decide,by decide⟩
 have hr:RngOk (if (60:Int) < (ns.length:Int) then (60:Int) else ns.length):=by
  split<;>exact rngOk (by omega) (by omega)
 by_cases hlt:c < 1000000000000000000
 ·refine ⟨0,mix,by omega,hm,fn_ret rfl ?_⟩
  have hs:=small 2 (by omega)
  simp at ec
  simp[ec,m0,hr,e,p0,hlt,hs]
 ·refine ⟨c,mix,hc,hm,fn_ret rfl ?_⟩
  have hs:=small 2 (by omega)
  simp at ec
  simp[ec,m0,hr,e,p0,hlt,hs]
theorem seqN {s t:SS} {σ σ1:DS} {st st1:Store} {r:Res Fl} (h:s σ st=.ok (.nx σ1) st1) (k:t σ1 st1=r):sSeq s t σ st=r:=by
 rw[sSeq_v,h]
 exact k
end Dd
set_option maxHeartbeats 4000000
namespace Dd
open PySem L2
noncomputable def flipL (ks:List (List Int)) (k:List Int):List (List Int):=if k∈ks then ks.filter (fun x=>decide (x≠k)) else ks++[k]
noncomputable def oddL (l:List (List Int)):List (List Int):=l.foldl flipL []
theorem zga {ks:List (List Int)} {k x:List Int}:x∈flipL ks k↔(x∈ks∧x≠k)∨(x=k∧k∉ks):=by
 unfold flipL
 split
 ·rename_i h
  simp[List.mem_filter,h]
 ·rename_i h
  simp only[List.mem_append,List.mem_singleton]
  constructor
  ·rintro (z | rfl)
   ·exact .inl ⟨z,fun e=>h (e ▸ z)⟩
   ·exact .inr ⟨rfl,h⟩
  ·rintro (⟨z,_⟩ | ⟨z,_⟩)
   ·exact .inl z
   ·exact .inr z
theorem zmq {ks:List (List Int)} {k:List Int} (h:ks.Nodup):(flipL ks k).Nodup:=by
 unfold flipL
 split
 ·exact h.filter _
 ·rename_i hk
  rw[List.nodup_append]
  exact ⟨h,by simp,fun a ha b hb=>by simp at hb;subst hb;exact fun e=>hk (e ▸ ha)⟩
theorem zki (ks:List (List Int)) (k:List Int):(flipL ks k).length≤ks.length+1:=by
 unfold flipL
 split
 ·exact Nat.le_succ_of_le (List.length_filter_le _ _)
 ·simp
theorem zld:∀(l ks:List (List Int)),ks.Nodup→(l.foldl flipL ks).Nodup∧(l.foldl flipL ks).length≤ks.length+l.length∧∀x,x∈l.foldl flipL ks↔(l.count x+if x∈ks then 1 else 0) % 2=1
 | [],ks,h=>⟨h,by simp,fun x=>by by_cases e:x∈ks<;>simp[e]⟩
 | a::l,ks,h=>by
  obtain ⟨h1,h2,h3⟩:=zld l (flipL ks a) (zmq h)
  refine ⟨h1,?_,fun x=>?_⟩
  ·have:=zki ks a
   rw[List.foldl_cons,List.length_cons]
   omega
  ·rw[List.foldl_cons,h3 x,List.count_cons]
   by_cases e:x=a
   ·subst e
    by_cases k:x∈ks
    ·have q:x∉flipL ks x:=by rw[zga];simp[k]
     simp only[q,k,if_true,if_false,beq_self_eq_true]<;>omega
    ·have q:x∈flipL ks x:=by rw[zga];simp[k]
     simp only[q,k,if_true,if_false,beq_self_eq_true]<;>omega
   ·have e':(a == x)=false:=by simpa using fun z:a=x=>e z.symm
    by_cases k:x∈ks
    ·have q:x∈flipL ks a:=by rw[zga];simp[k,e]
     simp[q,k,e']
    ·have q:x∉flipL ks a:=by rw[zga];simp[k,e]
     simp[q,k,e']
theorem ziu (l:List (List Int)):(oddL l).Nodup:=(zld l [] List.nodup_nil).1
theorem zdz (l:List (List Int)):(oddL l).length≤l.length:=by have:=(zld l [] List.nodup_nil).2.1;simpa [oddL] using this
theorem zke {l:List (List Int)} {x:List Int}:x∈oddL l↔l.count x % 2=1:=by have:=(zld l [] List.nodup_nil).2.2 x;simpa [oddL] using this
theorem zhj {a b:List (List Int)} (h1:a.Nodup) (h2:b.Nodup) (h:∀x,x∈a↔x∈b):a.Perm b:=(List.perm_ext_iff_of_nodup h1 h2).mpr h
theorem zmh {a b:List (List Int)} (h:a.Perm b):sortR a=sortR b:=zjt ((zdk a).trans h) (zjs a)
noncomputable def oddS (l:List (List Int)):List (List Int):=sortR (oddL l)
theorem zww {l m:List (List Int)} (h1:m.Nodup) (h:∀x,x∈m↔l.count x % 2=1):sortR m=oddS l:=zmh (zhj h1 (ziu l) fun x=>by rw[h,zke])
theorem ztu {l:List (List Int)} {x:List Int}:x∈oddS l↔l.count x % 2=1:=by unfold oddS;rw[(zdk _).mem_iff,zke]
theorem zns {l:List (List Int)} {x:List Int} (h:x∈oddS l):x∈l:=by
 rw[ztu] at h
 rcases Nat.eq_zero_or_pos (l.count x) with z | z
 ·rw[z] at h;cases h
 ·exact List.count_pos_iff.mp z
theorem zml (l:List (List Int)):(oddS l).length≤l.length:=by unfold oddS;rw[zju];exact zdz l
noncomputable abbrev trueD (ks:List (List Int)):List (List Int × D):=ks.map fun k=>(k,.bl true)
theorem zku {ks:List (List Int)} {k:List Int}:valD (trueD ks) k=if k∈ks then some (.bl true) else none:=by
 induction ks with
 | nil=>rfl
 | cons a ks ih =>
  unfold valD trueD at ih ⊢
  rw[List.map_cons,List.find?_cons]
  by_cases e:a=k
  ·simp[e]
  ·simp only[decide_eq_false e]
   rw[ih]
   simp[List.mem_cons,show ¬ k=a from fun z=>e z.symm]
theorem zoh {ks:List (List Int)} {k:List Int}:dropD (trueD ks) k=trueD (ks.filter fun x=>decide (x≠k)):=by
 unfold dropD trueD
 rw[List.filter_map]
 rfl
theorem zpx {ks:List (List Int)} {k:List Int} (h:k∉ks):putD (trueD ks) k (.bl true)=trueD (ks++[k]):=by
 unfold putD
 rw[if_neg]
 ·simp[trueD]
 ·simp only[List.any_map,List.any_eq_true,not_exists,not_and]
  intro x hx e
  have:x=k:=by simpa using e
  exact h (this ▸ hx)
theorem zjy {st:Store} {n:Nat} {kvs:List (List Int × D)} (h:st[n]?=some (.dT kvs)):pairsOf st (.ref n)=some kvs:=by
 unfold pairsOf
 dsimp only
 rw[h]
theorem ztr {st:Store} {n:Nat} {kvs:List (List Int × D)} (h:st[n]?=some (.fT kvs)):pairsOf st (.ref n)=some kvs:=by
 unfold pairsOf
 dsimp only
 rw[h]
theorem zwz {st:Store} {n:Nat} {kvs:List (List Int × D)} {k:List Int} (h:pairsOf st (.ref n)=some kvs):oDIn false (rowD k) (.ref n) st=.ok (.bl (valD kvs k).isSome) st:=by
 unfold oDIn
 rw[zey,h]
 rfl
theorem ztv {st:Store} {n:Nat} {kvs:List (List Int × D)} {k:List Int} {v:D} (h:pairsOf st (.ref n)=some kvs) (hv:valD kvs k=some v):oDGet (.ref n) (rowD k) st=.ok v st:=by
 unfold oDGet
 rw[zey,h]
 dsimp only
 rw[hv]
theorem zxm {st:Store} {n:Nat} {ks:List (List Int)} {k:List Int} (h:st[n]?=some (.dT (trueD ks))) (hl:ks.length≤1000000):F_flip [.ref n,rowD k] st=.ok .non (st.set n (.dT (trueD (flipL ks k)))):=by
 have e1:=zwz (k:=k) (zjy h)
 rw[zku] at e1
 by_cases hk:k∈ks
 ·refine fn_nx (σ:=[some (.ref n),some (rowD k)]) rfl ?_
  rw[if_pos hk] at e1
  have e2:valD (trueD ks) k=some (.bl true):=by rw[zku,if_pos hk]
  have e3:flipL ks k=ks.filter fun x=>decide (x≠k):=by unfold flipL;rw[if_pos hk]
  rw[e3,← zoh]
  have e4:=zjy h
  have e5:=zey k
  simp only[rowD,trueD] at *
  simp[e1,e4,e5,h,e2]
 ·refine fn_nx (σ:=[some (.ref n),some (rowD k)]) rfl ?_
  rw[if_neg hk] at e1
  have e3:flipL ks k=ks++[k]:=by unfold flipL;rw[if_neg hk]
  rw[e3,← zpx hk]
  have e5:=zey k
  have e6:(trueD ks).length < sizeLine:=by rw[List.length_map];exact smallT _ hl
  simp only[rowD,trueD] at *
  simp[e1,e5,h,e6]
  rw[List.length_map] at e6
  exact e6
end Dd
set_option maxHeartbeats 4000000
namespace Dd
open PySem L2
theorem zdy {l:List (List Int)} {i:Nat} {x:D} (h:(rowsD l)[i]?=some x):∃k,l[i]?=some k∧x=rowD k:=by
 unfold rowsD at h
 rw[List.getElem?_map] at h
 cases e:l[i]? with
 | none=>rw[e] at h;cases h
 | some k=>rw[e] at h;exact ⟨k,rfl,(Option.some.inj h).symm⟩
theorem zbm (l:List (List Int)):(rowsD l).length=l.length:=List.length_map _
theorem zbl {α:Type} {l:List α} {i:Nat} {k:α} (h:l[i]?=some k):l.take (i+1)=l.take i++[k]:=by
 obtain ⟨hi,e⟩:=List.getElem?_eq_some_iff.mp h
 rw[List.take_succ_eq_append_getElem hi,e]
end Dd
set_option maxHeartbeats 4000000
namespace Dd
open PySem L2
theorem cut_to (xs:List D) (k:Nat):cutD xs none (some (k:Int))=xs.take k:=by
 unfold cutD
 rw[HT.zne,HT.zrr,List.drop_zero,Nat.sub_zero]
 rcases Nat.le_total k xs.length with h | h
 ·rw[Nat.min_eq_left h]
 ·rw[Nat.min_eq_right h,List.take_length,List.take_of_length_le h]
theorem zuz (xs:List D) (k:Nat):cutD xs (some (k:Int)) none=xs.drop k:=by
 unfold cutD
 rw[HT.zne,HT.zrr]
 rcases Nat.le_total k xs.length with h | h
 ·rw[Nat.min_eq_left h,List.take_of_length_le (by rw[List.length_drop];exact Nat.le_refl _)]
 ·rw[Nat.min_eq_right h,List.drop_length,List.drop_of_length_le h]
  simp
theorem zmf {st:Store} {n:Nat} {ks:List (List Int)} (h:st[n]?=some (.dT (trueD ks))) (hl:ks.length≤1000000):bSorted [.ref n] st=.ok (.lst (rowsD (sortR ks))) st:=by
 rw[zko h (by rw[List.length_map];exact hl),List.map_map]
 congr 2
 exact congrArg (fun l=>rowsD (sortR l)) (List.map_id ks)
end Dd
namespace K07
open PySem L2
end K07
namespace K23
open PySem L2 K07
end K23
set_option maxHeartbeats 4000000
namespace Dd
open PySem L2 K07 K23
theorem zio (r:List Int):(r.map D.int).length=r.length:=List.length_map _
noncomputable def slowAt (r:List Int) (p:Nat):Prop:=∃a b:Int,r[p]?=some a∧r[p+1]?=some b∧a < 2 * b
noncomputable instance (r:List Int) (p:Nat):Decidable (slowAt r p) :=
 match h1:r[p]?,h2:r[p+1]? with
 | some a,some b=>if h:a < 2 * b then .isTrue ⟨a,b,h1,h2,h⟩ else .isFalse fun ⟨x,y,e1,e2,e3⟩=>by rw[h1] at e1;rw[h2] at e2;cases e1;cases e2;exact h e3
 | none,_=>.isFalse fun ⟨x,y,e1,_⟩=>by rw[h1] at e1;cases e1
 | some _,none=>.isFalse fun ⟨x,y,_,e2,_⟩=>by rw[h2] at e2;cases e2
end Dd
set_option maxHeartbeats 4000000
namespace Dd
open PySem L2 K07 K23
structure CntG (f:Nat→D) (kvs:List (List Int × D)) (l:List (List Int)):Prop where
 nd:(kvs.map (·.1)).Nodup
 mem:∀k,k∈kvs.map (·.1)↔k∈l
 val:∀p∈kvs,p.2=f (l.count p.1)
 len:kvs.length≤l.length
theorem CntG.nil (f:Nat→D):CntG f [] []:=⟨List.nodup_nil,fun k=>by simp,fun p h=>(by cases h),by simp⟩
theorem CntG.at {f:Nat→D} {kvs:List (List Int × D)} {l:List (List Int)} (h:CntG f kvs l) (k:List Int):valD kvs k=if k∈l then some (f (l.count k)) else none:=by
 have gen:∀kvs:List (List Int × D),(∀p∈kvs,p.2=f (l.count p.1))→valD kvs k=if k∈kvs.map (·.1) then some (f (l.count k)) else none:=by
  intro kvs
  induction kvs with
  | nil=>intro _;rfl
  | cons a kvs ih =>
   intro hv
   have ih:=ih fun p hp=>hv p (List.mem_cons_of_mem _ hp)
   unfold valD at ih ⊢
   rw[List.find?_cons]
   by_cases e:a.1=k
   ·have:=hv a List.mem_cons_self
    simp only[e,decide_true,Option.map_some,List.map_cons,List.mem_cons,true_or,if_true]
    rw[this,e]
   ·simp only[decide_eq_false e]
    rw[ih]
    simp only[List.map_cons,List.mem_cons,show ¬ k=a.1 from fun z=>e z.symm,false_or]
 rw[gen kvs h.val]
 simp only[h.mem]
theorem CntG.put {f:Nat→D} {kvs:List (List Int × D)} {l:List (List Int)} (h:CntG f kvs l) (k:List Int):CntG f (putD kvs k (f (l.count k+1))) (l++[k]):=by
 have any:(kvs.any fun kv=>decide (kv.1=k))=decide (k∈l):=by
  rw[Bool.eq_iff_iff,decide_eq_true_eq,← h.mem,List.any_eq_true,List.mem_map]
  constructor
  ·rintro ⟨x,hx,e⟩
   exact ⟨x,hx,by simpa using e⟩
  ·rintro ⟨p,hp,e⟩
   exact ⟨p,hp,by simpa using e⟩
 unfold putD
 rw[any]
 by_cases hk:k∈l
 ·rw[if_pos (by simpa using hk)]
  have keys:(kvs.map fun kv=>if kv.1=k then (kv.1,f (l.count k+1)) else kv).map (·.1)=kvs.map (·.1):=by
   rw[List.map_map]
   congr 1
   funext p
   dsimp only [Function.comp]
   split<;>rfl
  refine ⟨by rw[keys];exact h.nd,fun x=>?_,fun p hp=>?_,?_⟩
  ·rw[keys,h.mem,List.mem_append,List.mem_singleton]
   exact ⟨.inl,fun z=>z.elim id fun e=>e ▸ hk⟩
  ·obtain ⟨q,hq,rfl⟩:=List.mem_map.mp hp
   have:=h.val q hq
   by_cases e:q.1=k
   ·rw[if_pos e]
    dsimp only
    rw[e,List.count_append]
    simp
   ·rw[if_neg e,this,List.count_append]
    have:List.count q.1 [k]=0:=by rw[List.count_eq_zero];simpa using e
    rw[this];rfl
  ·rw[List.length_map,List.length_append]
   have:=h.len
   omega
 ·rw[if_neg (by simpa using hk)]
  refine ⟨?_,fun x=>?_,fun p hp=>?_,?_⟩
  ·rw[List.map_append,List.nodup_append]
   refine ⟨h.nd,by simp,fun a ha b hb=>?_⟩
   simp at hb
   subst hb
   exact fun e=>hk ((h.mem _).mp (e ▸ ha))
  ·rw[List.map_append,List.mem_append,h.mem,List.mem_append]
   simp
  ·rcases List.mem_append.mp hp with hp | hp
   ·have e1:=h.val p hp
    have e2:p.1≠k:=fun e=>hk ((h.mem _).mp (e ▸ List.mem_map.mpr ⟨p,hp,rfl⟩))
    rw[e1,List.count_append]
    have:List.count p.1 [k]=0:=by rw[List.count_eq_zero];simpa using e2
    rw[this];rfl
   ·simp at hp
    subst hp
    rw[List.count_append,List.count_eq_zero.mpr hk]
    simp
  ·rw[List.length_append,List.length_append]
   have:=h.len
   simp
   exact this
noncomputable def oddB (n:Nat):D:=.bl (decide (n % 2=1))
theorem zqg (n:Nat):oddB (n+1)=.bl (!decide (n % 2=1)):=by
 unfold oddB
 congr 1
 by_cases h:n % 2=1
 ·rw[decide_eq_true h,decide_eq_false (by omega)];rfl
 ·rw[decide_eq_false h,decide_eq_true (by omega)];rfl
theorem zmp {st:Store} {x:D} {l:List (List Int)} (hx:seqV x=some (rowsD l)) (hl:l.length≤1000000) (ho:(oddL l).length≤1000000):∃g,zbv [x] st=.ok (sumD (oddS l)) (st++g):=by
 have W:=for_ok (bd:=gN 2) (body:=zer) (xs:=rowsD l) (σ:=[some x,some (.ref st.length),none]) (st:=st++[.dT []])
  (fun i σ s=>∃(v:Option D) (kvs:List (List Int × D)),σ=[some x,some (.ref st.length),v]∧s=st++[.dT kvs]∧CntG oddB kvs (l.take i)) ⟨none,[],rfl,rfl,CntG.nil _⟩ (by
   rintro i y σ s hy ⟨v,kvs,rfl,rfl,hc⟩
   obtain ⟨k,hk,rfl⟩:=zdy hy
   have hc':=hc.put k
   have hn:(st++[O.dT kvs])[st.length]?=some (.dT kvs):=by simp
   have e2:(valD kvs k).getD (.bl false)=.bl (decide ((l.take i).count k % 2=1)):=by
    rw[hc.at]
    split
    ·rfl
    ·rename_i z
     rw[List.count_eq_zero.mpr z];rfl
   have e3:=zey k
   have e4:=zjy hn
   have e5:kvs.length < sizeLine:=by
    have h1:=hc.len
    have h2:(l.take i).length≤l.length:=by rw[List.length_take];exact Nat.min_le_right _ _
    exact smallT _ (by omega)
   refine ⟨[some x,some (.ref st.length),some (rowD k)],[some x,some (.ref st.length),some (rowD k)],st++[.dT (putD kvs k (oddB ((l.take i).count k+1)))],rfl,?_,some (rowD k),_,rfl,rfl,by rw[zbl hk];exact hc'⟩
   rw[zqg]
   unfold zer
   simp only[rowD] at *
   simp only[zvp,eNot_v,zuj,eVar_v,eC_v,List.getElem?_cons_succ,List.getElem?_cons_zero,zcy,e4,e3,e2,hn,e5,if_true]
   simp)
 obtain ⟨σ',st',e,v,kvs,rfl,rfl,hc⟩:=W
 rw[zbm,List.take_length] at hc
 have V:=zsj (bd:=gN 0) (c:=eTru (eOp oDGet (eVar 1) (eVar 0))) (f:=eVar 0) (xs:=rowsD (kvs.map (·.1))) (σ:=[none,some (.ref st.length)]) (st:=st++[.fT kvs])
  (fun i acc σ s=>s=st++[.fT kvs]∧(∃w:Option D,σ=[w,some (.ref st.length)])∧acc=rowsD (((kvs.map (·.1)).take i).filter fun k=>decide (l.count k % 2=1))) ⟨rfl,⟨none,rfl⟩,rfl⟩ (by
   rintro i y acc σ s hy ⟨rfl,⟨w,rfl⟩,rfl⟩
   obtain ⟨k,hk,rfl⟩:=zdy hy
   have hn:(st++[O.fT kvs])[st.length]?=some (.fT kvs):=by simp
   have hkl:k∈l:=(hc.mem k).mp (List.mem_of_getElem? hk)
   have e2:valD kvs k=some (oddB (l.count k)):=by rw[hc.at,if_pos hkl]
   have e3:oDGet (.ref st.length) (rowD k) (st++[O.fT kvs])=.ok (oddB (l.count k)) _:=ztv (ztr hn) e2
   refine ⟨[some (rowD k),some (.ref st.length)],decide (l.count k % 2=1),st++[.fT kvs],rfl,?_,?_⟩
   ·rw[eTru_v]
    show ((oDGet (.ref st.length) (rowD k) (st++[O.fT kvs])).bind _)=_
    rw[e3]
    rfl
   ·by_cases ho:l.count k % 2=1
    ·refine .inr ⟨decide_eq_true ho,rowD k,_,rfl,rfl,⟨_,rfl⟩,?_⟩
     rw[zbl hk,List.filter_append]
     simp[ho,rowsD]
    ·refine .inl ⟨decide_eq_false ho,rfl,⟨_,rfl⟩,?_⟩
     rw[zbl hk,List.filter_append]
     simp[ho,rowsD])
 obtain ⟨ys,σ2,st2,e2,rfl,⟨w,rfl⟩,rfl⟩:=V
 rw[zbm,List.take_length] at e2
 refine ⟨[.fT kvs],fn_ret rfl ?_⟩
 have nd:((kvs.map (·.1)).filter fun k=>decide (l.count k % 2=1)).Nodup:=hc.nd.filter _
 have mm:∀k,k∈((kvs.map (·.1)).filter fun k=>decide (l.count k % 2=1))↔l.count k % 2=1:=fun k=>by
  rw[List.mem_filter,hc.mem,decide_eq_true_eq]
  refine ⟨fun h=>h.2,fun h=>⟨?_,h⟩⟩
  rcases Nat.eq_zero_or_pos (l.count k) with z | z
  ·rw[z] at h;cases h
  ·exact List.count_pos_iff.mp z
 have e5:sortR ((kvs.map (·.1)).filter fun k=>decide (l.count k % 2=1))=oddS l:=zww nd mm
 have few:((kvs.map (·.1)).filter fun k=>decide (l.count k % 2=1)).length≤1000000:=by
  have p:=zhj nd (ziu l) fun k=>by rw[mm,zke]
  rw[p.length_eq]
  exact ho
 have e6:=zkn (st:=st++[.fT kvs]) few
 rw[e5] at e6
 have hlen:(rowsD (kvs.map (·.1))).length≤sizeLine:=by
  rw[zbm,List.length_map]
  exact small _ (by have:=hc.len;omega)
 refine seqN (σ1:=[some x,some (.ref st.length),none]) (st1:=st++[.dT []]) (by simp) ?_
 refine seqN (σ1:=[some x,some (.ref st.length),v]) (st1:=st++[.dT kvs]) (by simp[hx,e]) ?_
 have e7:eComp (iDict (eVar 1)) 1 [1] (gN 0) (eTru (eOp oDGet (eVar 1) (eVar 0))) (eVar 0) [some x,some (.ref st.length),v] (st++[.dT kvs])=.ok (.lst (rowsD ((kvs.map (·.1)).filter fun k=>decide (l.count k % 2=1)))) (st++[.fT kvs]):=by
  rw[zob]
  have e8:iDict (eVar 1) [some x,some (.ref st.length),v] (st++[.dT kvs])=.ok (rowsD (kvs.map (·.1))) (st++[.fT kvs]):=by
   simp
  rw[e8,zcy,if_pos hlen]
  show (compF _ _ _ _ [none,some (.ref st.length)] _).bind _=_
  rw[e2]
  rfl
 rw[sRet_v,zoc,zmd,zoc,zmd,e7]
 simp only[zcy,aNil_v,e6,zoy]
theorem rngN {j:Int} (h1:-10000≤j) (h2:j≤10000):RngOk j:=rngOk (by omega) (by omega)
end Dd
set_option maxHeartbeats 4000000
namespace Dd
open PySem L2 K07 K23
theorem Drew.over {st s:Store} {n k:Nat} {o:O} (d:Drew st s n) (hn:n < st.length) (hk:st.length≤k):Drew st (s.set k o) n:=by
 obtain ⟨c,x,eb,c0,x0⟩:=d.bag
 exact ⟨by rw[List.length_set];exact d.len,fun i h1 h2=>by rw[List.getElem?_set_ne (by omega)];exact d.keep i h1 h2,c,x,by rw[List.getElem?_set_ne (by omega)];exact eb,c0,x0⟩
theorem zpa (xs:List D) (y:D):L2.atI (xs++[y]) (-1)=some y:=by
 unfold L2.atI ixN
 rw[List.length_append]
 have e:((-1:Int)+((xs.length+[y].length:Nat):Int)).toNat=xs.length:=by simp;omega
 rw[if_neg (by omega),if_pos (by simp;omega),e]
 simp
end Dd
set_option maxHeartbeats 4000000
namespace Dd
open PySem L2
noncomputable def WP {α:Type} (r:Res α) (Q:α→Store→Prop):Prop:=match r with
 | .ok a st=>Q a st
 | _=>False
theorem WP.get {α:Type} {r:Res α} {Q:α→Store→Prop} (h:WP r Q):∃a st,r=.ok a st∧Q a st:=by
 cases r with
 | ok a st=>exact ⟨a,st,rfl,h⟩
 | exc x st=>exact h.elim
 | stuck=>exact h.elim
theorem WP.of {α:Type} {r:Res α} {Q:α→Store→Prop} {a:α} {st:Store} (e:r=.ok a st) (h:Q a st):WP r Q:=by rw[e];exact h
theorem WP.mono {α:Type} {r:Res α} {Q Q':α→Store→Prop} (h:WP r Q) (k:∀a st,Q a st→Q' a st):WP r Q':=by
 obtain ⟨a,st,rfl,q⟩:=h.get
 exact k a st q
theorem zh {α β:Type} {r:Res α} {f:α→Store→Res β} {Q:β→Store→Prop}:WP (r.bind f) Q=WP r (fun a st=>WP (f a st) Q):=by
 cases r<;>rfl
noncomputable def seqK (t:SS) (Q:Fl→Store→Prop):Fl→Store→Prop:=fun fl st=>match fl with
 | .nx σ=>WP (t σ st) Q
 | fl=>Q fl st
theorem wp_seq {s t:SS} {σ:DS} {st:Store} {Q:Fl→Store→Prop}:WP (sSeq s t σ st) Q=WP (s σ st) (seqK t Q):=by
 unfold sSeq
 cases s σ st with
 | ok fl st1=>cases fl<;>rfl
 | exc x st=>rfl
 | stuck=>rfl
theorem wp_ite {α:Type} {c:Prop} [Decidable c] {a b:Res α} {Q:α→Store→Prop}:WP (if c then a else b) Q=if c then WP a Q else WP b Q:=by
 split<;>rfl
theorem zjn {α:Type} {c:Prop} [Decidable c] {a:Res α} {Q:α→Store→Prop}:WP (if c then a else .stuck) Q=(c∧WP a Q):=by
 by_cases h:c
 ·rw[if_pos h];simp[h]
 ·rw[if_neg h];simp[h,WP]
noncomputable def retK (Q:D→Store→Prop):Fl→Store→Prop:=fun fl st=>match fl with
 | .ret v=>Q v st
 | .nx _=>Q .non st
 | _=>False
theorem wp_fn {n np:Nat} {b:SS} {ds:List D} {st:Store} {Q:D→Store→Prop} (h:ds.length=np) (k:WP (b (ds.map some++List.replicate (n - np) none) st) (retK Q)):WP (fnD n np b ds st) Q:=by
 obtain ⟨fl,st',e,q⟩:=k.get
 unfold fnD
 rw[if_pos h,e]
 cases fl<;>first | exact q | exact q.elim
noncomputable def bK (Q:Bool→Store→Prop):D→Store→Prop:=fun v st=>match v with
 | .bl b=>Q b st
 | _=>False
noncomputable def gK (bd:SG) (Q:Fl→Store→Prop) (σ:DS):D→Store→Prop:=fun v st=>match bd v σ with
 | some σ1=>Q (.nx σ1) st
 | none=>False
theorem W:(∀{α:Type} {a:α} {st:Store} {Q:α→Store→Prop},WP (.ok a st) Q=Q a st)
 ∧ (∀{s t:SS} {σ:DS} {st:Store} {Q:Fl→Store→Prop},WP (sSeq s t σ st) Q=WP (s σ st) (seqK t Q))
 ∧ (∀{t:SS} {σ:DS} {st:Store} {Q:Fl→Store→Prop},seqK t Q (.nx σ) st=WP (t σ st) Q)
 ∧ (∀{t:SS} {v:D} {st:Store} {Q:Fl→Store→Prop},seqK t Q (.ret v) st=Q (.ret v) st)
 ∧ (∀{t:SS} {σ:DS} {st:Store} {Q:Fl→Store→Prop},seqK t Q (.brk σ) st=Q (.brk σ) st)
 ∧ (∀{t:SS} {σ:DS} {st:Store} {Q:Fl→Store→Prop},seqK t Q (.ct σ) st=Q (.ct σ) st)
 ∧ (∀{v:D} {st:Store} {Q:D→Store→Prop},retK Q (.ret v) st=Q v st)
 ∧ (∀{σ:DS} {st:Store} {Q:D→Store→Prop},retK Q (.nx σ) st=Q .non st)
 ∧ (∀{b:Bool} {st:Store} {Q:Bool→Store→Prop},bK Q (.bl b) st=Q b st)
 ∧ (∀{d:D} {σ:DS} {st:Store} {Q:D→Store→Prop},WP (eC d σ st) Q=Q d st)
 ∧ (∀{g:D→D→Store→Res D} {f f':SE} {σ:DS} {st:Store} {Q:D→Store→Prop},WP (eOp g f f' σ st) Q=WP (f σ st) (fun x st1=>WP (f' σ st1) (fun y st2=>WP (g x y st2) Q)))
 ∧ (∀{g:D→Store→Res D} {f:SE} {σ:DS} {st:Store} {Q:D→Store→Prop},WP (eUn g f σ st) Q=WP (f σ st) (fun x st1=>WP (g x st1) Q))
 ∧ (∀{g:List D→Store→Res D} {f:SA} {σ:DS} {st:Store} {Q:D→Store→Prop},WP (eCall g f σ st) Q=WP (f σ st) (fun x st1=>WP (g x st1) Q))
 ∧ (∀{σ:DS} {st:Store} {Q:List D→Store→Prop},WP (aNil σ st) Q=Q [] st)
 ∧ (∀{f:SE} {g:SA} {σ:DS} {st:Store} {Q:List D→Store→Prop},WP (aCons f g σ st) Q=WP (f σ st) (fun x st1=>WP (g σ st1) (fun xs st2=>Q (x::xs) st2)))
 ∧ (∀{f:SE} {σ:DS} {st:Store} {Q:Bool→Store→Prop},WP (eB f σ st) Q=WP (f σ st) (bK Q))
 ∧ (∀{f f':ST} {σ:DS} {st:Store} {Q:Bool→Store→Prop},WP (bAnd f f' σ st) Q=WP (f σ st) (fun b st1=>if b=true then WP (f' σ st1) Q else Q false st1))
 ∧ (∀{f f':ST} {σ:DS} {st:Store} {Q:Bool→Store→Prop},WP (bOr f f' σ st) Q=WP (f σ st) (fun b st1=>if b=true then Q true st1 else WP (f' σ st1) Q))
 ∧ (∀{f:ST} {σ:DS} {st:Store} {Q:Bool→Store→Prop},WP (bNot f σ st) Q=WP (f σ st) (fun b st1=>Q (!b) st1))
 ∧ (∀{σ:DS} {st:Store} {Q:Bool→Store→Prop},WP (bYes σ st) Q=Q true st)
 ∧ (∀{f f':SE} {σ:DS} {st:Store} {Q:D→Store→Prop},WP (eAnd f f' σ st) Q=WP (f σ st) (bK fun b st1=>if b=true then WP (f' σ st1) Q else Q (.bl false) st1))
 ∧ (∀{f f':SE} {σ:DS} {st:Store} {Q:D→Store→Prop},WP (eOr f f' σ st) Q=WP (f σ st) (bK fun b st1=>if b=true then Q (.bl true) st1 else WP (f' σ st1) Q))
 ∧ (∀{f:SE} {σ:DS} {st:Store} {Q:D→Store→Prop},WP (eNot f σ st) Q=WP (f σ st) (bK fun b st1=>Q (.bl (!b)) st1))
 ∧ (∀{c:ST} {f f':SE} {σ:DS} {st:Store} {Q:D→Store→Prop},WP (eIf c f f' σ st) Q=WP (c σ st) (fun b st1=>if b=true then WP (f σ st1) Q else WP (f' σ st1) Q))
 ∧ (∀{g:SA} {σ:DS} {st:Store} {Q:D→Store→Prop},WP (eTup g σ st) Q=WP (g σ st) (fun xs st1=>xs.length≤sizeLine∧Q (.tup xs) st1))
 ∧ (∀{g:SA} {σ:DS} {st:Store} {Q:D→Store→Prop},WP (eLst g σ st) Q=WP (g σ st) (fun xs st1=>xs.length≤sizeLine∧Q (.lst xs) st1))
 ∧ (∀{g:SA} {σ:DS} {st:Store} {Q:D→Store→Prop},WP (eLstM g σ st) Q=WP (g σ st) (fun xs st1=>xs.length≤sizeLine∧Q (.ref st1.length) (st1++[.lst xs])))
 ∧ (∀{σ:DS} {st:Store} {Q:D→Store→Prop},WP (eDNew σ st) Q=Q (.ref st.length) (st++[.dT []]))
 ∧ (∀{σ:DS} {st:Store} {Q:Fl→Store→Prop},WP (sNx σ st) Q=Q (.nx σ) st)
 ∧ (∀{σ:DS} {st:Store} {Q:Fl→Store→Prop},WP (sBrk σ st) Q=Q (.brk σ) st)
 ∧ (∀{σ:DS} {st:Store} {Q:Fl→Store→Prop},WP (sCt σ st) Q=Q (.ct σ) st)
 ∧ (∀{σ:DS} {st:Store} {Q:Fl→Store→Prop},WP (sRetN σ st) Q=Q (.ret .non) st)
 ∧ (∀{f:SE} {σ:DS} {st:Store} {Q:Fl→Store→Prop},WP (sRet f σ st) Q=WP (f σ st) (fun v st1=>Q (.ret v) st1))
 ∧ (∀{f:SE} {σ:DS} {st:Store} {Q:Fl→Store→Prop},WP (sDrop f σ st) Q=WP (f σ st) (fun _ st1=>Q (.nx σ) st1))
 ∧ (∀{i:Nat} {f:SE} {σ:DS} {st:Store} {Q:Fl→Store→Prop},WP (sSet i f σ st) Q=WP (f σ st) (fun v st1=>Q (.nx (σ.set i (some v))) st1))
 ∧ (∀{bd:SG} {f:SE} {σ:DS} {st:Store} {Q:Fl→Store→Prop},WP (sSetG bd f σ st) Q=WP (f σ st) (gK bd Q σ))
 ∧ (∀{c:ST} {s t:SS} {σ:DS} {st:Store} {Q:Fl→Store→Prop},WP (sIf c s t σ st) Q=WP (c σ st) (fun b st1=>if b=true then WP (s σ st1) Q else WP (t σ st1) Q))
 ∧ (∀{it:SA} {bd:SG} {body:SS} {σ:DS} {st:Store} {Q:Fl→Store→Prop},WP (sFor it bd body σ st) Q=WP (it σ st) (fun xs st1=>WP (forF bd body xs σ st1) Q))
 ∧ (∀{it:SA} {k:Nat} {is:List Nat} {bd:SG} {c:ST} {f:SE} {σ:DS} {st:Store} {Q:D→Store→Prop},WP (eComp it k is bd c f σ st) Q=WP (it σ st) (fun xs st1=>xs.length≤sizeLine∧WP (compF bd c f xs (startD k is σ) st1) (fun ys st2=>Q (.lst ys) st2)))
 ∧ (∀{it:SA} {k:Nat} {is:List Nat} {bd:SG} {c:ST} {f:SE} {σ:DS} {st:Store} {Q:D→Store→Prop},WP (eCompM it k is bd c f σ st) Q=WP (it σ st) (fun xs st1=>xs.length≤sizeLine∧WP (compF bd c f xs (startD k is σ) st1) (fun ys st2=>Q (.ref st2.length) (st2++[.lst ys]))))
 ∧ (∀{C:Int→Int→Prop} [DecidableRel C] {h:Int→Int→D} {i j:Int} {st:Store} {Q:D→Store→Prop},WP (oI C h (.int i) (.int j) st) Q=(C i j∧Q (h i j) st))
 ∧ (∀{i j:Int} {st:Store} {Q:D→Store→Prop},WP (oAdd (.int i) (.int j) st) Q=Q (.int (i+j)) st)
 ∧ (∀{a b:List D} {st:Store} {Q:D→Store→Prop},WP (oAdd (.tup a) (.tup b) st) Q=(a.length+b.length≤sizeLine∧Q (.tup (a++b)) st))
 ∧ (∀{i j:Int} {st:Store} {Q:D→Store→Prop},WP (oLtT (.int i) (.int j) st) Q=Q (.bl (decide (i < j))) st)
 ∧ (∀{i j:Int} {st:Store} {Q:D→Store→Prop},WP (oEqG false (.int i) (.int j) st) Q=Q (.bl (decide (i=j))) st)
 ∧ (∀{i j:Int} {st:Store} {Q:D→Store→Prop},WP (oEqG true (.int i) (.int j) st) Q=Q (.bl (!decide (i=j))) st)
 ∧ (∀{i:Int} {st:Store} {Q:D→Store→Prop},WP (oNeg (.int i) st) Q=Q (.int (-i)) st)
 ∧ (∀{i j:Int} {g:Int→Int→Int} {st:Store} {Q:D→Store→Prop},WP (b2I g [.int i,.int j] st) Q=Q (.int (g i j)) st)
 ∧ (∀{i:Int} {st:Store} {Q:D→Store→Prop},WP (bAbs [.int i] st) Q=Q (.int (if i < 0 then -i else i)) st)
 ∧ (∀{b:Bool} {st:Store} {Q:D→Store→Prop},WP (bInt [.bl b] st) Q=Q (.int (if b=true then 1 else 0)) st)
 ∧ (∀{xs:List D} {st:Store} {Q:D→Store→Prop},WP (bLen [.tup xs] st) Q=Q (.int xs.length) st)
 ∧ (∀{xs:List D} {st:Store} {Q:D→Store→Prop},WP (bLen [.lst xs] st) Q=Q (.int xs.length) st)
 ∧ (∀{xs:List D} {st:Store} {Q:D→Store→Prop},WP (bLen [.scr xs] st) Q=Q (.int xs.length) st)
 ∧ (∀{xs:List D} {st:Store} {Q:D→Store→Prop},WP (bTuple [.tup xs] st) Q=Q (.tup xs) st)
 ∧ (∀{xs:List D} {st:Store} {Q:D→Store→Prop},WP (bTuple [.lst xs] st) Q=Q (.tup xs) st)
 ∧ (∀{xs:List D} {st:Store} {Q:D→Store→Prop},WP (bList [.tup xs] st) Q=Q (.lst xs) st)
 ∧ (∀{xs:List D} {st:Store} {Q:D→Store→Prop},WP (bList [.lst xs] st) Q=Q (.lst xs) st)
 ∧ (∀{d:D} {σ:DS} {st:Store} {Q:D→Store→Prop},WP (eVar 0 (some d::σ) st) Q=Q d st)
 ∧ (∀{i:Nat} {σ:DS} {st:Store} {Q:D→Store→Prop} {o:Option D},WP (eVar (i+1) (o::σ) st) Q=WP (eVar i σ st) Q)
 ∧ (∀{f:SE} {σ:DS} {st:Store} {Q:List D→Store→Prop},WP (iSeq f σ st) Q=WP (f σ st) (fun x st1=>∃xs,seqV x=some xs∧Q xs st1))
 ∧ (∀{f:SE} {σ:DS} {st:Store} {Q:Bool→Store→Prop},WP (eTru f σ st) Q=WP (f σ st) (fun x st1=>∃b,tru st1 x=some b∧Q b st1))
 ∧ (∀{g:SA} {σ:DS} {st:Store} {Q:List D→Store→Prop},WP (iR1 g σ st) Q=WP (g σ st) (fun xs st1=>∃j,xs=[.int j]∧RngOk j∧Q (rng 0 j.toNat) st1))
 ∧ (∀{g:SA} {σ:DS} {st:Store} {Q:List D→Store→Prop},WP (iR2 g σ st) Q=WP (g σ st) (fun xs st1=>∃i j,xs=[.int i,.int j]∧RngOk i∧RngOk j∧Q (rng i (j - i).toNat) st1)):=by
 have g2:∀{α:Type} {c:Prop} [Decidable c] {a:α} {st:Store} {Q:α→Store→Prop},WP (if c then .ok a st else .stuck) Q=(c∧Q a st):=fun {α c _ a st Q}=>zjn
 refine ⟨rfl,wp_seq,rfl,rfl,rfl,rfl,rfl,rfl,rfl,rfl,?_⟩
 refine ⟨?_,?_⟩
 ·intros;rw[eOp_v,zh];congr;funext x st1;rw[zh]
 refine ⟨zh,zh,rfl,?_⟩
 refine ⟨?_,?_⟩
 ·intros;rw[zmd,zh];congr;funext x st1;rw[zh];rfl
 refine ⟨?_,?_⟩
 ·intros;rw[eB_v,zh];congr;funext x st1;cases x<;>rfl
 refine ⟨?_,?_⟩
 ·intros;rw[bAnd_v,zh];congr;funext x st1;rw[wp_ite];rfl
 refine ⟨?_,?_⟩
 ·intros;rw[bOr_v,zh];congr;funext x st1;rw[wp_ite];rfl
 refine ⟨zh,rfl,?_⟩
 refine ⟨?_,?_⟩
 ·intros;rw[eAnd_v,zh];congr;funext x st1;cases x<;>try rfl
  rename_i b;cases b<;>rfl
 refine ⟨?_,?_⟩
 ·intros;rw[eOr_v,zh];congr;funext x st1;cases x<;>try rfl
  rename_i b;cases b<;>rfl
 refine ⟨?_,?_⟩
 ·intros;rw[eNot_v,zh];congr;funext x st1;cases x<;>rfl
 refine ⟨?_,?_⟩
 ·intros;rw[eIf_v,zh];congr;funext x st1;rw[wp_ite]
 refine ⟨?_,?_⟩
 ·intros;rw[eTup_v,zh];congr;funext x st1;rw[g2]
 refine ⟨?_,?_⟩
 ·intros;rw[eLst_v,zh];congr;funext x st1;rw[g2]
 refine ⟨?_,?_⟩
 ·intros;rw[zxn,zh];congr;funext x st1;rw[g2]
 refine ⟨rfl,rfl,rfl,rfl,rfl,zh,zh,zh,?_⟩
 refine ⟨?_,?_⟩
 ·intro bd f σ st Q;unfold sSetG;rw[zh];congr;funext x st1;unfold gK;cases bd x σ<;>rfl
 refine ⟨?_,?_⟩
 ·intros;rw[sIf_v,zh];congr;funext x st1;rw[wp_ite]
 refine ⟨zh,?_⟩
 refine ⟨?_,?_⟩
 ·intros;rw[zob,zh];congr;funext x st1;rw[zjn,zh];rfl
 refine ⟨?_,?_⟩
 ·intros;unfold eCompM;rw[zh];congr;funext x st1;rw[zjn,zh];rfl
 refine ⟨?_,?_⟩
 ·intros;rw[oI_v,g2]
 refine ⟨rfl,?_⟩
 refine ⟨?_,?_⟩
 ·intros;rw[oAdd_t,g2]
 refine ⟨rfl,?_⟩
 refine ⟨?_,?_⟩
 ·intros;rw[show ∀i j st,oEqG false (.int i) (.int j) st=_ from fun i j st=>oEq_i];rfl
 refine ⟨?_,?_⟩
 ·intros;rw[show ∀i j st,oEqG true (.int i) (.int j) st=_ from fun i j st=>oNe_i];rfl
 refine ⟨rfl,rfl,rfl,rfl,rfl,rfl,rfl,rfl,rfl,rfl,rfl,fun {d σ st Q}=>rfl,fun {i σ st Q o}=>rfl,?_⟩
 refine ⟨?_,?_⟩
 ·intros;rw[iSeq_v,zh];congr;funext x st1
  cases h:seqV x with
  | none=>simp[WP]
  | some xs=>simp[WP]
 refine ⟨?_,?_⟩
 ·intros;rw[eTru_v,zh];congr;funext x st1
  cases h:tru st1 x with
  | none=>simp[WP]
  | some xs=>simp[WP]
 refine ⟨?_,?_⟩
 ·intros;rw[iR1_v,zh];congr;funext x st1
  split
  ·rw[g2];simp[RngOk]
  ·rename_i hne
   have:∀j,x≠[D.int j]:=fun j h=>hne j h
   simp[WP,this]
 ·intros;rw[iR2_v,zh];congr;funext x st1
  split
  ·rw[g2]
   simp only[RngOk,List.cons.injEq,D.int.injEq,and_true]
   apply propext
   constructor
   ·rintro ⟨h,q⟩;exact ⟨_,_,⟨rfl,rfl⟩,h.1,h.2,q⟩
   ·rintro ⟨i',j',⟨rfl,rfl⟩,h1,h2,q⟩;exact ⟨⟨h1,h2⟩,q⟩
  ·rename_i hne
   have:∀i j,x≠[D.int i,D.int j]:=fun i j h=>hne i j h
   simp[WP,this]
noncomputable def loopK (I:DS→Store→Prop) (Q:Fl→Store→Prop):Fl→Store→Prop:=fun fl st=>match fl with
 | .nx σ=>I σ st
 | .ct σ=>I σ st
 | .brk σ=>Q (.nx σ) st
 | .ret v=>Q (.ret v) st
theorem zhd {bd:SG} {body:SS} {Q:Fl→Store→Prop} (I:Nat→DS→Store→Prop):∀(xs:List D) (k:Nat) (σ:DS) (st:Store),I k σ st →
  (∀i x σ st,xs[i]?=some x→I (k+i) σ st→∃σ1,bd x σ=some σ1∧WP (body σ1 st) (loopK (I (k+i+1)) Q))→(∀σ st,I (k+xs.length) σ st→Q (.nx σ) st)→WP (forF bd body xs σ st) Q
 | [],k,σ,st,h,_,q=>q σ st h
 | x::xs,k,σ,st,h,s,q=>by
  obtain ⟨σ1,e1,w⟩:=s 0 x σ st rfl h
  obtain ⟨fl,st2,e2,w⟩:=w.get
  unfold forF
  rw[e1]
  dsimp only
  rw[e2]
  have go:∀σ2,I (k+0+1) σ2 st2→WP (forF bd body xs σ2 st2) Q:=fun σ2 h2=>zhd I xs (k+1) σ2 st2 h2 (fun i y σ st hy hi=>by
   have:=s (i+1) y σ st (by simpa using hy) (by rw[show k+(i+1)=k+1+i by omega];exact hi)
   rw[show k+(i+1)+1=k+1+i+1 by omega] at this
   exact this) (fun σ st h=>q σ st (by rw[List.length_cons,show k+(xs.length+1)=k+1+xs.length by omega];exact h))
  cases fl with
  | nx σ2=>exact go σ2 w
  | ct σ2=>exact go σ2 w
  | brk σ2=>exact w
  | ret v=>exact w
theorem wp_for {bd:SG} {body:SS} {Q:Fl→Store→Prop} (I:Nat→DS→Store→Prop) {xs:List D} {σ:DS} {st:Store} (h0:I 0 σ st)
  (s:∀i x σ st,xs[i]?=some x→I i σ st→∃σ1,bd x σ=some σ1∧WP (body σ1 st) (loopK (I (i+1)) Q)) (q:∀σ st,I xs.length σ st→Q (.nx σ) st):WP (forF bd body xs σ st) Q :=
 zhd I xs 0 σ st h0 (fun i x σ st hx hi=>by rw[Nat.zero_add] at hi ⊢;exact s i x σ st hx hi) fun σ st h=>q σ st (by rw[Nat.zero_add] at h;exact h)
theorem L:(∀{I:DS→Store→Prop} {Q:Fl→Store→Prop} {σ:DS} {st:Store},loopK I Q (.nx σ) st=I σ st)
 ∧ (∀{I:DS→Store→Prop} {Q:Fl→Store→Prop} {σ:DS} {st:Store},loopK I Q (.ct σ) st=I σ st)
 ∧ (∀{I:DS→Store→Prop} {Q:Fl→Store→Prop} {σ:DS} {st:Store},loopK I Q (.brk σ) st=Q (.nx σ) st)
 ∧ (∀{I:DS→Store→Prop} {Q:Fl→Store→Prop} {v:D} {st:Store},loopK I Q (.ret v) st=Q (.ret v) st):=⟨rfl,rfl,rfl,rfl⟩
theorem zen {bd:SG} {c:ST} {f:SE} (I:Nat→List D→DS→Store→Prop):∀(xs:List D) (k:Nat) (acc:List D) (σ:DS) (st:Store) (Q:List D→Store→Prop),I k acc σ st →
  (∀i x acc σ st,xs[i]?=some x→I (k+i) acc σ st→∃σ1,bd x σ=some σ1∧WP (c σ1 st) (fun b st1=>if b=true then WP (f σ1 st1) (fun y st2=>I (k+i+1) (acc++[y]) σ1 st2) else I (k+i+1) acc σ1 st1)) →
  (∀ys σ st,I (k+xs.length) (acc++ys) σ st→Q ys st)→WP (compF bd c f xs σ st) Q
 | [],k,acc,σ,st,Q,h,_,q=>q [] σ st (by rw[List.append_nil];exact h)
 | x::xs,k,acc,σ,st,Q,h,s,q=>by
  obtain ⟨σ1,e1,w⟩:=s 0 x acc σ st rfl h
  obtain ⟨b,st1,e2,w⟩:=w.get
  have s':∀i y acc σ st,xs[i]?=some y→I (k+1+i) acc σ st→∃σ1,bd y σ=some σ1∧WP (c σ1 st) (fun b st1=>if b=true then WP (f σ1 st1) (fun y st2=>I (k+1+i+1) (acc++[y]) σ1 st2) else I (k+1+i+1) acc σ1 st1):=fun i y acc σ st hy hi=>by
   have:=s (i+1) y acc σ st (by simpa using hy) (by rw[show k+(i+1)=k+1+i by omega];exact hi)
   rw[show k+(i+1)+1=k+1+i+1 by omega] at this
   exact this
  have ln:∀(zs:List D) σ st,I (k+1+xs.length) zs σ st→I (k+(x::xs).length) zs σ st:=fun zs σ st h=>by rw[List.length_cons,show k+(xs.length+1)=k+1+xs.length by omega];exact h
  unfold compF
  rw[e1]
  dsimp only
  rw[e2]
  dsimp only [zcy]
  cases b with
  | false =>
   rw[if_neg (by decide)] at w ⊢
   exact zen I xs (k+1) acc σ1 st1 Q w s' fun ys σ st h=>q ys σ st (ln _ _ _ h)
  | true =>
   rw[if_pos rfl] at w ⊢
   obtain ⟨y,st2,e3,w⟩:=w.get
   rw[e3]
   dsimp only [zcy]
   rw[zh]
   exact zen I xs (k+1) (acc++[y]) σ1 st2 _ w s' fun ys σ st h=>q (y::ys) σ st (ln _ _ _ (by rw[List.append_assoc] at h;exact h))
theorem zkr {bd:SG} {c:ST} {f:SE} {Q:List D→Store→Prop} (I:Nat→List D→DS→Store→Prop) {xs:List D} {σ:DS} {st:Store} (h0:I 0 [] σ st)
  (s:∀i x acc σ st,xs[i]?=some x→I i acc σ st→∃σ1,bd x σ=some σ1∧WP (c σ1 st) (fun b st1=>if b=true then WP (f σ1 st1) (fun y st2=>I (i+1) (acc++[y]) σ1 st2) else I (i+1) acc σ1 st1))
  (q:∀ys σ st,I xs.length ys σ st→Q ys st):WP (compF bd c f xs σ st) Q :=
 zen I xs 0 [] σ st Q h0 (fun i x acc σ st hx hi=>by rw[Nat.zero_add] at hi ⊢;exact s i x acc σ st hx hi) fun ys σ st h=>q ys σ st (by rw[Nat.zero_add] at h;simpa using h)
theorem wp_map {bd:SG} {c:ST} {f:SE} {α:Type} (S:DS→Prop) (P:α→Bool) (G:α→D) (E:α→D) {as:List α} {σ:DS} {st:Store} {Q:List D→Store→Prop} (h0:S σ)
  (s:∀x∈as,∀σ,S σ→∃σ1,bd (E x) σ=some σ1∧S σ1∧WP (c σ1 st) (fun b st1=>st1=st∧b=P x)∧(P x=true→WP (f σ1 st) (fun y st1=>st1=st∧y=G x)))
  (q:Q ((as.filter P).map G) st):WP (compF bd c f (as.map E) σ st) Q:=by
 refine zkr (fun i acc σ s'=>S σ∧s'=st∧acc=((as.take i).filter P).map G) ⟨h0,rfl,rfl⟩ (fun i x acc σ s' hx hI=>?_) fun ys σ s' hI=>?_
 ·obtain ⟨hS,rfl,rfl⟩:=hI
  rw[List.getElem?_map] at hx
  obtain ⟨z,hz,rfl⟩:=Option.map_eq_some_iff.mp hx
  obtain ⟨σ1,e1,hS1,w1,w2⟩:=s z (List.mem_of_getElem? hz) σ hS
  refine ⟨σ1,e1,w1.mono fun b st1 hb=>?_⟩
  obtain ⟨rfl,rfl⟩:=hb
  cases hP:P z with
  | false =>
   rw[if_neg (by decide)]
   refine ⟨hS1,rfl,?_⟩
   rw[zbl hz,List.filter_append,List.filter_cons_of_neg (by rw[hP];decide)]
   simp
  | true =>
   rw[if_pos rfl]
   refine (w2 hP).mono fun y st2 hy=>?_
   obtain ⟨rfl,rfl⟩:=hy
   refine ⟨hS1,rfl,?_⟩
   rw[zbl hz,List.filter_append,List.filter_cons_of_pos hP,List.map_append]
   simp
 ·obtain ⟨_,rfl,rfl⟩:=hI
  rw[List.length_map,List.take_length]
  exact q
end Dd
set_option maxHeartbeats 4000000
namespace Dd
open PySem L2
theorem V:(∀{α:Type} {a b:α} {l:List α},(a::l).set 0 b=b::l)
 ∧ (∀{α:Type} {a b:α} {l:List α} {i:Nat},(a::l).set (i+1) b=a::l.set i b)
 ∧ (∀{σ:DS} {k:Nat} {is:List Nat},startD k is σ=List.replicate k none++is.map fun i=>(σ[i]?).getD none)
 ∧ (∀{α:Type} {a:α} {k:Nat},List.replicate (k+1) a=a::List.replicate k a)
 ∧ (∀{α:Type} {a:α},List.replicate 0 a=[])
 ∧ (∀{α β:Type} {f:α→β} {a:α} {l:List α},(a::l).map f=f a::l.map f)
 ∧ (∀{α β:Type} {f:α→β},([]:List α).map f=[])
 ∧ (∀{α:Type} {a:α} {l m:List α},(a::l)++m=a::(l++m))
 ∧ (∀{α:Type} {l:List α},[]++l=l)
 ∧ (∀{α:Type} {a:α} {l:List α},(a::l)[0]?=some a)
 ∧ (∀{α:Type} {a:α} {l:List α} {i:Nat},(a::l)[i+1]?=l[i]?)
 ∧ (∀{α:Type} {a:α} {d:α},(some a).getD d=a)
 ∧ (∀{i:Nat} {d:D} {σ:DS},gN i d σ=some (σ.set i (some d)))
 ∧ (∀{p:Prop} [Decidable p],(decide p=true)=p)
 ∧ (∀{p:Prop} [Decidable p],((!decide p)=true)=¬ p)
 ∧ (∀{b:Bool},((!b)=true)=(b=false))
 ∧ (∀{a b:Prop},(if True then a else b)=a)
 ∧ (∀{a b:Prop},(if False then a else b)=b)
 ∧ (∀{a b:Prop},(if true=true then a else b)=a)
 ∧ (∀{a b:Prop},(if false=true then a else b)=b)
 ∧ (∀{α:Type} {a b:α},(if True then a else b)=a)
 ∧ (∀{α:Type} {a b:α},(if False then a else b)=b)
 ∧ ((true=false)=False)∧((false=true)=False)∧((true=true)=True)∧((false=false)=True)∧((¬ True)=False)∧((¬ False)=True):=by
 refine ⟨rfl,rfl,rfl,rfl,rfl,rfl,rfl,rfl,rfl,rfl,?_,rfl,rfl,?_,?_,?_,rfl,rfl,rfl,rfl,rfl,rfl,by simp,by simp,by simp,by simp,by simp,by simp⟩
 ·intros;rfl
 ·intro p _;simp
 ·intro p _;simp
 ·intro b;simp
theorem M:(∀{f:SE} {σ:DS} {st:Store} {Q:Option Int→Store→Prop},WP (pSome f σ st) Q=WP (f σ st) (fun v st1=>∃i,v=.int i∧Q (some i) st1))
 ∧ (∀{σ:DS} {st:Store} {Q:Option Int→Store→Prop},WP (pNone σ st) Q=Q none st)
 ∧ (∀{f:SE} {lo hi:DS→Store→Res (Option Int)} {σ:DS} {st:Store} {Q:D→Store→Prop},WP (eSl f lo hi σ st) Q=WP (f σ st) (fun x st1=>WP (lo σ st1) (fun l st2=>WP (hi σ st2) (fun h st3=>(∃xs,x=.tup xs∧Q (.tup (cutD xs l h)) st3)∨(∃xs,asL st3 x=some xs∧Q (.lst (cutD xs l h)) st3)))))
 ∧ (∀{f:SE} {σ:DS} {st:Store} {Q:D→Store→Prop},WP (eFz f σ st) Q=WP (f σ st) (fun x st1=>∃n xs,x=.ref n∧st1[n]?=some (.lst xs)∧Q (.lst xs) (st1.set n .dead)))
 ∧ (∀{f g h:SE} {σ:DS} {st:Store} {Q:Fl→Store→Prop},WP (sSetIx f g h σ st) Q=WP (h σ st) (fun v st1=>WP (f σ st1) (fun x st2=>WP (g σ st2) (fun y st3=>∃n k xs j,x=.ref n∧y=.int k∧st3[n]?=some (.lst xs)∧ixN xs.length k=some j∧Q (.nx σ) (st3.set n (.lst (xs.set j v)))))))
 ∧ (∀{f:SE} {g:SA} {σ:DS} {st:Store} {Q:D→Store→Prop},WP (eAppend f g σ st) Q=WP (f σ st) (fun x st1=>∃n xs0,x=.ref n∧st1[n]?=some (.lst xs0)∧WP (g σ st1) (fun ys st2=>∃y xs,ys=[y]∧st2[n]?=some (.lst xs)∧xs.length < sizeLine∧Q .non (st2.set n (.lst (xs++[y]))))))
 ∧ (∀{x:D} {st:Store} {Q:D→Store→Prop},WP (bSum [x] st) Q=∃ns,(seqOf st x).bind asInts=some ns∧Q (.int ns.sum) st)
 ∧ (∀{x:D} {al:Bool} {st:Store} {Q:D→Store→Prop},WP (bAny al [x] st) Q=∃bs,(asL st x).bind asBools=some bs∧Q (.bl (if al then bs.all id else bs.any id)) st)
 ∧ (∀{x:D} {gt:Bool} {st:Store} {Q:D→Store→Prop},WP (bBest gt [x] st) Q=∃n ns,(seqOf st x).bind asInts=some (n::ns)∧Q (.int (bestI gt n ns)) st)
 ∧ (∀{g:SA} {σ:DS} {st:Store} {Q:List D→Store→Prop},WP (iZipT g σ st) Q=WP (g σ st) (fun xs st1=>∃a b,xs=[.tup a,.tup b]∧Q (pairsF a b) st1))
 ∧ (∀{i:Nat} {g:D→D→Store→Res D} {f:SE} {σ:DS} {st:Store} {Q:Fl→Store→Prop},WP (sAug i g f σ st) Q=∃x,σ[i]?=some (some x)∧WP (f σ st) (fun y st1=>WP (g x y st1) (fun z st2=>Q (.nx (σ.set i (some z))) st2))):=by
 refine ⟨?_,rfl,?_,?_,?_,?_,?_,?_,?_,?_,?_⟩
 ·intros;rw[zwp,zh];congr;funext x st1
  cases x<;>simp[WP]
 ·intros;rw[eSl_v,zh];congr;funext x st1;rw[zh];congr;funext l st2;rw[zh];congr;funext h st3
  apply propext
  split
  ·constructor
   ·intro q;exact .inl ⟨_,rfl,q⟩
   ·rintro (⟨xs,e,q⟩ | ⟨xs,e,q⟩)
    ·cases e;exact q
    ·cases e
  ·rename_i hne
   constructor
   ·intro q
    split at q
    ·rename_i xs e;exact .inr ⟨xs,e,q⟩
    ·exact q.elim
   ·rintro (⟨xs,e,q⟩ | ⟨xs,e,q⟩)
    ·exact absurd e (hne xs)
    ·rw[e];exact q
 ·intros;rw[eFz_v,zh];congr;funext x st1
  apply propext
  constructor
  ·intro q
   split at q
   ·split at q
    ·rename_i xs e;exact ⟨_,xs,rfl,e,q⟩
    ·exact q.elim
   ·exact q.elim
  ·rintro ⟨n,xs,rfl,e,q⟩
   dsimp only
   rw[e];exact q
 ·intros;rw[zsw,zh];congr;funext v st1;rw[zh];congr;funext x st2;rw[zh];congr;funext y st3
  apply propext
  constructor
  ·intro q
   split at q
   ·split at q
    ·split at q
     ·exact ⟨_,_,_,_,rfl,rfl,by assumption,by assumption,q⟩
     ·exact q.elim
    ·exact q.elim
   ·exact q.elim
  ·rintro ⟨n,k,xs,j,rfl,rfl,e1,e2,q⟩
   dsimp only
   rw[e1]
   dsimp only
   rw[e2]
   exact q
 ·intros;rw[zqv,zh];congr;funext x st1
  apply propext
  constructor
  ·intro q
   split at q
   ·rename_i n xs0 e
    rw[zh] at q
    have e':st1[n]?=some (.lst xs0):=by
     unfold asL at e
     dsimp only at e
     split at e
     ·cases e;assumption
     ·cases e
    refine ⟨n,xs0,rfl,e',q.mono fun ys st2 h=>?_⟩
    split at h
    ·split at h
     ·exact ⟨_,_,rfl,by assumption,by assumption,h⟩
     ·exact h.elim
    ·exact h.elim
   ·exact q.elim
  ·rintro ⟨n,xs0,rfl,e,q⟩
   rw[zgz e]
   dsimp only
   rw[zh]
   refine q.mono fun ys st2 h=>?_
   obtain ⟨y,xs,rfl,e2,hl,h⟩:=h
   rw[e2]
   dsimp only
   rw[if_pos hl]
   exact h
 ·intro x st Q
  unfold bSum
  dsimp only
  cases h:(seqOf st x).bind asInts with
  | none=>simp[WP]
  | some ns=>simp[WP]
 ·intro x al st Q
  unfold bAny
  dsimp only
  cases h:(asL st x).bind asBools with
  | none=>simp[WP]
  | some ns=>simp[WP]
 ·intro x gt st Q
  unfold bBest
  dsimp only
  cases h:(seqOf st x).bind asInts with
  | none=>simp[WP]
  | some ns =>
   cases ns with
   | nil=>simp[WP]
   | cons n ns =>
    apply propext
    constructor
    ·intro q;exact ⟨_,_,rfl,q⟩
    ·rintro ⟨a,b,e,q⟩;cases e;exact q
 ·intro g σ st Q
  unfold iZipT
  rw[zh];congr;funext x st1
  apply propext
  constructor
  ·intro q
   split at q
   ·exact ⟨_,_,rfl,q⟩
   ·exact q.elim
  ·rintro ⟨a,b,rfl,q⟩
   exact q
 ·intro i g f σ st Q
  rw[sAug_v]
  apply propext
  constructor
  ·intro q
   split at q
   ·rename_i x e
    rw[zh] at q
    exact ⟨x,e,q.mono fun y st1 h=>by rw[zh] at h;exact h⟩
   ·exact q.elim
  ·rintro ⟨x,e,q⟩
   rw[e]
   dsimp only
   rw[zh]
   exact q.mono fun y st1 h=>by rw[zh];exact h
theorem N:(∀{xs:List D} {P:List D→Prop},(∃ys,D.tup xs=D.tup ys∧P ys)=P xs)
 ∧ (∀{i:Int} {P:Int→Prop},(∃j,D.int i=D.int j∧P j)=P i)
 ∧ (∀{xs:List D} {st:Store} {P:List D→Prop},(∃ys,asL st (.tup xs)=some ys∧P ys)=False)
 ∧ (∀{xs:List D} {st:Store} {P:List D→Prop},(∃ys,asL st (.lst xs)=some ys∧P ys)=P xs)
 ∧ (∀{xs:List D} {P:List D→Prop},(∃ys,seqV (.tup xs)=some ys∧P ys)=P xs)
 ∧ (∀{xs:List D} {P:List D→Prop},(∃ys,seqV (.lst xs)=some ys∧P ys)=P xs)
 ∧ (∀{b:Bool} {st:Store} {P:Bool→Prop},(∃c,tru st (.bl b)=some c∧P c)=P b)
 ∧ (∀{i:Int} {P:Int→Prop},(∃j,[D.int i]=[D.int j]∧P j)=P i)
 ∧ (∀{i j:Int} {P:Int→Int→Prop},(∃k l,[D.int i,D.int j]=[D.int k,D.int l]∧P k l)=P i j)
 ∧ (∀{x:D} {P:D→Prop},(∃y,[x]=[y]∧P y)=P x)
 ∧ (∀{a b:List D} {P:List D→List D→Prop},(∃c d,[D.tup a,D.tup b]=[.tup c,.tup d]∧P c d)=P a b)
 ∧ (∀{p:Prop},(p∨False)=p)∧(∀{p:Prop},(True∧p)=p):=by
 refine ⟨?_,?_,?_,?_,?_,?_,?_,?_,?_,?_,?_,by simp,by simp⟩
 ·intros;apply propext;exact ⟨fun ⟨_,e,p⟩=>by cases e;exact p,fun p=>⟨_,rfl,p⟩⟩
 ·intros;apply propext;exact ⟨fun ⟨_,e,p⟩=>by cases e;exact p,fun p=>⟨_,rfl,p⟩⟩
 ·intros;apply propext;exact ⟨fun ⟨_,e,p⟩=>(by cases e),fun p=>p.elim⟩
 ·intros;apply propext;exact ⟨fun ⟨_,e,p⟩=>by cases e;exact p,fun p=>⟨_,rfl,p⟩⟩
 ·intros;apply propext;exact ⟨fun ⟨_,e,p⟩=>by cases e;exact p,fun p=>⟨_,rfl,p⟩⟩
 ·intros;apply propext;exact ⟨fun ⟨_,e,p⟩=>by cases e;exact p,fun p=>⟨_,rfl,p⟩⟩
 ·intros;apply propext;exact ⟨fun ⟨_,e,p⟩=>by cases e;exact p,fun p=>⟨_,rfl,p⟩⟩
 ·intros;apply propext;exact ⟨fun ⟨_,e,p⟩=>by cases e;exact p,fun p=>⟨_,rfl,p⟩⟩
 ·intros;apply propext;exact ⟨fun ⟨_,_,e,p⟩=>by cases e;exact p,fun p=>⟨_,_,rfl,p⟩⟩
 ·intros;apply propext;exact ⟨fun ⟨_,e,p⟩=>by cases e;exact p,fun p=>⟨_,rfl,p⟩⟩
 ·intros;apply propext;exact ⟨fun ⟨_,_,e,p⟩=>by cases e;exact p,fun p=>⟨_,_,rfl,p⟩⟩
section
variable {st:Store} {n:Nat} {Q:D→Store→Prop}
theorem zkw {m:Int} (hb:BagAt st n) (h1:1≤m) (h2:m≤1000000) (k:∀r st',0≤r→r < m→Drew st st' n→Q (.int r) st'):WP (zbg [.ref n,.int m] st) Q:=by
 obtain ⟨r,st',e,a1,a2,a3,_⟩:=zvl hb h1 (Int.lt_of_le_of_lt h2 (by decide +kernel))
 exact WP.of e (k r st' a1 a2 a3)
theorem ix_wp {x:D} {xs:List D} {i:Int} {d:D} (h:seqOf st x=some xs) (h2:L2.atI xs i=some d) (q:Q d st):WP (oIx x (.int i) st) Q:=WP.of (oIx_of h h2) q
theorem zrt {xs:List D} {i:Int} (h0:0≤i) (h1:i < xs.length) (q:∀d∈xs,Q d st):WP (oIx (.lst xs) (.int i) st) Q:=by
 obtain ⟨j,rfl⟩:=Int.eq_ofNat_of_zero_le h0
 have hj:j < xs.length:=by omega
 exact ix_wp (xs:=xs) (d:=xs[j]) rfl (zoz (List.getElem?_eq_getElem hj)) (q _ (List.getElem_mem hj))
theorem bag_wp {ns:List Int} {i:Nat} (hl:ns.length≤63) (hi:i≤100000) (k:∀g,BagAt (st++g) st.length→Q (.ref st.length) (st++g)):WP (zed [.scr (ns.map .int),.int i] st) Q:=by
 obtain ⟨c,x,hc,hx,e⟩:=bag_ok (st:=st) hl hi
 exact WP.of e (k _ ⟨c,x,by simp,hc,hx⟩)
end
end Dd
set_option maxHeartbeats 4000000
namespace Dd
open PySem L2
end Dd
set_option maxHeartbeats 4000000
namespace Dd
open PySem L2
theorem BagAt.lt {st:Store} {n:Nat} (h:BagAt st n):n < st.length:=by obtain ⟨c,x,e,_⟩:=h;exact zcn e
theorem zea {α:Type} (l:List α):(l.filter fun _=>true)=l:=List.filter_eq_self.mpr (by simp)
theorem zhr {α:Type} (P:α→Bool):∀as:List α,asBools (as.map fun x=>.bl (P x))=some (as.map P)
 | []=>rfl
 | x::as=>by rw[List.map_cons,asBools,zhr P as];rfl
section
variable {st:Store} {n:Nat} {Q:D→Store→Prop}
theorem zrw {x:D} {l:List (List Int)} (hx:seqV x=some (rowsD l)) (hl:l.length≤1000000) (k:∀g,Q (sumD (oddS l)) (st++g)):WP (zbv [x] st) Q:=by
 have h1:=zdz l
 obtain ⟨g,e⟩:=zmp (st:=st) hx (by omega) (by omega)
 exact WP.of e (k g)
end
end Dd
set_option maxHeartbeats 4000000
namespace Dd
open PySem L2
section
variable {st:Store} {n:Nat} {Q:D→Store→Prop}
end
end Dd
set_option maxHeartbeats 4000000
namespace Dd
open PySem L2
section
variable {S:D} {v1 v2 v5 v6 v7 v8:Option D} {N:Int} {l:List (List Int)} {st:Store} {I:DS→Store→Prop} {Q:Fl→Store→Prop}
end
end Dd
namespace K61
end K61
set_option maxHeartbeats 4000000
namespace Dd
open PySem L2
section
variable {k:Nat} {d:D} {st:Store}
end
section
variable {k:Nat} {d:D} {st:Store} {Q:D→Store→Prop}
end
end Dd
set_option maxHeartbeats 4000000
namespace Dd
open PySem L2
section
variable {k:Nat} {d:D} {st:Store} {Q:D→Store→Prop}
end
end Dd
set_option maxHeartbeats 4000000
namespace Dd
open PySem L2
theorem zdj {s t:SS} {σ:DS} {st:Store} {Q R:Fl→Store→Prop} (h:WP (s σ st) R) (k:∀fl s',R fl s'→seqK t Q fl s'):WP (sSeq s t σ st) Q:=by
 rw[wp_seq]
 exact h.mono k
section
variable {st:Store} {n:Nat} {Q:D→Store→Prop}
end
end Dd
set_option maxHeartbeats 4000000
namespace Dd
open PySem L2
section
variable {st:Store} {n:Nat} {Q:D→Store→Prop}
theorem zxl {ks:List (List Int)} {k:List Int} (h:st[n]?=some (.dT (trueD ks))) (hl:ks.length≤1000000) (q:Q .non (st.set n (.dT (trueD (flipL ks k))))):WP (F_flip [.ref n,rowD k] st) Q:=WP.of (zxm h hl) q
theorem zpr {ks:List (List Int)} (h:st[n]?=some (.dT (trueD ks))) (hl:ks.length≤1000000) (q:Q (.lst (rowsD (sortR ks))) st):WP (bSorted [.ref n] st) Q:=WP.of (zmf h hl) q
end
end Dd
set_option maxHeartbeats 4000000
namespace Dd
open PySem L2
section
variable {st:Store} {n:Nat} {Q:D→Store→Prop}
end
end Dd
namespace K03
end K03
namespace K13
open PySem PyProof.Rows
end K13
set_option maxHeartbeats 4000000
namespace Dd
open PySem L2 K13
theorem zjm {c:ST} {body:SS} {Q:Fl→Store→Prop} (I:Nat→DS→Store→Prop) {k:Nat} {σ:DS} {st:Store} (h0:I k σ st) (hm:k < 1000000)
  (s:∀j σ st,I j σ st→WP (c σ st) (fun b st1=>if b=true then WP (body σ st1) (loopK (fun σ2 st2=>∃i,i < j∧I i σ2 st2) Q) else Q (.nx σ) st1)):WP (sWhile c body σ st) Q:=by
 have main:∀n j σ st,I j σ st→j < n→WP (whileF c body n σ st) Q:=by
  intro n
  induction n with
  | zero=>intro j σ st _ h;omega
  | succ n ih =>
   intro j σ st hI hlt
   obtain ⟨b,st1,e1,w⟩:=(s j σ st hI).get
   unfold whileF
   rw[e1]
   dsimp only [zcy]
   cases b with
   | false=>exact w
   | true =>
    rw[if_pos rfl] at w ⊢
    obtain ⟨fl,st2,e2,w⟩:=w.get
    rw[e2]
    cases fl with
    | nx σ2=>obtain ⟨i,hi,h⟩:=w;exact ih i σ2 st2 h (by omega)
    | ct σ2=>obtain ⟨i,hi,h⟩:=w;exact ih i σ2 st2 h (by omega)
    | brk σ2=>exact w
    | ret v=>exact w
 exact main wCap k σ st h0 hm
section
variable {st:Store} {n:Nat} {Q:D→Store→Prop}
end
end Dd
set_option maxHeartbeats 4000000
namespace Dd
open PySem L2
section
variable {k:Nat} {d:D} {st:Store}
end
section
variable {st:Store} {Q:D→Store→Prop}
end
end Dd
set_option maxHeartbeats 4000000
namespace Dd
open PySem L2
section
variable {st:Store} {k:Nat} {d:D} {m:Int} {Q:D→Store→Prop}
end
end Dd
set_option maxHeartbeats 4000000
namespace Dd
open PySem L2 K13
section
variable {st:Store} {n:Nat} {Q:D→Store→Prop}
theorem zca (o o':O) (g:Store):(st++o::g).set st.length o'=st++o'::g:=by simp
theorem zbk (o:O) (g:Store):(st++o::g)[st.length]?=some o:=by simp
end
end Dd
set_option maxHeartbeats 4000000
namespace Dd
open PySem L2
noncomputable abbrev RowI:=List Int
noncomputable def wtI:Int→RowI→Int
 | _,[]=>0
 | w,x::r=>w * x+wtI (2 * w+1) r
section
variable {st:Store} {Q:D→Store→Prop}
theorem zkz {r:RowI} (hr:r.length≤4) (q:Q (.int (wtI 1 r)) st):WP (zcc [rowD r] st) Q:=by
 refine wp_fn rfl ?_
 simp only[W,V]
 refine ⟨r.map .int,rfl,?_⟩
 refine wp_for (fun i σ s=>∃(t w:Int) (v:Option D),σ=[some (rowD r),some (.int t),some (.int w),v]∧s=st∧t+wtI w (r.drop i)=wtI 1 r∧0≤w∧w+1≤((2 ^ (i+1):Nat):Int)) ⟨0,1,_,rfl,rfl,by simp,by omega,by decide⟩ ?_ ?_
 ·rintro i x σ s hx ⟨t,w,v,rfl,rfl,h1,h2,h3⟩
  obtain ⟨y,hy,rfl⟩:∃y,r[i]?=some y∧x=.int y:=by
   rw[List.getElem?_map] at hx
   obtain ⟨y,hy,rfl⟩:=Option.map_eq_some_iff.mp hx
   exact ⟨y,hy,rfl⟩
  have hi:i < r.length:=by
   rcases Nat.lt_or_ge i r.length with h | h
   ·exact h
   ·rw[List.getElem?_eq_none h] at hy;cases hy
  have hw:w≤32:=by
   have:2 ^ (i+1)≤2 ^ 5:=Nat.pow_le_pow_right (by decide) (by omega)
   omega
  have e:r.drop i=y::r.drop (i+1):=by
   rw[List.drop_eq_getElem_cons hi]
   rw[List.getElem?_eq_getElem hi] at hy
   cases hy
   rfl
  rw[e,wtI] at h1
  refine ⟨_,rfl,?_⟩
  unfold zfb
  simp only[W,V,M,L]
  refine ⟨.int t,rfl,.inl ⟨by omega,by omega⟩,WP.of (show oI (fun _ _=>True) (fun i j=>D.int (i+j)) (.int t) (.int (w * y)) s=.ok (.int (t+w * y)) s from rfl) ⟨.inl ⟨by omega,by omega⟩,t+w * y,2 * w+1,_,rfl,rfl,by rw[← h1];omega,by omega,?_⟩⟩
  rw[Nat.pow_succ]
  omega
 ·rintro σ s ⟨t,w,v,rfl,rfl,h1,h2,h3⟩
  rw[List.length_map,List.drop_length] at h1
  simp only[W,V]
  rw[show t=wtI 1 r by rw[← h1];simp[wtI]]
  exact q
end
end Dd
set_option maxHeartbeats 4000000
namespace Dd
open PySem L2
section
variable {st:Store} {k:Nat} {d:D} {Q:D→Store→Prop}
end
end Dd
set_option maxHeartbeats 4000000
namespace Dd
open PySem L2
section
variable {st:Store} {n:Nat} {Q:D→Store→Prop}
theorem zvy {p:Nat} {σ:DS} {s:Store} {x:D} {ys:List D} {i:Nat} (hi:σ[i]?=some (some (.ref p))) (h:s[p]?=some (.lst (x::ys))):ePopZ (eVar i) (aCons (eC (.int 0)) aNil) σ s=.ok x (s.set p (.lst ys)):=by
 have e1:eVar i σ s=.ok (.ref p) s:=by unfold eVar;rw[hi]
 unfold ePopZ
 rw[e1]
 show (match s[p]? with
  | some (.lst _)=>Res.bind (aCons (eC (.int 0)) aNil σ s) _
  | _=>.stuck)=_
 rw[h]
 show (match [D.int 0],s[p]? with
  | [.int 0],some (.lst (y::zs))=>Res.ok y (s.set p (.lst zs))
  | _,_=>.stuck)=_
 rw[h]
 rfl
end
end Dd
namespace K37
end K37
set_option maxHeartbeats 4000000
namespace Dd
open PySem L2 K13
theorem zpg {f:SE} {g:SA} {σ:DS} {st:Store} {Q:D→Store→Prop}:WP (eExtend f g σ st) Q=WP (f σ st) (fun x st1=>∃n xs0,x=.ref n∧st1[n]?=some (.lst xs0)∧WP (g σ st1) (fun ys st2=>∃y xs zs,ys=[y]∧st2[n]?=some (.lst xs)∧asL st2 y=some zs∧xs.length+zs.length≤sizeLine∧Q .non (st2.set n (.lst (xs++zs))))):=by
 rw[zqu,zh]
 congr
 funext x st1
 apply propext
 constructor
 ·intro q
  split at q
  ·rename_i n xs0 e
   rw[zh] at q
   have e':st1[n]?=some (.lst xs0):=by
    unfold asL at e
    dsimp only at e
    split at e
    ·cases e;assumption
    ·cases e
   refine ⟨n,xs0,rfl,e',q.mono fun ys st2 h=>?_⟩
   split at h
   ·split at h
    ·split at h
     ·exact ⟨_,_,_,rfl,by assumption,by assumption,by assumption,h⟩
     ·exact h.elim
    ·exact h.elim
   ·exact h.elim
  ·exact q.elim
 ·rintro ⟨n,xs0,rfl,e,q⟩
  rw[zgz e]
  dsimp only
  rw[zh]
  refine q.mono fun ys st2 h=>?_
  obtain ⟨y,xs,zs,rfl,e2,e3,hl,h⟩:=h
  rw[e2]
  dsimp only
  rw[e3]
  dsimp only
  rw[if_pos hl]
  exact h
section
variable {st:Store} {n:Nat} {Q:D→Store→Prop}
end
end Dd
set_option maxHeartbeats 4000000
namespace Dd
open PySem L2
end Dd
set_option maxHeartbeats 4000000
namespace Dd
open PySem L2
section
variable {st:Store} {n:Nat} {Q:D→Store→Prop}
theorem _root_.List.set_getElem_self' {α:Type} {s:List α} {m:Nat} {x:α} (h:s[m]?=some x):s.set m x=s:=by
 obtain ⟨hm,rfl⟩:=List.getElem?_eq_some_iff.mp h
 exact List.set_getElem_self hm
end
end Dd
namespace K39
end K39
set_option maxHeartbeats 4000000
namespace Dd
open PySem L2 K07 K23
theorem zgp {st:Store} {l:List (List Int)} (hr:∀r∈l,r.length≤1000):zbq [sumD l,sumD l] st=.ok (.bl true) st:=by
 have W:=for_ok (bd:=gN 2) (body:=zbz) (xs:=rowsD l) (σ:=[some (sumD l),some (sumD l),none]) (st:=st) (fun i σ s=>s=st∧∃v,σ=[some (sumD l),some (sumD l),v]) ⟨rfl,none,rfl⟩ (by
   rintro i y σ s hy ⟨rfl,v,rfl⟩
   obtain ⟨r,hk,rfl⟩:=zdy hy
   have hrl:=hr r (List.mem_of_getElem? hk)
   have V := zsj (bd := gN 0) (c := bYes) (f := eOr (eNot (eCall bIsinst (aCons (eVar 0) (aCons (eC (.ty "int")) aNil)))) (eCall bIsinst (aCons (eVar 0) (aCons (eC (.ty "bool")) aNil)))) (xs := r.map D.int) (σ := [none]) (st := s)
    (fun i acc σ s'=>s'=s∧(∃v,σ=[v])∧acc=(r.take i).map fun _=>D.bl false) ⟨rfl,⟨none,rfl⟩,rfl⟩ (by
     rintro i y acc σ s' hy ⟨rfl,⟨v,rfl⟩,rfl⟩
     rw[List.getElem?_map] at hy
     cases hx:r[i]? with
     | none=>rw[hx] at hy;cases hy
     | some x =>
      rw[hx] at hy
      cases hy
      refine ⟨[some (.int x)],true,s',rfl,rfl,.inr ⟨rfl,.bl false,s',rfl,rfl,⟨_,rfl⟩,?_⟩⟩
      rw[zbl hx]
      simp)
   obtain ⟨ys,σ',st',e,rfl,_,rfl⟩:=V
   rw[zio,List.take_length] at e
   have ec : eComp (iSeq (eVar 2)) 1 [] (gN 0) bYes (eOr (eNot (eCall bIsinst (aCons (eVar 0) (aCons (eC (.ty "int")) aNil)))) (eCall bIsinst (aCons (eVar 0) (aCons (eC (.ty "bool")) aNil)))) [some (sumD l), some (sumD l), some (rowD r)] st' = .ok (.lst (r.map fun _ => D.bl false)) st' := by
    rw[zob]
    show (if (r.map D.int).length≤sizeLine then _ else _)=_
    rw[if_pos (by rw[zio];exact small _ (by omega))]
    show ((compF _ _ _ _ [none] _).bind _)=_
    rw[e]
    rfl
   have eb:bAny false [.lst (r.map fun _=>D.bl false)] st'=.ok (.bl false) st':=by
    have:asBools (r.map fun _=>D.bl false)=some (r.map fun _=>false):=by
     clear e ec hrl hk hy
     induction r with
     | nil=>rfl
     | cons a r ih=>rw[List.map_cons,asBools,ih];rfl
    unfold bAny
    simp[this]
   refine ⟨[some (sumD l),some (sumD l),some (rowD r)],[some (sumD l),some (sumD l),some (rowD r)],st',rfl,?_,rfl,_,rfl⟩
   unfold zbz
   have t1 : bNot (eTru (eCall bIsinst (aCons (eVar 2) (aCons (eC (.ty "tuple")) aNil)))) [some (sumD l), some (sumD l), some (rowD r)] st' = .ok false st' := rfl
   have t2 : eTru (eCall (bAny false) (aCons (eComp (iSeq (eVar 2)) 1 [] (gN 0) bYes (eOr (eNot (eCall bIsinst (aCons (eVar 0) (aCons (eC (.ty "int")) aNil)))) (eCall bIsinst (aCons (eVar 0) (aCons (eC (.ty "bool")) aNil))))) aNil)) [some (sumD l), some (sumD l), some (rowD r)] st' = .ok false st' := by
    rw[eTru_v,zoc,zmd,ec]
    show ((bAny false [.lst (r.map fun _=>D.bl false)] st').bind _)=_
    rw[eb]
    rfl
   rw[sIf_v,bOr_v,t1,zcy,if_neg (by decide),t2]
   rfl)
 obtain ⟨σ',st',e,rfl,v,rfl⟩:=W
 refine fn_ret rfl ?_
 refine seqN (σ1:=[some (sumD l),some (sumD l),none]) (st1:=st') ?_ ?_
 ·have t1 : bNot (eTru (eCall bIsinst (aCons (eVar 0) (aCons (eC (.ty "tuple")) aNil)))) [some (sumD l), some (sumD l), none] st' = .ok false st' := rfl
  have t2:eB (eOp oNe (eVar 0) (eVar 1)) [some (sumD l),some (sumD l),none] st'=.ok false st':=by
   rw[eB_v,eOp_v]
   show ((oNe (sumD l) (sumD l) st').bind _)=_
   rw[show oNe (sumD l) (sumD l) st'=_ from zwy l l]
   simp
  show sIf _ _ _ [some (sumD l),some (sumD l),none] st'=_
  rw[sIf_v,bOr_v,t1,zcy,if_neg (by decide),t2]
  rfl
 refine seqN (σ1:=[some (sumD l),some (sumD l),v]) (st1:=st') ?_ rfl
 rw[sFor_v]
 exact e
end Dd
set_option maxHeartbeats 4000000
namespace Dd
open PySem L2
namespace Tab
noncomputable abbrev RN:=List Nat
noncomputable def nz (r:RN):RN:=r.foldr (fun x l=>match l with
 | []=>bif Nat.beq x 0 then [] else [x]
 | y::l=>x::y::l) []
noncomputable def gt (l:RN) (p:Nat):Nat:=l.getD p 0
noncomputable def put (l:RN) (p:Nat) (v:Nat):RN:=l.take p++v::l.drop (p+1)
noncomputable def lo (a b:Nat):Nat:=bif Nat.ble a b then a else b
noncomputable abbrev T3:=RN × RN × Nat
noncomputable def plOne (a j:Nat) (p:T3) (x:Nat):List T3:=bif Nat.beq (Nat.land (gt p.1 a) x) 0 then [(put p.1 a (gt p.1 a+x),put p.2.1 (j - 1) (gt p.2.1 (j - 1) - x),p.2.2 - x * 2 ^ j)] else []
noncomputable def plAll (i j:Nat) (p:T3):List T3:=(List.range (lo (gt p.2.1 (j - 1)) (p.2.2 / 2 ^ j)+1)).flatMap (plOne (i+j - 1) j p)
noncomputable def plW (i:Nat) (num:Nat) (ps:List (RN × RN)):Nat→List T3
 | 0=>ps.map fun p=>(p.1,p.2,num)
 | k+1=>(plW i num ps k).flatMap (plAll i (k+1))
noncomputable def enOne (i:Nat) (p:T3):List (RN × RN):=bif Nat.beq (Nat.land (gt p.1 (i - 1)) p.2.2) 0 then [(put p.1 (i - 1) (gt p.1 (i - 1)+p.2.2),p.2.1)] else []
noncomputable def liF (i:Nat) (num:Nat) (w:Nat) (ps:List (RN × RN)):List (RN × RN):=(plW i num ps w).flatMap (enOne i)
noncomputable def mbW (r s:RN):Nat→List (RN × RN)
 | 0=>[(List.replicate (r.length+s.length) 0,s)]
 | k+1=>liF (k+1) (gt r k) s.length (mbW r s k)
noncomputable def topOf (p:RN × RN):RN:=p.2++List.replicate (p.1.length - p.2.length) 0
noncomputable def topOne (p:RN × RN):List RN:=bif (p.1.zip (topOf p)).all fun q=>Nat.beq (Nat.land q.1 q.2) 0 then [(p.1.zip (topOf p)).map fun q=>q.1+q.2] else []
noncomputable def madeP (r s:RN):List RN:=((mbW r s r.length).flatMap topOne).map nz
/- the law's side -/
noncomputable def lnStep (left:RN) (j:Nat) (w:Nat × RN):List (Nat × RN):=(List.range (lo (gt left (j - 1)) (w.1 / 2 ^ j)+1)).map fun x=>(w.1 - x * 2 ^ j,w.2++[x])
noncomputable def lnW (num:Nat) (left:RN):Nat→List (Nat × RN)
 | 0=>[(num,[])]
 | k+1=>(lnW num left k).flatMap (lnStep left (k+1))
noncomputable def linesL (num:Nat) (left:RN):List RN:=(lnW num left 4).map fun w=>w.1::w.2
noncomputable def over (left line:RN):RN:=(List.range 4).map fun j=>gt left j - gt line (j+1)
noncomputable def tbStep (num:Nat) (w:List RN × RN):List (List RN × RN):=(linesL num w.2).map fun line=>(w.1++[line],over w.2 line)
noncomputable def tbW (r s:RN):Nat→List (List RN × RN)
 | 0=>[([],s)]
 | k+1=>(tbW r s k).flatMap (tbStep (gt r k))
noncomputable def pad (r:RN):RN:=r++List.replicate (4 - r.length) 0
noncomputable def tablesL (r s:RN):List (List RN):=(tbW (pad r) (pad s) 4).map fun w=>(0::w.2)::w.1
noncomputable def cel (tab:List RN) (t i:Nat):Nat:=gt (tab.getD i []) (t - i)
noncomputable def ixs (t:Nat):List Nat:=(List.range 5).filter fun i=>Nat.ble i t && Nat.blt (t - i) 5
noncomputable def nums (tab:List RN) (t:Nat):RN:=(ixs t).map (cel tab t)
noncomputable def free:Nat→RN→Bool
 | _,[]=>true
 | b,x::l=>bif Nat.beq (Nat.land b x) 0 then free (Nat.lor b x) l else false
noncomputable def madeL (tab:List RN):Option RN:=bif (List.range 8).all fun k=>free 0 (nums tab (k+1)) then some (nz ((List.range 8).map fun k=>(nums tab (k+1)).sum)) else none
noncomputable def foundL (r s:RN):List RN:=(tablesL r s).filterMap madeL
/- what is looked at -/
noncomputable def smI (x:Nat):Bool:=Nat.ble x 16
noncomputable def gM (n c:Nat) (ps:List (RN × RN)):Bool:=Nat.ble ps.length 100 && ps.all fun p=>Nat.beq p.1.length n && Nat.beq p.2.length c && p.2.all smI
noncomputable def gT (n c:Nat) (ps:List T3):Bool:=Nat.ble ps.length 100 && ps.all fun p=>Nat.beq p.1.length n && Nat.beq p.2.1.length c && p.2.1.all smI && smI p.2.2
noncomputable def chkP (r s:RN):Bool:=((List.range (r.length+1)).all fun k=>gM (r.length+s.length) s.length (mbW r s k)) && ((List.range r.length).all fun k=>(List.range (s.length+1)).all fun j=>gT (r.length+s.length) s.length (plW (k+1) (gt r k) (mbW r s k) j))
noncomputable def gL (left:RN) (j:Nat) (ws:List (Nat × RN)):Bool:=Nat.ble ws.length 100 && ws.all fun w=>smI w.1 && Nat.beq w.2.length j && (w.2.zip left).all fun q=>Nat.ble q.1 q.2
noncomputable def gB (k:Nat) (ws:List (List RN × RN)):Bool:=Nat.ble ws.length 100 && ws.all fun w=>Nat.beq w.1.length k && Nat.beq w.2.length 4 && w.2.all smI && w.1.all fun l=>Nat.beq l.length 5
noncomputable def chkL (r s:RN):Bool:=((List.range 5).all fun k=>gB k (tbW r s k)) && ((List.range 4).all fun k=>(tbW r s k).all fun w=>(List.range 5).all fun j=>gL w.2 j (lnW (gt r k) w.2 j))
noncomputable def chk (r s:RN):Bool:=chkP r s && chkL (pad r) (pad s) && decide (madeP r s=foundL r s)
noncomputable def wtN:Nat→RN→Nat
 | _,[]=>0
 | w,x::r=>w * x+wtN (2 * w+1) r
noncomputable def cts:List RN:=(List.range 17).flatMap fun a=>(List.range 6).flatMap fun b=>(List.range 3).flatMap fun c=>(List.range 2).flatMap fun d=>bif Nat.ble (a+3 * b+7 * c+15 * d) 16 then [nz [a,b,c,d]] else []
noncomputable def chkOne (r:RN):Bool:=cts.all fun s=>bif Nat.ble (wtN 1 r+wtN 1 s) 16 then chk r s else true
noncomputable def chkAll:Bool:=cts.all chkOne
end Tab
end Dd
set_option maxHeartbeats 4000000
namespace Dd
open PySem L2
namespace Tab
theorem ck0:List.all [[],[0,0,0,1],[0,0,1],[0,0,2],[0,1],[0,1,1]] chkOne=true:=by decide +kernel
theorem ck1:List.all [[0,2],[0,2,1],[0,3],[0,3,1],[0,4],[0,5]] chkOne=true:=by decide +kernel
theorem ck2:List.all [[1],[1,0,0,1],[1,0,1],[1,0,2],[1,1],[1,1,1]] chkOne=true:=by decide +kernel
theorem ck3:List.all [[1,2],[1,2,1],[1,3],[1,4],[1,5],[2]] chkOne=true:=by decide +kernel
theorem ck4:List.all [[2,0,1],[2,0,2],[2,1],[2,1,1],[2,2],[2,2,1]] chkOne=true:=by decide +kernel
theorem ck5:List.all [[2,3],[2,4],[3],[3,0,1],[3,1],[3,1,1]] chkOne=true:=by decide +kernel
theorem ck6:List.all [[3,2],[3,2,1],[3,3],[3,4],[4],[4,0,1]] chkOne=true:=by decide +kernel
theorem ck7:List.all [[4,1],[4,1,1],[4,2],[4,3],[4,4],[5]] chkOne=true:=by decide +kernel
theorem ck8:List.all [[5,0,1],[5,1],[5,1,1],[5,2],[5,3],[6]] chkOne=true:=by decide +kernel
theorem ck9:List.all [[6,0,1],[6,1],[6,1,1],[6,2],[6,3],[7]] chkOne=true:=by decide +kernel
theorem ck10:List.all [[7,0,1],[7,1],[7,2],[7,3],[8],[8,0,1]] chkOne=true:=by decide +kernel
theorem ck11:List.all [[8,1],[8,2],[9],[9,0,1],[9,1],[9,2]] chkOne=true:=by decide +kernel
theorem ck12:List.all [[10],[10,1],[10,2],[11],[11,1],[12]] chkOne=true:=by decide +kernel
theorem ck13:List.all [[12,1],[13],[13,1],[14],[15],[16]] chkOne=true:=by decide +kernel
theorem cts_eq:cts=[[],[0,0,0,1],[0,0,1],[0,0,2],[0,1],[0,1,1]]++([[0,2],[0,2,1],[0,3],[0,3,1],[0,4],[0,5]]++([[1],[1,0,0,1],[1,0,1],[1,0,2],[1,1],[1,1,1]]++([[1,2],[1,2,1],[1,3],[1,4],[1,5],[2]]++([[2,0,1],[2,0,2],[2,1],[2,1,1],[2,2],[2,2,1]]++([[2,3],[2,4],[3],[3,0,1],[3,1],[3,1,1]]++([[3,2],[3,2,1],[3,3],[3,4],[4],[4,0,1]]++([[4,1],[4,1,1],[4,2],[4,3],[4,4],[5]]++([[5,0,1],[5,1],[5,1,1],[5,2],[5,3],[6]]++([[6,0,1],[6,1],[6,1,1],[6,2],[6,3],[7]]++([[7,0,1],[7,1],[7,2],[7,3],[8],[8,0,1]]++([[8,1],[8,2],[9],[9,0,1],[9,1],[9,2]]++([[10],[10,1],[10,2],[11],[11,1],[12]]++([[12,1],[13],[13,1],[14],[15],[16]]))))))))))))):=by decide +kernel
theorem zri:chkAll=true:=by
 unfold chkAll
 rw[cts_eq]
 simp only[List.all_append,ck0,ck1,ck2,ck3,ck4,ck5,ck6,ck7,ck8,ck9,ck10,ck11,ck12,ck13,Bool.and_self]
theorem chk_of {r s:RN} (hr:r∈cts) (hs:s∈cts) (h:wtN 1 r+wtN 1 s≤16):chk r s=true:=by
 have h1:=List.all_eq_true.mp zri r hr
 have h2:=List.all_eq_true.mp h1 s hs
 rw[Nat.ble_eq_true_of_le h] at h2
 exact h2
theorem zsi {r:RN} (hr:r∈cts):r.length≤4:=by
 have:cts.all (fun r=>Nat.ble r.length 4)=true:=by decide +kernel
 exact Nat.le_of_ble_eq_true (List.all_eq_true.mp this r hr)
end Tab
end Dd
set_option maxHeartbeats 4000000
namespace Dd
open PySem L2
namespace Tab
theorem zee {α:Type} {bd:SG} {body:SS} {st:Store} {Q:Fl→Store→Prop} (E:α→D) (f:α→List D) (S:DS→Prop) (B:Nat) {as:List α} {acc:List D} {σ:DS} {g:Store} (h0:S σ) (hB:(acc++as.flatMap f).length≤B)
  (t:∀a∈as,∀σ acc g,S σ→(acc++f a).length≤B→∃σ1,bd (E a) σ=some σ1∧∀R:Fl→Store→Prop,(∀σ' g',S σ'→R (.nx σ') (st++(.lst (acc++f a)::g')))→WP (body σ1 (st++(.lst acc::g))) R)
  (q:∀σ' g',S σ'→Q (.nx σ') (st++(.lst (acc++as.flatMap f)::g'))):WP (forF bd body (as.map E) σ (st++(.lst acc::g))) Q:=by
 refine wp_for (fun i σ s=>∃g,S σ∧s=st++(.lst (acc++(as.take i).flatMap f)::g)) ⟨g,h0,by simp⟩ ?_ ?_
 ·rintro i x σ s hx ⟨g,hS,rfl⟩
  rw[List.getElem?_map] at hx
  obtain ⟨z,hz,rfl⟩:=Option.map_eq_some_iff.mp hx
  have e:(as.take (i+1)).flatMap f=(as.take i).flatMap f++f z:=by rw[zbl hz,List.flatMap_append];simp
  have hl:((as.take (i+1)).flatMap f).length≤(as.flatMap f).length:=by
   conv=>rhs;rw[← List.take_append_drop (i+1) as,List.flatMap_append,List.length_append]
   omega
  rw[e] at hl
  rw[List.length_append] at hB hl
  obtain ⟨σ1,e1,w⟩:=t z (List.mem_of_getElem? hz) σ (acc++(as.take i).flatMap f) g hS (by simp only[List.length_append];omega)
  refine ⟨σ1,e1,w _ fun σ' g' h'=>?_⟩
  simp only[L]
  exact ⟨g',h',by rw[e,List.append_assoc]⟩
 ·rintro σ s ⟨g,hS,rfl⟩
  rw[List.length_map,List.take_length]
  exact q _ _ hS
noncomputable abbrev nI (n:Nat):D:=.int (n:Int)
noncomputable abbrev rz (l:RN):D:=.tup (l.map nI)
noncomputable def t3D (p:T3):D:=.tup [rz p.1,rz p.2.1,nI p.2.2]
noncomputable def p2D (p:RN × RN):D:=.tup [rz p.1,rz p.2]
theorem ixz {l:RN} {p:Nat} (h:p < l.length) (s:Store):oIx (rz l) (.int p) s=.ok (nI (gt l p)) s :=
 oIx_of rfl (zmb (j:=p) (xs:=l.map nI) (by rw[List.getElem?_map,List.getElem?_eq_getElem h];unfold gt;rw[List.getD_eq_getElem?_getD,List.getElem?_eq_getElem h];rfl))
section
variable {st:Store} {Q:D→Store→Prop}
theorem chg_wp {l:RN} {p v:Nat} {b:Int} (h:p < l.length) (hl:l.length≤100) (hv:(gt l p:Int)+b=v) (q:Q (rz (put l p v)) st):WP (zcq [rz l,.int p,.int b] st) Q:=by
 refine wp_fn rfl ?_
 simp only[W,V,M,Dd.N]
 refine WP.of (ixz h st) ?_
 simp only[W,V,M,Dd.N]
 rw[cut_to,show ((p:Int)+1)=((p+1:Nat):Int) by push_cast;rfl,zuz,hv,← List.map_take,← List.map_drop]
 refine ⟨by show 1≤sizeLine;decide,small _ (by simp;omega),small _ (by simp;omega),?_⟩
 have e:(l.take p).map nI++[D.int (v:Int)]++(l.drop (p+1)).map nI=(put l p v).map nI:=by unfold put;simp
 rw[e]
 exact q
end
theorem lo_eq (a b:Nat):(if (b:Int) < (a:Int) then (b:Int) else (a:Int))=(lo a b:Nat):=by
 unfold lo
 cases c:Nat.ble a b with
 | true=>have:=Nat.le_of_ble_eq_true c;rw[if_neg (by omega)];rfl
 | false =>
  have:¬ a≤b:=fun z=>by rw[Nat.ble_eq_true_of_le z] at c;cases c
  rw[if_pos (by omega)];rfl
theorem lo_le1 (a b:Nat):lo a b≤a:=by have:=lo_eq a b;split at this<;>omega
theorem lo_le2 (a b:Nat):lo a b≤b:=by have:=lo_eq a b;split at this<;>omega
theorem zox (a b:Nat):(Builtin.bitAnd (a:Int) (b:Int)=0)=(Nat.beq (Nat.land a b) 0=true):=by
 apply propext
 rw[show Builtin.bitAnd (a:Int) (b:Int)=((Nat.land a b:Nat):Int) from rfl,Nat.beq_eq]
 omega
theorem rng_nI (n:Nat):rng 0 n=(List.range n).map nI:=by
 unfold rng
 exact List.map_congr_left fun i _=>by rw[Int.zero_add]
end Tab
end Dd
set_option maxHeartbeats 4000000
namespace Dd
open PySem L2
namespace Tab
section
variable {st:Store}
theorem pl_b1 {v0 v1:Option D} {a j x:Nat} {p:T3} {acc:List D} {g:Store} {R:Fl→Store→Prop} (ha:a < p.1.length) (h1:p.1.length≤100) (hj:1≤j) (hj2:j≤4) (hc:j - 1 < p.2.1.length) (h2:p.2.1.length≤100)
  (hx1:x≤gt p.2.1 (j - 1)) (hx2:x * 2 ^ j≤p.2.2) (hx3:x≤1000) (hB:(acc++(plOne a j p x).map t3D).length≤1000)
  (q:R (.nx [v0,v1,some (nI j),some (nI a),some (.ref st.length),some (rz p.1),some (rz p.2.1),some (nI p.2.2),some (nI x)]) (st++(.lst (acc++(plOne a j p x).map t3D)::g))) :
  WP (zby [v0,v1,some (nI j),some (nI a),some (.ref st.length),some (rz p.1),some (rz p.2.1),some (nI p.2.2),some (nI x)] (st++(.lst acc::g))) R:=by
 unfold zby
 simp only[W,V]
 refine WP.of (ixz ha _) ?_
 simp only[W,V,zox,Dd.N]
 unfold plOne at q hB
 cases c:Nat.beq (Nat.land (gt p.1 a) x) 0 with
 | false =>
  rw[c] at q
  rw[if_neg (by decide)]
  simpa using q
 | true =>
  rw[c] at q hB
  rw[if_pos rfl]
  simp only[W,V,M]
  have hac:acc.length≤999:=by simpa using hB
  refine ⟨_,_,rfl,zbk _ _,chg_wp ha h1 (v:=gt p.1 a+x) (by push_cast;rfl) ?_⟩
  have ej:((j:Int) - 1)=((j - 1:Nat):Int):=by omega
  rw[ej]
  refine ⟨trivial,chg_wp hc h2 (v:=gt p.2.1 (j - 1) - x) (by omega) ?_⟩
  refine ⟨⟨by omega,by omega,by rw[Int.natAbs_natCast];exact Nat.lt_of_le_of_lt hx3 (by decide)⟩,trivial,by show 3≤sizeLine;decide,_,_,rfl,zbk _ _,smallT _ (by omega),?_⟩
  rw[zca]
  have e2:(p.2.2:Int) - (x:Int) * 2 ^ (j:Int).toNat=((p.2.2 - x * 2 ^ j:Nat):Int):=by
   rw[Int.toNat_natCast,Int.ofNat_sub hx2]
   push_cast
   rfl
  rw[e2]
  exact q
theorem mem_gt {l:RN} {p b:Nat} (h:∀x∈l,x≤b):gt l p≤b:=by
 unfold gt
 rw[List.getD_eq_getElem?_getD]
 cases e:l[p]? with
 | none=>exact Nat.zero_le _
 | some x=>exact h x (List.mem_of_getElem? e)
theorem zlk {x a b j:Nat} (h:x∈List.range (lo a (b / 2 ^ j)+1)):x≤a∧x * 2 ^ j≤b:=by
 have h:=List.mem_range.mp h
 have h1:=lo_le1 a (b / 2 ^ j)
 have h2:=lo_le2 a (b / 2 ^ j)
 exact ⟨by omega,Nat.le_trans (Nat.mul_le_mul_right _ (by omega:x≤b / 2 ^ j)) (Nat.div_mul_le_self _ _)⟩
theorem shr_eq (a j:Nat):(a:Int) / 2 ^ (j:Int).toNat=((a / 2 ^ j:Nat):Int):=by
 rw[Int.toNat_natCast]
 push_cast
 rfl
structure Ok3 (n c:Nat) (p:T3):Prop where
 l1:p.1.length=n
 l2:p.2.1.length=c
 sm:∀x∈p.2.1,x≤16
 le:p.2.2≤16
theorem ztg {n c i j:Nat} {ps:List T3} {Q:D→Store→Prop} (hi:1≤i) (hj:1≤j) (hj4:j≤4) (ha:i+j - 1 < n) (hc:j - 1 < c) (hn:n≤8) (hc4:c≤4) (gp:∀p∈ps,Ok3 n c p) (hB:(ps.flatMap (plAll i j)).length≤100)
  (k:∀g,Q (.lst ((ps.flatMap (plAll i j)).map t3D)) (st++g)):WP (zbp [.lst (ps.map t3D),nI i,nI j] st) Q:=by
 refine wp_fn rfl ?_
 have es:((i:Int)+(j:Int) - 1)=((i+j - 1:Nat):Int):=by omega
 have ej:((j:Int) - 1)=((j - 1:Nat):Int):=by omega
 simp only[W,V,Dd.N,es]
 refine ⟨by decide,?_⟩
 refine zee t3D (fun p=>(plAll i j p).map t3D) (fun σ=>∃v5 v6 v7 v8:Option D,σ=[some (.lst (ps.map t3D)),some (nI i),some (nI j),some (nI (i+j - 1)),some (.ref st.length),v5,v6,v7,v8]) 1000 ⟨_,_,_,_,rfl⟩ (by rw[List.nil_append,← List.map_flatMap,List.length_map];omega) ?_ ?_
 ·rintro p hp σ acc g ⟨v5,v6,v7,v8,rfl⟩ hB1
  obtain ⟨o1,o2,o3,o4⟩:=gp p hp
  refine ⟨_,rfl,fun R kk=>?_⟩
  unfold zdi
  simp only[W,V,Dd.N,ej]
  refine WP.of (ixz (by omega) _) ?_
  simp only[W,V,Dd.N,shr_eq,lo_eq]
  have hlo:=lo_le1 (gt p.2.1 (j - 1)) (p.2.2 / 2 ^ j)
  have hg:=mem_gt (p:=j - 1) o3
  refine ⟨by omega,rngN (by omega) (by omega),?_⟩
  rw[show ((lo (gt p.2.1 (j - 1)) (p.2.2 / 2 ^ j):Nat)+1:Int).toNat=lo (gt p.2.1 (j - 1)) (p.2.2 / 2 ^ j)+1 by omega,rng_nI]
  unfold plAll at hB1 kk
  rw[List.map_flatMap] at hB1 kk
  refine zee nI (fun x=>(plOne (i+j - 1) j p x).map t3D) (fun σ=>∃v8:Option D,σ=[some (.lst (ps.map t3D)),some (nI i),some (nI j),some (nI (i+j - 1)),some (.ref st.length),some (rz p.1),some (rz p.2.1),some (nI p.2.2),v8]) 1000 ⟨_,rfl⟩ hB1 ?_ ?_
  ·rintro x hx σ acc g ⟨v8,rfl⟩ hB2
   obtain ⟨x1,x2⟩:=zlk hx
   refine ⟨_,rfl,fun R kk=>?_⟩
   exact pl_b1 (by omega) (by omega) hj hj4 (by omega) (by omega) x1 x2 (by omega) hB2 (kk _ _ ⟨_,rfl⟩)
  ·rintro σ g ⟨v8,rfl⟩
   exact kk _ _ ⟨_,_,_,_,rfl⟩
 ·rintro σ g ⟨v5,v6,v7,v8,rfl⟩
  simp only[W,V,M]
  refine ⟨_,_,rfl,zbk _ _,?_⟩
  rw[zca,← List.map_flatMap]
  exact k _
theorem zxf {n c i num w:Nat} {ps:List (RN × RN)} {Q:D→Store→Prop} (hi:1≤i) (ha:i+c≤n) (hw:w=c) (hn:n≤8) (hc4:c≤4) (hl:ps.length≤100) (gp:∀j,j≤c→(plW i num ps j).length≤100∧∀p∈plW i num ps j,Ok3 n c p) (hB:(liF i num c ps).length≤100)
  (k:∀g,Q (.lst ((liF i num c ps).map p2D)) (st++g)):WP (zbu [.lst (ps.map p2D),nI i,nI num,nI w] st) Q:=by
 subst hw
 refine wp_fn rfl ?_
 have ei:((i:Int) - 1)=((i - 1:Nat):Int):=by omega
 simp only[W,V,Dd.N]
 refine ⟨by rw[List.length_map];exact small _ (by omega),?_⟩
 refine wp_map (as:=ps) (fun σ=>∃a b,σ=[a,b,some (nI num)]) (fun _=>true) (fun p=>t3D (p.1,p.2,num)) p2D ⟨_,_,rfl⟩ ?_ ?_
 ·rintro p hp σ ⟨a,b,rfl⟩
  refine ⟨_,rfl,⟨_,_,rfl⟩,by simp only[W,and_self],fun _=>?_⟩
  simp only[W,V]
  exact ⟨by show 3≤sizeLine;decide,trivial,rfl⟩
 rw[zea]
 have e0:ps.map (fun p=>t3D (p.1,p.2,num))=(plW i num ps 0).map t3D:=by show _=(ps.map _).map _;rw[List.map_map];rfl
 rw[e0]
 refine ⟨rngN (by omega) (by omega),rngN (by omega) (by omega),?_⟩
 refine wp_for (fun j σ s=>(∃v5:Option D,σ=[some (.lst (ps.map p2D)),some (nI i),some (nI num),some (nI w),some (.lst ((plW i num ps j).map t3D)),v5,none,none,none,none])∧∃g,s=st++g) ⟨⟨_,rfl⟩,[],by simp⟩ ?_ ?_
 ·rintro j x σ s hx ⟨⟨v5,rfl⟩,g,rfl⟩
  obtain ⟨hj,rfl⟩:=zhh hx
  refine ⟨_,rfl,?_⟩
  unfold zdw
  simp only[W,V,L]
  rw[show ((1:Int)+(j:Int))=((j+1:Nat):Int) by omega]
  have hj:j < w:=by omega
  have g1:=gp j (by omega)
  have g2:=gp (j+1) (by omega)
  refine ztg (n:=n) (c:=w) hi (by omega) (by omega) (by omega) (by omega) hn hc4 g1.2 g2.1 fun g'=>?_
  exact ⟨⟨_,rfl⟩,g++g',by rw[List.append_assoc]⟩
 ·rintro σ s ⟨⟨v5,rfl⟩,g,rfl⟩
  rw[zdr,show ((w:Int)+1 - 1).toNat=w by omega]
  simp only[W,V,Dd.N]
  refine ⟨by decide,?_⟩
  refine zee t3D (fun p=>(enOne i p).map p2D) (fun σ=>∃v7 v8 v9:Option D,σ=[some (.lst (ps.map p2D)),some (nI i),some (nI num),some (nI w),some (.lst ((plW i num ps w).map t3D)),v5,some (.ref (st++g).length),v7,v8,v9]) 1000 ⟨_,_,_,rfl⟩ (by rw[List.nil_append,← List.map_flatMap,List.length_map];unfold liF at hB;omega) ?_ ?_
  ·rintro p hp σ acc g1 ⟨v7,v8,v9,rfl⟩ hB1
   obtain ⟨o1,o2,o3,o4⟩:=(gp w (Nat.le_refl _)).2 p hp
   refine ⟨_,rfl,fun R kk=>?_⟩
   unfold zdv
   simp only[W,V,Dd.N,ei]
   refine WP.of (ixz (by omega) _) ?_
   simp only[W,V,Dd.N,zox]
   unfold enOne at kk hB1
   cases c:Nat.beq (Nat.land (gt p.1 (i - 1)) p.2.2) 0 with
   | false =>
    rw[c] at kk
    rw[if_neg (by decide)]
    have:=kk [some (.lst (ps.map p2D)),some (nI i),some (nI num),some (nI w),some (.lst ((plW i num ps w).map t3D)),v5,some (.ref (st++g).length),some (rz p.1),some (rz p.2.1),some (nI p.2.2)] g1 ⟨_,_,_,rfl⟩
    simpa using this
   | true =>
    rw[c] at kk hB1
    rw[if_pos rfl]
    have hac:acc.length≤999:=by simpa using hB1
    simp only[W,V,M,ei]
    refine ⟨_,_,rfl,zbk _ _,trivial,chg_wp (by omega) (by omega) (v:=gt p.1 (i - 1)+p.2.2) (by push_cast;rfl) ?_⟩
    refine ⟨by show 2≤sizeLine;decide,_,_,rfl,zbk _ _,smallT _ (by omega),?_⟩
    rw[zca]
    exact kk _ _ ⟨_,_,_,rfl⟩
  ·rintro σ g1 ⟨v7,v8,v9,rfl⟩
   simp only[W,V,M]
   refine ⟨_,_,rfl,zbk _ _,?_⟩
   rw[zca,← List.map_flatMap,List.append_assoc]
   exact k _
end
end Tab
end Dd
set_option maxHeartbeats 4000000
namespace Dd
open PySem L2
namespace Tab
section
variable {st:Store}
theorem zfy {m:Nat} {s:Store} (h2:m≤1000):oMulT (.tup [.int 0]) (.int m) s=.ok (rz (List.replicate m 0)) s:=by
 unfold oMulT
 dsimp only
 rw[if_pos ⟨by simp,by omega,by omega,by simp;omega⟩]
 unfold timesL
 congr 2
 rw[Int.toNat_natCast]
 induction m with
 | zero=>rfl
 | succ k ih=>rw[List.replicate_succ,List.flatten_cons,ih (by omega),List.replicate_succ];rfl
theorem zno:∀(a b:RN),pairsF (a.map nI) (b.map nI)=(a.zip b).map fun q=>D.tup [nI q.1,nI q.2]
 | [],_=>by simp[pairsF]
 | _::_,[]=>by simp[pairsF]
 | x::a,y::b=>by
  rw[List.map_cons,List.map_cons,pairsF,zno a b,List.zip_cons_cons,List.map_cons]
theorem top_wp {n c:Nat} {ps:List (RN × RN)} {Q:D→Store→Prop} (hn:n≤8) (hcn:c≤n) (hl:ps.length≤100) (gp:∀p∈ps,p.1.length=n∧p.2.length=c)
  (k:∀g,Q (.lst ((ps.flatMap topOne).map rz)) (st++g)):WP (zch [.lst (ps.map p2D)] st) Q:=by
 refine wp_fn rfl ?_
 simp only[W,V,Dd.N]
 refine ⟨by decide,?_⟩
 have hB:(ps.flatMap fun p=>(topOne p).map rz).length≤1000:=by
  have:∀qs:List (RN × RN),(qs.flatMap fun p=>(topOne p).map rz).length≤qs.length:=fun qs=>by
   induction qs with
   | nil=>simp
   | cons a qs ih =>
    rw[List.flatMap_cons,List.length_append,List.length_cons]
    have:((topOne a).map rz).length≤1:=by
     unfold topOne
     cases ((a.1.zip (topOf a)).all fun q=>Nat.beq (Nat.land q.1 q.2) 0)<;>simp
    omega
  have:=this ps
  omega
 refine zee p2D (fun p=>(topOne p).map rz) (fun σ=>∃v2 v3 v4:Option D,σ=[some (.lst (ps.map p2D)),some (.ref st.length),v2,v3,v4]) 1000 ⟨_,_,_,rfl⟩ (by rw[List.nil_append];exact hB) ?_ ?_
 ·rintro p hp σ acc g ⟨v2,v3,v4,rfl⟩ hB1
  obtain ⟨o1,o2⟩:=gp p hp
  refine ⟨_,rfl,fun R kk=>?_⟩
  unfold zeh
  simp only[W,V,Dd.N]
  refine ⟨by show 1≤sizeLine;decide,?_⟩
  rw[show (((p.1.map nI).length:Nat):Int) - (((p.2.map nI).length:Nat):Int)=((p.1.length - p.2.length:Nat):Int) by rw[List.length_map,List.length_map];omega]
  refine WP.of (zfy (by omega)) ?_
  simp only[W,V,Dd.N]
  rw[← List.map_append,show p.2++List.replicate (p.1.length - p.2.length) 0=topOf p from rfl]
  have hz:(p.1.zip (topOf p)).length≤8:=by rw[List.length_zip];omega
  refine ⟨small _ (by simp;omega),?_⟩
  simp only[W,V,M,Dd.N,zno]
  refine ⟨by rw[List.length_map];exact small _ (by omega),?_⟩
  refine wp_map (as:=p.1.zip (topOf p)) (fun σ=>∃a b,σ=[a,b]) (fun _=>true) (fun q=>.bl (Nat.beq (Nat.land q.1 q.2) 0)) (fun q=>D.tup [nI q.1,nI q.2]) ⟨_,_,rfl⟩ ?_ ?_
  ·rintro q hq σ ⟨a,b,rfl⟩
   refine ⟨_,rfl,⟨_,_,rfl⟩,by simp only[W,and_self],fun _=>?_⟩
   simp only[W,V,Dd.N,zox]
   congr 1
   cases Nat.beq (Nat.land q.1 q.2) 0<;>rfl
  rw[zea]
  refine ⟨_,(by exact zhr _ _),?_⟩
  have ea:((p.1.zip (topOf p)).map fun q=>Nat.beq (Nat.land q.1 q.2) 0).all id=(p.1.zip (topOf p)).all fun q=>Nat.beq (Nat.land q.1 q.2) 0:=by
   rw[List.all_map];rfl
  simp only[if_true,ea]
  unfold topOne at kk hB1
  cases c:(p.1.zip (topOf p)).all fun q=>Nat.beq (Nat.land q.1 q.2) 0 with
  | false =>
   rw[c] at kk
   simp only[W,V]
   have:=kk [some (.lst (ps.map p2D)),some (.ref st.length),some (rz p.1),some (rz p.2),some (rz (topOf p))] g ⟨_,_,_,rfl⟩
   simpa using this
  | true =>
   rw[c] at kk hB1
   have hac:acc.length≤999:=by simpa using hB1
   simp only[W,V,M,Dd.N,zno]
   refine ⟨_,_,rfl,zbk _ _,by rw[List.length_map];exact small _ (by omega),?_⟩
   refine wp_map (as:=p.1.zip (topOf p)) (fun σ=>∃a b,σ=[a,b]) (fun _=>true) (fun q=>nI (q.1+q.2)) (fun q=>D.tup [nI q.1,nI q.2]) ⟨_,_,rfl⟩ ?_ ?_
   ·rintro q hq σ ⟨a,b,rfl⟩
    refine ⟨_,rfl,⟨_,_,rfl⟩,by simp only[W,and_self],fun _=>?_⟩
    simp only[W,V,Dd.N]
    push_cast
    rfl
   rw[zea]
   refine ⟨_,_,rfl,zbk _ _,smallT _ (by omega),?_⟩
   rw[zca]
   have:=kk [some (.lst (ps.map p2D)),some (.ref st.length),some (rz p.1),some (rz p.2),some (rz (topOf p))] g ⟨_,_,_,rfl⟩
   have t:List.map rz (bif true then [(p.1.zip (topOf p)).map fun q=>q.1+q.2] else [])=[D.tup ((p.1.zip (topOf p)).map fun q=>nI (q.1+q.2))]:=by
    show [rz _]=_
    unfold rz
    rw[List.map_map]
    rfl
   rw[t] at this
   exact this
 ·rintro σ g ⟨v2,v3,v4,rfl⟩
  simp only[W,V,M]
  refine ⟨_,_,rfl,zbk _ _,?_⟩
  rw[zca,← List.map_flatMap]
  exact k _
theorem zkf (l:RN):nz (l++[0])=nz l:=by
 unfold nz
 rw[List.foldr_append]
 rfl
theorem znt {l:RN} {x:Nat} (h:x≠0):nz (l++[x])=l++[x]:=by
 have hb:Nat.beq x 0=false:=by
  cases e:Nat.beq x 0 with
  | true=>exact absurd (Nat.eq_of_beq_eq_true e) h
  | false=>rfl
 induction l with
 | nil=>unfold nz;simp only[List.nil_append,List.foldr_cons,List.foldr_nil,hb,cond_false]
 | cons y l ih =>
  unfold nz at ih ⊢
  rw[List.cons_append,List.foldr_cons,ih]
  cases l<;>rfl
theorem zho (r:RN):r=[]∨∃l x,r=l++[x]:=by
 rcases List.eq_nil_or_concat r with h | ⟨l,x,h⟩
 ·exact .inl h
 ·exact .inr ⟨l,x,by simpa using h⟩
theorem nz_pop {l:RN} {x:Nat} {s:Store} {v:Option D} {n:Nat} (hn:s[n]?=some (.lst ((l++[x]).map nI))):ePop (eVar 1) [v,some (.ref n)] s=.ok (nI x) (s.set n (.lst (l.map nI))):=by
 have hl:((l++[x]).map nI)=l.map nI++[nI x]:=by simp
 show (match s[n]? with
  | some (.lst xs)=>match xs[xs.length - 1]? with
   | some y=>Res.ok y (s.set n (.lst xs.dropLast))
   | none=>.stuck
  | _=>.stuck)=_
 rw[hn,hl]
 simp
theorem nz_wp {r:RN} {Q:D→Store→Prop} (hr:r.length≤1000) (k:∀g,Q (rz (nz r)) (st++g)):WP (zbc [rz r] st) Q:=by
 refine wp_fn rfl ?_
 refine zdj (R:=fun fl s=>fl=.nx [some (rz r),some (.ref st.length)]∧s=st++[.lst (r.map nI)]) ?_ ?_
 ·simp only[W,V]
  exact WP.of (show bListM [rz r] st=.ok (.ref st.length) (st++[.lst (r.map nI)]) from rfl) ⟨rfl,rfl⟩
 rintro fl s ⟨rfl,rfl⟩
 show WP _ _
 refine zdj (R:=fun fl s=>fl=.nx [some (rz r),some (.ref st.length)]∧s=st++[.lst ((nz r).map nI)]) ?_ ?_
 ·refine zjm (fun m σ s=>∃xs:RN,m=xs.length∧σ=[some (rz r),some (.ref st.length)]∧s=st++[.lst (xs.map nI)]∧nz xs=nz r) (k:=r.length) ⟨r,rfl,rfl,rfl,rfl⟩ (by omega) ?_
  rintro j σ s ⟨xs,rfl,rfl,rfl,hx⟩
  have hn:(st++[O.lst (xs.map nI)])[st.length]?=some (.lst (xs.map nI)):=by simp
  rcases zho xs with rfl | ⟨l,x,rfl⟩
  ·simp only[W,V]
   refine ⟨false,?_,?_⟩
   ·show (asL (st++[O.lst []]) (.ref st.length)).map (fun xs=>!xs.isEmpty)=some false
    rw[zgz (xs:=[]) (by simp)]
    rfl
   ·simp only[W,V]
    rw[← hx]
    exact ⟨trivial,rfl⟩
  ·have hl:((l++[x]).map nI)=l.map nI++[nI x]:=by simp
   simp only[W,V]
   refine ⟨true,?_,?_⟩
   ·show (asL (st++[O.lst ((l++[x]).map nI)]) (.ref st.length)).map (fun xs=>!xs.isEmpty)=some true
    rw[zgz hn,hl]
    simp
   ·simp only[W,V]
    refine WP.of (oIx_of (zda hn) (by rw[hl];exact zpa _ _)) ?_
    simp only[W,V]
    by_cases c:(x:Int)=0
    ·rw[if_pos c]
     have c0:x=0:=by omega
     subst c0
     unfold zt
     simp only[W]
     refine WP.of (nz_pop hn) ?_
     simp only[L]
     exact ⟨l.length,by simp,l,rfl,trivial,by rw[zca],by rw[← hx,zkf]⟩
    ·rw[if_neg c]
     rw[← hx,znt (by omega)]
     exact ⟨trivial,rfl⟩
 rintro fl s ⟨rfl,rfl⟩
 show WP _ _
 simp only[W,V]
 refine WP.of (zjf (xs:=(nz r).map nI) (by simp)) ?_
 exact k _
end
end Tab
end Dd
set_option maxHeartbeats 4000000
namespace Dd
open PySem L2
namespace Tab
noncomputable def castR (l:RN):RowI:=l.map fun (n:Nat)=>(n:Int)
noncomputable def unc (r:RowI):RN:=r.map Int.toNat
theorem zcr (l:RN):unc (castR l)=l:=by
 unfold unc castR
 rw[List.map_map]
 induction l with
 | nil=>rfl
 | cons a l ih=>rw[List.map_cons,ih];simp
theorem zhg (l:RN):rz l=rowD (castR l):=by
 unfold rz rowD castR
 rw[List.map_map]
 rfl
theorem znf (l:List RN):l.map rz=rowsD (l.map castR):=by
 unfold rowsD
 rw[List.map_map]
 exact List.map_congr_left fun x _=>zhg x
theorem zmu:∀(l:RN) (w:Nat),wtI (w:Int) (castR l)=(wtN w l:Nat)
 | [],_=>rfl
 | x::l,w=>by
  have:=zmu l (2 * w+1)
  unfold castR at this ⊢
  rw[List.map_cons,wtI,wtN,show (2 * (w:Int)+1)=((2 * w+1:Nat):Int) by push_cast;rfl,this]
  push_cast
  rfl
theorem zj {a b:Bool} (h:(a && b)=true):a=true∧b=true:=by simpa using h
structure GM (n c:Nat) (ps:List (RN × RN)):Prop where
 len:ps.length≤100
 l1:∀p∈ps,p.1.length=n∧p.2.length=c
theorem gm_of {n c:Nat} {ps:List (RN × RN)} (h:gM n c ps=true):GM n c ps:=by
 obtain ⟨h1,h2⟩:=zj h
 refine ⟨Nat.le_of_ble_eq_true h1,fun p hp=>?_⟩
 have:=List.all_eq_true.mp h2 p hp
 obtain ⟨h3,h4⟩:=zj this
 obtain ⟨h5,h6⟩:=zj h3
 exact ⟨Nat.eq_of_beq_eq_true h5,Nat.eq_of_beq_eq_true h6⟩
theorem gt_of {n c:Nat} {ps:List T3} (h:gT n c ps=true):ps.length≤100∧∀p∈ps,Ok3 n c p:=by
 obtain ⟨h1,h2⟩:=zj h
 refine ⟨Nat.le_of_ble_eq_true h1,fun p hp=>?_⟩
 have:=List.all_eq_true.mp h2 p hp
 obtain ⟨h3,h4⟩:=zj this
 obtain ⟨h5,h6⟩:=zj h3
 obtain ⟨h7,h8⟩:=zj h5
 exact ⟨Nat.eq_of_beq_eq_true h7,Nat.eq_of_beq_eq_true h8,fun x hx=>Nat.le_of_ble_eq_true (List.all_eq_true.mp h6 x hx),Nat.le_of_ble_eq_true h4⟩
theorem zrp (ps:List (RN × RN)):(ps.flatMap topOne).length≤ps.length:=by
 induction ps with
 | nil=>simp
 | cons a qs ih =>
  rw[List.flatMap_cons,List.length_append,List.length_cons]
  have:(topOne a).length≤1:=by
   unfold topOne
   cases ((a.1.zip (topOf a)).all fun q=>Nat.beq (Nat.land q.1 q.2) 0)<;>simp
  omega
theorem zlh {r s:RN} (ck:chkP r s=true):(madeP r s).length≤100:=by
 obtain ⟨c1,c2⟩:=zj ck
 have hM:=gm_of (List.all_eq_true.mp c1 r.length (List.mem_range.mpr (by omega)))
 unfold madeP
 rw[List.length_map]
 have:=zrp (mbW r s r.length)
 have:=hM.len
 omega
section
variable {st:Store}
theorem zxe {r s:RN} {Q:D→Store→Prop} (hr:r.length≤4) (hs:s.length≤4) (ck:chkP r s=true) (k:∀g,Q (.lst ((madeP r s).map rz)) (st++g)):WP (zbf [rz r,rz s] st) Q:=by
 obtain ⟨c1,c2⟩:=zj ck
 have hM:∀k,k≤r.length→GM (r.length+s.length) s.length (mbW r s k):=fun k hk=>gm_of (List.all_eq_true.mp c1 k (List.mem_range.mpr (by omega)))
 have hT:∀k,k < r.length→∀j,j≤s.length→(plW (k+1) (gt r k) (mbW r s k) j).length≤100∧∀p∈plW (k+1) (gt r k) (mbW r s k) j,Ok3 (r.length+s.length) s.length p:=fun k hk j hj=>gt_of (List.all_eq_true.mp (List.all_eq_true.mp c2 k (List.mem_range.mpr hk)) j (List.mem_range.mpr (by omega)))
 refine wp_fn rfl ?_
 simp only[W,V,Dd.N]
 refine ⟨by show 1≤sizeLine;decide,?_⟩
 rw[show ((((r.map nI).length:Nat):Int)+(((s.map nI).length:Nat):Int))=((r.length+s.length:Nat):Int) by rw[List.length_map,List.length_map];push_cast;rfl]
 refine WP.of (zfy (by omega)) ?_
 refine ⟨by show 2≤sizeLine;decide,by show 1≤sizeLine;decide,?_⟩
 refine WP.of (show iEnum (eVar 0) [some (rz r),some (rz s),some (.lst [D.tup [rz (List.replicate (r.length+s.length) 0),rz s]]),none,none] st=.ok (numF 1 (r.map nI)) st from rfl) ?_
 refine wp_for (fun i σ t=>(∃v3 v4:Option D,σ=[some (rz r),some (rz s),some (.lst ((mbW r s i).map p2D)),v3,v4])∧∃g,t=st++g) ⟨⟨_,_,rfl⟩,[],by simp⟩ ?_ ?_
 ·rintro i x σ t hx ⟨⟨v3,v4,rfl⟩,g,rfl⟩
  obtain ⟨y,hy,rfl⟩:=zkg hx
  rw[List.getElem?_map] at hy
  obtain ⟨n,hn,rfl⟩:=Option.map_eq_some_iff.mp hy
  have hi:i < r.length:=by
   rcases Nat.lt_or_ge i r.length with h | h
   ·exact h
   ·rw[List.getElem?_eq_none h] at hn;cases hn
  have en:n=gt r i:=by unfold gt;rw[List.getD_eq_getElem?_getD,hn];rfl
  subst en
  refine ⟨_,rfl,?_⟩
  unfold zcp
  simp only[W,V,L]
  rw[show (1:Int)+(i:Int)=((i+1:Nat):Int) by omega,show (((s.map nI).length:Nat):Int)=((s.length:Nat):Int) by rw[List.length_map]]
  refine zxf (n:=r.length+s.length) (c:=s.length) (by omega) (by omega) rfl (by omega) hs (hM i (by omega)).len (hT i hi) (hM (i+1) (by omega)).len fun g'=>?_
  exact ⟨⟨_,_,rfl⟩,g++g',by rw[List.append_assoc]⟩
 ·rintro σ t ⟨⟨v3,v4,rfl⟩,g,rfl⟩
  rw[zfm,List.length_map]
  simp only[W,V]
  have hL:=hM r.length (Nat.le_refl _)
  refine top_wp (n:=r.length+s.length) (c:=s.length) (by omega) (by omega) hL.len hL.l1 fun g1=>?_
  simp only[W,V,Dd.N]
  have h3:=zrp (mbW r s r.length)
  have h4:=hL.len
  refine ⟨by rw[List.length_map];exact small _ (by omega),?_⟩
  have hrow:∀l∈(mbW r s r.length).flatMap topOne,l.length≤8:=fun l hl=>by
   obtain ⟨p,hp,hl⟩:=List.mem_flatMap.mp hl
   have:=hL.l1 p hp
   unfold topOne at hl
   cases c:((p.1.zip (topOf p)).all fun q=>Nat.beq (Nat.land q.1 q.2) 0) with
   | false=>rw[c] at hl;simp at hl
   | true =>
    rw[c] at hl
    rw[List.mem_singleton.mp hl,List.length_map,List.length_zip]
    omega
  refine zkr (fun j acc σ t=>(∃v,σ=[v])∧acc=((((mbW r s r.length).flatMap topOne).take j).map nz).map rz∧∃g,t=st++g) ⟨⟨_,rfl⟩,rfl,g++g1,by rw[List.append_assoc]⟩ ?_ ?_
  ·rintro j x acc σ t hx ⟨⟨v,rfl⟩,rfl,g2,rfl⟩
   rw[List.getElem?_map] at hx
   obtain ⟨l,hl,rfl⟩:=Option.map_eq_some_iff.mp hx
   refine ⟨_,rfl,?_⟩
   simp only[W,V]
   refine nz_wp (by have:=hrow l (List.mem_of_getElem? hl);omega) fun g3=>?_
   exact ⟨⟨_,rfl⟩,by rw[zbl hl,List.map_append,List.map_append];rfl,g2++g3,by rw[List.append_assoc]⟩
  ·rintro ys σ t ⟨⟨v,rfl⟩,rfl,g2,rfl⟩
   rw[List.length_map,List.take_length]
   exact k _
noncomputable def mk (r s:RowI):List RowI:=(madeP (unc r) (unc s)).map castR
structure Pr (r s:RowI) (rn sn:RN):Prop where
 er:r=castR rn
 es:s=castR sn
 lr:rn.length≤4
 ls:sn.length≤4
 wt:wtN 1 rn+wtN 1 sn≤16
 ck:chk rn sn=true
theorem zgr {α β:Type} {f:α→List β} {c:Nat}:∀{l:List α},(∀x∈l,(f x).length≤c)→(l.flatMap f).length≤c * l.length
 | [],_=>by simp
 | a::l,h=>by
  have h1:=h a (by simp)
  have h2:=zgr (l:=l) fun x hx=>h x (List.mem_cons_of_mem _ hx)
  rw[List.flatMap_cons,List.length_append,List.length_cons,Nat.mul_succ]
  omega
theorem zqf (A:List RowI) (x:RowI):oddL (A++[x])=flipL (oddL A) x:=by
 unfold oddL
 rw[List.foldl_append]
 rfl
theorem zss {one other:List RowI} {Q:D→Store→Prop} (h1:one.length≤40) (h2:other.length≤40) (hm:∀r∈one,∀s∈other,∃rn sn,Pr r s rn sn) (k:∀g,Q (sumD (oddS (one.flatMap fun r=>other.flatMap (mk r)))) (st++g)):WP (zjl [sumD one,sumD other] st) Q:=by
 have ml:∀r∈one,∀s∈other,(mk r s).length≤100:=fun r hr s hs=>by
  obtain ⟨rn,sn,p⟩:=hm r hr s hs
  unfold mk
  rw[List.length_map,p.er,p.es,zcr,zcr]
  exact zlh (zj (zj p.ck).1).1
 have m2:∀r∈one,∀j,((other.take j).flatMap (mk r)).length≤4000:=fun r hr j=>by
  have:=zgr (l:=other.take j) (f:=mk r) (c:=100) fun s hs=>ml r hr s (List.mem_of_mem_take hs)
  have h3:(other.take j).length≤other.length:=by rw[List.length_take];exact Nat.min_le_right _ _
  omega
 have m3:∀i,((one.take i).flatMap fun r=>other.flatMap (mk r)).length≤160000:=fun i=>by
  have:=zgr (l:=one.take i) (f:=fun r=>other.flatMap (mk r)) (c:=4000) fun r hr=>by
   have:=m2 r (List.mem_of_mem_take hr) other.length
   rwa [List.take_length] at this
  have h3:(one.take i).length≤one.length:=by rw[List.length_take];exact Nat.min_le_right _ _
  omega
 refine wp_fn rfl ?_
 simp only[W,V,Dd.N]
 refine wp_for (fun i σ s=>(∃v3 v4 v5:Option D,σ=[some (sumD one),some (sumD other),some (.ref st.length),v3,v4,v5])∧∃g,s=st++(.dT (trueD (oddL ((one.take i).flatMap fun r=>other.flatMap (mk r))))::g)) ⟨⟨_,_,_,rfl⟩,[],rfl⟩ ?_ ?_
 ·rintro i y σ s hy ⟨⟨v3,v4,v5,rfl⟩,g,rfl⟩
  obtain ⟨r,hrr,rfl⟩:=zdy hy
  have hr:=List.mem_of_getElem? hrr
  refine ⟨_,rfl,?_⟩
  unfold zji
  simp only[W,V,Dd.N]
  refine wp_for (fun j σ s=>(∃v4 v5:Option D,σ=[some (sumD one),some (sumD other),some (.ref st.length),some (rowD r),v4,v5])∧∃g,s=st++(.dT (trueD (oddL (((one.take i).flatMap fun r=>other.flatMap (mk r))++(other.take j).flatMap (mk r))))::g)) ⟨⟨_,_,rfl⟩,g,by simp⟩ ?_ ?_
  ·rintro j y σ s hy ⟨⟨v4,v5,rfl⟩,g,rfl⟩
   obtain ⟨t,htt,rfl⟩:=zdy hy
   have ht:=List.mem_of_getElem? htt
   obtain ⟨rn,sn,p⟩:=hm r hr t ht
   have er:wtI 1 r=(wtN 1 rn:Nat):=by rw[p.er];exact zmu rn 1
   have et:wtI 1 t=(wtN 1 sn:Nat):=by rw[p.es];exact zmu sn 1
   have hw:=p.wt
   have lr:=p.lr
   have ls:=p.ls
   have emk:mk r t=(madeP rn sn).map castR:=by unfold mk;rw[p.er,p.es,zcr,zcr]
   refine ⟨_,rfl,?_⟩
   unfold zjj
   simp only[W,V]
   refine zkz (by rw[p.er];unfold castR;rw[List.length_map];exact lr) ?_
   refine zkz (by rw[p.es];unfold castR;rw[List.length_map];exact ls) ?_
   simp only[W,V,Dd.N]
   rw[if_neg (by omega)]
   have e1:rowD r=rz rn:=by rw[p.er,zhg]
   have e2:rowD t=rz sn:=by rw[p.es,zhg]
   rw[e1,e2]
   refine zxe lr ls (zj (zj p.ck).1).1 fun g1=>?_
   simp only[W,V,Dd.N]
   rw[znf,← emk,List.append_assoc,List.cons_append]
   generalize g++g1=g3
   have b1:=m3 i
   have b2:=m2 r hr j
   have b3:=ml r hr t ht
   refine wp_for (fun z σ s=>(∃v5:Option D,σ=[some (sumD one),some (sumD other),some (.ref st.length),some (rz rn),some (rz sn),v5])∧s=st++(.dT (trueD (oddL (((one.take i).flatMap fun r=>other.flatMap (mk r))++(other.take j).flatMap (mk r)++(mk r t).take z)))::g3)) ⟨⟨_,rfl⟩,by simp⟩ ?_ ?_
   ·rintro z y σ s hy ⟨⟨v5,rfl⟩,rfl⟩
    obtain ⟨b,hb,rfl⟩:=zdy hy
    refine ⟨_,rfl,?_⟩
    unfold zjk
    simp only[W,V,L]
    have b4:=zdz (((one.take i).flatMap fun r=>other.flatMap (mk r))++(other.take j).flatMap (mk r)++(mk r t).take z)
    have b5:((mk r t).take z).length≤(mk r t).length:=by rw[List.length_take];exact Nat.min_le_right _ _
    rw[List.length_append,List.length_append] at b4
    refine zxl (zbk _ _) (by omega) ⟨⟨_,rfl⟩,?_⟩
    rw[zca,zbl hb,← List.append_assoc,zqf]
   ·rintro σ s ⟨⟨v5,rfl⟩,rfl⟩
    simp only[L]
    rw[← e1,← e2]
    refine ⟨⟨_,_,rfl⟩,g3,?_⟩
    rw[zbm,List.take_length,zbl htt,List.flatMap_append,List.flatMap_singleton,List.append_assoc]
  ·rintro σ s ⟨⟨v4,v5,rfl⟩,g,rfl⟩
   simp only[L]
   refine ⟨⟨_,_,_,rfl⟩,g,?_⟩
   rw[zbm,List.take_length,zbl hrr,List.flatMap_append,List.flatMap_singleton]
 ·rintro σ s ⟨⟨v3,v4,v5,rfl⟩,g,rfl⟩
  rw[zbm,List.take_length]
  have b1:=m3 one.length
  rw[List.take_length] at b1
  simp only[W,V]
  have b2:=zdz (one.flatMap fun r=>other.flatMap (mk r))
  refine zpr (zbk _ _) (by omega) ?_
  simp only[W,V]
  exact k _
end
end Tab
end Dd
set_option maxHeartbeats 4000000
namespace Dd
open PySem L2
namespace Tab
noncomputable def prN (w:Nat × RN):D:=.tup [nI w.1,rz w.2]
noncomputable def tbD (w:List RN × RN):D:=.tup [.tup (w.1.map rz),rz w.2]
noncomputable def tabD (t:List RN):D:=.tup (t.map rz)
structure OkL (left:RN) (j:Nat) (w:Nat × RN):Prop where
 sm:w.1≤16
 len:w.2.length=j
 le:∀q∈w.2.zip left,q.1≤q.2
theorem gl_of {left:RN} {j:Nat} {ws:List (Nat × RN)} (h:gL left j ws=true):ws.length≤100∧∀w∈ws,OkL left j w:=by
 obtain ⟨h1,h2⟩:=zj h
 refine ⟨Nat.le_of_ble_eq_true h1,fun p hp=>?_⟩
 have:=List.all_eq_true.mp h2 p hp
 obtain ⟨h3,h4⟩:=zj this
 obtain ⟨h5,h6⟩:=zj h3
 exact ⟨Nat.le_of_ble_eq_true h5,Nat.eq_of_beq_eq_true h6,fun q hq=>Nat.le_of_ble_eq_true (List.all_eq_true.mp h4 q hq)⟩
structure OkB (k:Nat) (w:List RN × RN):Prop where
 l1:w.1.length=k
 l2:w.2.length=4
 sm:∀x∈w.2,x≤16
 rows:∀l∈w.1,l.length=5
theorem gb_of {k:Nat} {ws:List (List RN × RN)} (h:gB k ws=true):ws.length≤100∧∀w∈ws,OkB k w:=by
 obtain ⟨h1,h2⟩:=zj h
 refine ⟨Nat.le_of_ble_eq_true h1,fun p hp=>?_⟩
 have:=List.all_eq_true.mp h2 p hp
 obtain ⟨h3,h4⟩:=zj this
 obtain ⟨h5,h6⟩:=zj h3
 obtain ⟨h7,h8⟩:=zj h5
 exact ⟨Nat.eq_of_beq_eq_true h7,Nat.eq_of_beq_eq_true h8,fun x hx=>Nat.le_of_ble_eq_true (List.all_eq_true.mp h6 x hx),fun l hl=>Nat.eq_of_beq_eq_true (List.all_eq_true.mp h4 l hl)⟩
section
variable {st:Store}
theorem zuc {num:Nat} {left:RN} {Q:D→Store→Prop} (h4:left.length=4) (hsm:∀x∈left,x≤16) (hg:∀j,j≤4→(lnW num left j).length≤100∧∀w∈lnW num left j,OkL left j w)
  (k:∀g,Q (.lst ((linesL num left).map rz)) (st++g)):WP (zcz [nI num,rz left] st) Q:=by
 refine wp_fn rfl ?_
 simp only[W,V,Dd.N]
 refine ⟨by show 0≤sizeLine;decide,by show 2≤sizeLine;decide,by show 1≤sizeLine;decide,rngN (by omega) (by omega),rngN (by omega) (by omega),?_⟩
 refine wp_for (fun j σ s=>(∃v3 v4 v5 v6 v7:Option D,σ=[some (nI num),some (rz left),some (.lst ((lnW num left j).map prN)),v3,v4,v5,v6,v7])∧∃g,s=st++g) ⟨⟨_,_,_,_,_,rfl⟩,[],by simp⟩ ?_ ?_
 ·rintro j x σ s hx ⟨⟨v3,v4,v5,v6,v7,rfl⟩,g,rfl⟩
  obtain ⟨hj,rfl⟩:=zhh hx
  have hj:j < 4:=hj
  have g1:=hg j (by omega)
  have g2:=hg (j+1) (by omega)
  have ej:((1:Int)+(j:Int))=((j+1:Nat):Int):=by omega
  have ej1:(((j+1:Nat):Int) - 1)=((j:Nat):Int):=by omega
  refine ⟨_,rfl,?_⟩
  rw[ej]
  unfold zfd
  simp only[W,V,Dd.N]
  refine ⟨by decide,?_⟩
  refine zee prN (fun w=>(lnStep left (j+1) w).map prN) (fun σ=>∃v5 v6 v7:Option D,σ=[some (nI num),some (rz left),some (.lst ((lnW num left j).map prN)),some (nI (j+1)),some (.ref (st++g).length),v5,v6,v7]) 1000 ⟨_,_,_,rfl⟩ (by
   rw[List.nil_append,← List.map_flatMap,List.length_map]
   have:((lnW num left j).flatMap (lnStep left (j+1))).length≤100:=g2.1
   omega) ?_ ?_
  ·rintro w hw σ acc g3 ⟨v5,v6,v7,rfl⟩ hB1
   have ow:=g1.2 w hw
   refine ⟨_,rfl,fun R kk=>?_⟩
   unfold zfe
   simp only[W,V,Dd.N,ej1]
   refine WP.of (ixz (by omega) _) ?_
   simp only[W,V,Dd.N,shr_eq,lo_eq]
   have hlo:=lo_le1 (gt left j) (w.1 / 2 ^ (j+1))
   have hgt:=mem_gt (p:=j) hsm
   refine ⟨by omega,rngN (by omega) (by omega),?_⟩
   rw[show ((lo (gt left j) (w.1 / 2 ^ (j+1)):Nat)+1:Int).toNat=lo (gt left j) (w.1 / 2 ^ (j+1))+1 by omega,rng_nI]
   have e9:(lnStep left (j+1) w).map prN=(List.range (lo (gt left j) (w.1 / 2 ^ (j+1))+1)).flatMap fun x=>[prN (w.1 - x * 2 ^ (j+1),w.2++[x])]:=by
    unfold lnStep
    rw[List.map_map,← List.map_eq_flatMap]
    rfl
   rw[e9] at hB1 kk
   refine zee nI (fun x=>[prN (w.1 - x * 2 ^ (j+1),w.2++[x])]) (fun σ=>∃v7:Option D,σ=[some (nI num),some (rz left),some (.lst ((lnW num left j).map prN)),some (nI (j+1)),some (.ref (st++g).length),some (nI w.1),some (rz w.2),v7]) 1000 ⟨_,rfl⟩ hB1 ?_ ?_
   ·rintro x hx σ acc g4 ⟨v7,rfl⟩ hB2
    obtain ⟨x1,x2⟩:=zlk hx
    have hac:acc.length≤999:=by simpa using hB2
    refine ⟨_,rfl,fun R kk=>?_⟩
    unfold zff
    simp only[W,V,M]
    refine ⟨_,_,rfl,zbk _ _,⟨by omega,by omega,by rw[Int.natAbs_natCast];exact Nat.lt_of_le_of_lt (show x≤16 by omega) (by decide)⟩,trivial,by show 1≤sizeLine;decide,small _ (by rw[List.length_map,ow.len];show j+1≤_;omega),by show 2≤sizeLine;decide,_,_,rfl,zbk _ _,smallT _ (by omega),?_⟩
    rw[zca]
    have e2:(w.1:Int) - (x:Int) * 2 ^ ((j+1:Nat):Int).toNat=((w.1 - x * 2 ^ (j+1):Nat):Int):=by
     rw[Int.toNat_natCast,Int.ofNat_sub x2]
     push_cast
     rfl
    rw[e2]
    have:=kk [some (nI num),some (rz left),some (.lst ((lnW num left j).map prN)),some (nI (j+1)),some (.ref (st++g).length),some (nI w.1),some (rz w.2),some (nI x)] g4 ⟨_,rfl⟩
    unfold prN at this
    rw[show rz (w.2++[x])=D.tup (w.2.map nI++[nI x]) by unfold rz;rw[List.map_append];rfl] at this
    exact this
   ·rintro σ g4 ⟨v7,rfl⟩
    exact kk _ _ ⟨_,_,_,rfl⟩
  ·rintro σ g3 ⟨v5,v6,v7,rfl⟩
   simp only[W,V,M,L]
   refine ⟨_,_,rfl,zbk _ _,?_⟩
   rw[zca,← List.map_flatMap,List.append_assoc]
   exact ⟨⟨_,_,_,_,_,rfl⟩,_,rfl⟩
 ·rintro σ s ⟨⟨v3,v4,v5,v6,v7,rfl⟩,g,rfl⟩
  have g4:=hg 4 (by omega)
  rw[show (rng 1 ((5:Int) - 1).toNat).length=4 from rfl]
  simp only[W,V,Dd.N]
  refine ⟨by rw[List.length_map];exact small _ (by omega),?_⟩
  refine wp_map (as:=lnW num left 4) (fun σ=>∃a b,σ=[a,b]) (fun _=>true) (fun w=>rz (w.1::w.2)) prN ⟨_,_,rfl⟩ ?_ ?_
  ·rintro w hw σ ⟨a,b,rfl⟩
   have ow:=(g4.2 w hw).len
   refine ⟨_,rfl,⟨_,_,rfl⟩,by simp only[W,and_self],fun _=>?_⟩
   simp only[W,V,Dd.N]
   exact ⟨by show 1≤sizeLine;decide,small _ (by rw[List.length_map,ow];show 1+4≤_;omega),rfl⟩
  rw[zea]
  have e:(lnW num left 4).map (fun w=>rz (w.1::w.2))=(linesL num left).map rz:=by unfold linesL;rw[List.map_map];rfl
  rw[e]
  exact k g
end
end Tab
end Dd
set_option maxHeartbeats 400000
namespace Dd
open PySem L2
namespace Tab
theorem zud {num:Nat} {left line:RN} (hg:∀w∈lnW num left 4,OkL left 4 w) (h:line∈linesL num left) (h4:left.length=4):line.length=5∧∀j,j < 4→gt line (j+1)≤gt left j:=by
 unfold linesL at h
 obtain ⟨w,hw,rfl⟩:=List.mem_map.mp h
 have ow:=hg w hw
 refine ⟨by rw[List.length_cons,ow.len],fun j hj=>?_⟩
 have h1:j < w.2.length:=by rw[ow.len];exact hj
 have h2:j < left.length:=by omega
 have e1:gt (w.1::w.2) (j+1)=w.2[j]:=by unfold gt;rw[List.getD_eq_getElem?_getD,List.getElem?_cons_succ,List.getElem?_eq_getElem h1];rfl
 have e2:gt left j=left[j]:=by unfold gt;rw[List.getD_eq_getElem?_getD,List.getElem?_eq_getElem h2];rfl
 rw[e1,e2]
 have hz:j < (w.2.zip left).length:=by rw[List.length_zip];omega
 have:=ow.le _ (List.getElem_mem hz)
 rw[List.getElem_zip] at this
 exact this
theorem zro {i:Nat} {f:SE} {σ:DS} {st:Store} {Q:Fl→Store→Prop}:WP (sSet i f σ st) Q=WP (f σ st) (fun v st1=>Q (.nx (σ.set i (some v))) st1):=zh
section
variable {st:Store}
theorem zwq {left line:RN} {S0 S1 S2 S3 S4 S5 S8:Option D} {Q:D→Store→Prop} (h4:left.length=4) (h5:line.length=5) (hle:∀j,j < 4→gt line (j+1)≤gt left j) (q:Q (rz (over left line)) st) :
  WP (eCall bTuple (aCons (eComp (iR1 (aCons (eC (.int 4)) aNil)) 1 [6,7] (gN 0) bYes (eOp oSub (eOp oIx (eVar 1) (eVar 0)) (eOp oIx (eVar 2) (eOp oAdd (eVar 0) (eC (.int 1)))))) aNil) [S0,S1,S2,S3,S4,S5,some (rz left),some (rz line),S8] st) Q:=by
 simp only[W,V,Dd.N]
 refine ⟨rngN (by omega) (by omega),by rw[zdr];decide,?_⟩
 rw[show ((4:Int).toNat)=4 from rfl,rng_nI]
 refine wp_map (as:=List.range 4) (fun σ=>∃a,σ=[a,some (rz left),some (rz line)]) (fun _=>true) (fun j=>nI (gt left j - gt line (j+1))) nI ⟨_,rfl⟩ ?_ ?_
 ·rintro j hj σ ⟨a,rfl⟩
  have hj:j < 4:=List.mem_range.mp hj
  have:=hle j hj
  refine ⟨_,rfl,⟨_,rfl⟩,by simp only[W,and_self],fun _=>?_⟩
  simp only[W,V,Dd.N]
  refine WP.of (ixz (by omega) _) ?_
  rw[show ((j:Int)+1)=((j+1:Nat):Int) by push_cast;rfl]
  refine WP.of (ixz (by omega) _) ?_
  simp only[W,V,Dd.N]
  show D.int _=D.int _
  congr 1
  omega
 rw[zea]
 have e:(List.range 4).map (fun j=>nI (gt left j - gt line (j+1)))=(over left line).map nI:=by unfold over;rw[List.map_map];rfl
 rw[e]
 exact q
theorem zru {r:RN} (h:r.length≤4):(pad r).length=4:=by unfold pad;simp;omega
theorem zpq {r s:RN} {Q:D→Store→Prop} (hr:r.length≤4) (hs:s.length≤4) (ck:chkL (pad r) (pad s)=true) (k:∀g,Q (.lst ((tablesL r s).map tabD)) (st++g)):WP (zck [rz r,rz s] st) Q:=by
 obtain ⟨c1,c2⟩:=zj ck
 have hB:∀k,k≤4→(tbW (pad r) (pad s) k).length≤100∧∀w∈tbW (pad r) (pad s) k,OkB k w:=fun k hk=>gb_of (List.all_eq_true.mp c1 k (List.mem_range.mpr (by omega)))
 have hL:∀k,k < 4→∀w∈tbW (pad r) (pad s) k,∀j,j≤4→(lnW (gt (pad r) k) w.2 j).length≤100∧∀u∈lnW (gt (pad r) k) w.2 j,OkL w.2 j u:=fun k hk w hw j hj=>gl_of (List.all_eq_true.mp (List.all_eq_true.mp (List.all_eq_true.mp c2 k (List.mem_range.mpr hk)) w hw) j (List.mem_range.mpr (by omega)))
 refine wp_fn rfl ?_
 simp only[W,V,Dd.N]
 have e1:∀l:RN,l.length≤4→(4:Int) - (((l.map nI).length:Nat):Int)=((4 - l.length:Nat):Int):=fun l hl=>by rw[List.length_map];omega
 have e2:∀l:RN,(l.map nI)++(List.replicate (4 - l.length) 0).map nI=(pad l).map nI:=fun l=>by unfold pad;rw[List.map_append]
 refine ⟨by show 0≤sizeLine;decide,by show 1≤sizeLine;decide,?_⟩
 rw[e1 s hs]
 refine WP.of (zfy (by omega)) ?_
 simp only[W,V,Dd.N,e2]
 refine ⟨small _ (by simp;omega),by show 2≤sizeLine;decide,by show 1≤sizeLine;decide,by show 1≤sizeLine;decide,?_⟩
 rw[e1 r hr]
 refine WP.of (zfy (by omega)) ?_
 simp only[W,V,Dd.N,e2]
 refine ⟨small _ (by simp;omega),?_⟩
 refine wp_for (fun i σ t=>(∃v3 v4 v5 v6 v7 v8:Option D,σ=[some (rz r),some (rz s),some (.lst ((tbW (pad r) (pad s) i).map tbD)),v3,v4,v5,v6,v7,v8])∧∃g,t=st++g) ⟨⟨_,_,_,_,_,_,rfl⟩,[],by simp⟩ ?_ ?_
 ·rintro i x σ t hx ⟨⟨v3,v4,v5,v6,v7,v8,rfl⟩,g,rfl⟩
  rw[List.getElem?_map] at hx
  obtain ⟨num,hn,rfl⟩:=Option.map_eq_some_iff.mp hx
  have hi:i < 4:=by
   rcases Nat.lt_or_ge i 4 with h | h
   ·exact h
   ·rw[List.getElem?_eq_none (by rw[zru hr];exact h)] at hn;cases hn
  have en:num=gt (pad r) i:=by unfold gt;rw[List.getD_eq_getElem?_getD,hn];rfl
  subst en
  have b1:=hB i (by omega)
  have b2:=hB (i+1) (by omega)
  refine ⟨_,rfl,?_⟩
  unfold zei
  simp only[W,V,Dd.N]
  refine ⟨by decide,?_⟩
  refine zee tbD (fun w=>(tbStep (gt (pad r) i) w).map tbD) (fun σ=>∃v5 v6 v7 v8:Option D,σ=[some (rz r),some (rz s),some (.lst ((tbW (pad r) (pad s) i).map tbD)),some (nI (gt (pad r) i)),some (.ref (st++g).length),v5,v6,v7,v8]) 1000 ⟨_,_,_,_,rfl⟩ (by
   rw[List.nil_append,← List.map_flatMap,List.length_map]
   have:((tbW (pad r) (pad s) i).flatMap (tbStep (gt (pad r) i))).length≤100:=b2.1
   omega) ?_ ?_
  ·rintro w hw σ acc g3 ⟨v5,v6,v7,v8,rfl⟩ hB1
   have ow:=b1.2 w hw
   have hl:=hL i hi w hw
   refine ⟨_,rfl,fun R kk=>?_⟩
   unfold zej
   simp only[W,V,Dd.N]
   refine zuc ow.l2 ow.sm hl fun g4=>?_
   simp only[W,V,Dd.N]
   rw[List.append_assoc,List.cons_append]
   have e9:(tbStep (gt (pad r) i) w).map tbD=(linesL (gt (pad r) i) w.2).flatMap fun line=>[tbD (w.1++[line],over w.2 line)]:=by
    unfold tbStep
    rw[List.map_map,← List.map_eq_flatMap]
    rfl
   rw[e9] at hB1 kk
   refine zee rz (fun line=>[tbD (w.1++[line],over w.2 line)]) (fun σ=>∃v7 v8:Option D,σ=[some (rz r),some (rz s),some (.lst ((tbW (pad r) (pad s) i).map tbD)),some (nI (gt (pad r) i)),some (.ref (st++g).length),some (.tup (w.1.map rz)),some (rz w.2),v7,v8]) 1000 ⟨_,_,rfl⟩ hB1 ?_ ?_
   ·rintro line hline σ acc g5 ⟨v7,v8,rfl⟩ hB2
    obtain ⟨l5,lle⟩:=zud (hl 4 (by omega)).2 hline ow.l2
    have hac:acc.length≤999:=by simpa using hB2
    refine ⟨_,rfl,fun R kk=>?_⟩
    unfold zek
    simp only[wp_seq]
    rw[zro]
    refine zwq ow.l2 l5 lle ?_
    simp only[W,V,M]
    refine ⟨_,_,rfl,zbk _ _,by show 1≤sizeLine;decide,small _ (by rw[List.length_map,ow.l1];show i+1≤_;omega),by show 2≤sizeLine;decide,_,_,rfl,zbk _ _,smallT _ (by omega),?_⟩
    rw[zca]
    have:=kk [some (rz r),some (rz s),some (.lst ((tbW (pad r) (pad s) i).map tbD)),some (nI (gt (pad r) i)),some (.ref (st++g).length),some (.tup (w.1.map rz)),some (rz w.2),some (rz line),some (rz (over w.2 line))] g5 ⟨_,_,rfl⟩
    unfold tbD at this
    rw[List.map_append] at this
    exact this
   ·rintro σ g4 ⟨v7,v8,rfl⟩
    exact kk _ _ ⟨_,_,_,_,rfl⟩
  ·rintro σ g3 ⟨v5,v6,v7,v8,rfl⟩
   simp only[W,V,M,L]
   refine ⟨_,_,rfl,zbk _ _,?_⟩
   rw[zca,← List.map_flatMap,List.append_assoc]
   exact ⟨⟨_,_,_,_,_,_,rfl⟩,_,rfl⟩
 ·rintro σ t ⟨⟨v3,v4,v5,v6,v7,v8,rfl⟩,g,rfl⟩
  have b4:=hB 4 (by omega)
  have e0:nI 0=D.int 0:=rfl
  have e:(tbW (pad r) (pad s) 4).map (fun w=>D.tup (D.tup (D.int 0::w.2.map nI)::w.1.map rz))=(tablesL r s).map tabD:=by
   unfold tablesL
   rw[List.map_map]
   refine List.map_congr_left fun w _=>?_
   show _=tabD ((0::w.2)::w.1)
   unfold tabD
   rw[List.map_cons]
   show _=D.tup (D.tup ((0::w.2).map nI)::w.1.map rz)
   rw[List.map_cons,e0]
  rw[List.length_map,zru hr]
  generalize tbW (pad r) (pad s) 4=tb at b4 e ⊢
  simp only[W,V,Dd.N]
  refine ⟨by rw[List.length_map];exact small _ (by omega),?_⟩
  refine wp_map (as:=tb) (fun σ=>∃a b,σ=[a,b]) (fun _=>true) (fun w=>D.tup (D.tup (D.int 0::w.2.map nI)::w.1.map rz)) tbD ⟨_,_,rfl⟩ ?_ ?_
  ·rintro w hw σ ⟨a,b,rfl⟩
   have ow:=b4.2 w hw
   refine ⟨_,rfl,⟨_,_,rfl⟩,by simp only[W,and_self],fun _=>?_⟩
   simp only[W,V,Dd.N]
   have q1:[D.int 0].length+(w.2.map nI).length≤1000000:=by rw[List.length_map,ow.l2,List.length_singleton];omega
   have q2:[D.tup (D.int 0::w.2.map nI)].length+(w.1.map rz).length≤1000000:=by rw[List.length_map,ow.l1,List.length_singleton];omega
   refine ⟨by show 1≤sizeLine;decide,small _ q1,by show 1≤sizeLine;decide,small _ q2,?_⟩
   trivial
  rw[zea,e]
  exact k g
end
end Tab
end Dd
set_option maxHeartbeats 400000
namespace Dd
open PySem L2
namespace Tab
noncomputable def optD:Option RN→D
 | none=>.non
 | some r=>rz r
theorem bnot2 (x:Int):Builtin.bitNot (Builtin.bitNot x)=x:=by unfold Builtin.bitNot;omega
theorem zow (a:Nat):¬ 0≤Builtin.bitNot (a:Int):=by unfold Builtin.bitNot;omega
theorem bor_eq (a b:Nat):Builtin.bitOr (a:Int) (b:Int)=((Nat.lor a b:Nat):Int):=by
 unfold Builtin.bitOr Builtin.bitAnd
 rw[decide_eq_false (zow a),decide_eq_false (zow b)]
 dsimp only
 rw[bnot2,bnot2,bnot2]
 rfl
theorem zyo (a b:Nat):(0 < Builtin.bitAnd (a:Int) (b:Int))=(Nat.beq (Nat.land a b) 0=false):=by
 apply propext
 rw[show Builtin.bitAnd (a:Int) (b:Int)=((Nat.land a b:Nat):Int) from rfl]
 cases c:Nat.beq (Nat.land a b) 0 with
 | true=>have:=Nat.eq_of_beq_eq_true c;rw[this];simp
 | false =>
  have:Nat.land a b≠0:=fun z=>by rw[z] at c;cases c
  simp only[iff_true]
  omega
theorem zst (l:RN):(castR l).sum=(l.sum:Nat):=by
 induction l with
 | nil=>rfl
 | cons a l ih =>
  unfold castR at ih ⊢
  rw[List.map_cons,List.sum_cons,List.sum_cons,ih]
  push_cast
  rfl
theorem zxc (l:RN):l.map nI=(castR l).map D.int:=by unfold castR;rw[List.map_map];rfl
theorem zva {t i:Nat} {T:Option D} {s:Store}:eChain oLe oLtT (eC (.int 0)) (eOp oSub (eVar 2) (eVar 0)) (eC (.int 5)) [some (nI i),T,some (nI t)] s=.ok (.bl (Nat.ble i t && Nat.blt (t - i) 5)) s:=by
 rw[zuk]
 rw[show eC (.int 0) [some (nI i),T,some (nI t)] s=.ok (.int 0) s from rfl,zcy,show eOp oSub (eVar 2) (eVar 0) [some (nI i),T,some (nI t)] s=.ok (.int ((t:Int) - i)) s from rfl,zcy]
 by_cases h:(0:Int)≤(t:Int) - i
 ·rw[show oLe (.int 0) (.int ((t:Int) - i)) s=.ok (.bl (decide ((0:Int)≤(t:Int) - i))) s from rfl,decide_eq_true h]
  show Res.ok (D.bl (decide ((t:Int) - i < 5))) s=_
  congr 2
  rw[Nat.ble_eq_true_of_le (by omega:i≤t),Bool.true_and]
  cases c:Nat.blt (t - i) 5 with
  | true=>have:=Nat.blt_eq.mp c;exact decide_eq_true (by omega)
  | false =>
   refine decide_eq_false fun z=>?_
   have:Nat.blt (t - i) 5=true:=Nat.blt_eq.mpr (by omega)
   rw[this] at c
   cases c
 ·rw[show oLe (.int 0) (.int ((t:Int) - i)) s=.ok (.bl (decide ((0:Int)≤(t:Int) - i))) s from rfl,decide_eq_false h]
  have:Nat.ble i t=false:=by
   cases c:Nat.ble i t with
   | true=>have:=Nat.le_of_ble_eq_true c;omega
   | false=>rfl
  rw[this]
  rfl
section
variable {st:Store}
theorem zxb {tab:List RN} {t:Nat} {S1 S3 S4 S5:Option D} {Q:D→Store→Prop} (h5:tab.length=5) (hr:∀l∈tab,l.length=5) (q:Q (.lst ((nums tab t).map nI)) st) :
  WP (eComp (iR1 (aCons (eC (.int 5)) aNil)) 1 [0,2] (gN 0) (eB (eChain oLe oLtT (eC (.int 0)) (eOp oSub (eVar 2) (eVar 0)) (eC (.int 5)))) (eOp oIx (eOp oIx (eVar 1) (eVar 0)) (eOp oSub (eVar 2) (eVar 0))) [some (tabD tab),S1,some (nI t),S3,S4,S5] st) Q:=by
 simp only[W,V,Dd.N]
 refine ⟨rngN (by omega) (by omega),by rw[zdr];decide,?_⟩
 rw[show ((5:Int).toNat)=5 from rfl,rng_nI]
 refine wp_map (as:=List.range 5) (fun σ=>∃a,σ=[a,some (tabD tab),some (nI t)]) (fun i=>Nat.ble i t && Nat.blt (t - i) 5) (fun i=>nI (cel tab t i)) nI ⟨_,rfl⟩ ?_ ?_
 ·rintro i hi σ ⟨a,rfl⟩
  have hi:i < 5:=List.mem_range.mp hi
  refine ⟨_,rfl,⟨_,rfl⟩,?_,fun hP=>?_⟩
  ·simp only[W,V]
   refine WP.of zva ?_
   simp only[W,V,and_self]
  ·obtain ⟨p1,p2⟩:=zj hP
   have p1:=Nat.le_of_ble_eq_true p1
   have p2:=Nat.blt_eq.mp p2
   have hlt:i < tab.length:=by omega
   have hrow:(tab.getD i []).length=5:=by
    rw[List.getD_eq_getElem?_getD,List.getElem?_eq_getElem hlt]
    exact hr _ (List.getElem_mem hlt)
   have ix:∀s:Store,oIx (tabD tab) (.int i) s=.ok (rz (tab.getD i [])) s:=fun s =>
    oIx_of rfl (zmb (j:=i) (xs:=tab.map rz) (by rw[List.getElem?_map,List.getD_eq_getElem?_getD,List.getElem?_eq_getElem hlt];rfl))
   simp only[W,V]
   refine WP.of (ix _) ?_
   simp only[W,V,Dd.N]
   rw[show ((t:Int) - (i:Int))=((t - i:Nat):Int) by omega]
   refine WP.of (ixz (by omega) _) ⟨rfl,rfl⟩
 have e:((List.range 5).filter fun i=>Nat.ble i t && Nat.blt (t - i) 5).map (fun i=>nI (cel tab t i))=(nums tab t).map nI:=by unfold nums ixs;rw[List.map_map];rfl
 rw[e]
 exact q
theorem zxa {l:RN} {x:Nat} {s:Store} {v:Option D} {σ:DS} {n:Nat} (hn:s[n]?=some (.lst ((l++[x]).map nI))):ePop (eVar 1) (v::some (.ref n)::σ) s=.ok (nI x) (s.set n (.lst (l.map nI))):=by
 have hl:((l++[x]).map nI)=l.map nI++[nI x]:=by simp
 show (match s[n]? with
  | some (.lst xs)=>match xs[xs.length - 1]? with
   | some y=>Res.ok y (s.set n (.lst xs.dropLast))
   | none=>.stuck
  | _=>.stuck)=_
 rw[hn,hl]
 simp
theorem zsu {r:RN} {v0 v2 v3 v4 v5:Option D} {Q:Fl→Store→Prop} (hr:r.length≤1000) (q:Q (.nx [v0,some (.ref st.length),v2,v3,v4,v5]) (st++[.lst ((nz r).map nI)])) :
  WP (sWhile (bAnd (eB (eOp oGt (eCall bLen (aCons (eVar 1) aNil)) (eC (.int 0)))) (eB (eOp oEq (eOp oIx (eVar 1) (eUn oNeg (eC (.int 1)))) (eC (.int 0))))) zt [v0,some (.ref st.length),v2,v3,v4,v5] (st++[.lst (r.map nI)])) Q:=by
 refine zjm (fun m σ s=>∃xs:RN,m=xs.length∧σ=[v0,some (.ref st.length),v2,v3,v4,v5]∧s=st++[.lst (xs.map nI)]∧nz xs=nz r) (k:=r.length) ⟨r,rfl,rfl,rfl,rfl⟩ (by omega) ?_
 rintro j σ s ⟨xs,rfl,rfl,rfl,hx⟩
 have hn:(st++[O.lst (xs.map nI)])[st.length]?=some (.lst (xs.map nI)):=by simp
 simp only[W,V]
 refine WP.of (zsl (zda hn)) ?_
 simp only[W,V]
 rcases zho xs with rfl | ⟨l,x,rfl⟩
 ·rw[if_neg (by simp)]
  refine ⟨trivial,?_⟩
  rw[← hx] at q
  exact q
 ·have hl:((l++[x]).map nI)=l.map nI++[nI x]:=by simp
  rw[if_pos (by simp<;>omega)]
  refine ⟨trivial,WP.of (oIx_of (zda hn) (by rw[hl];exact zpa _ _)) ?_⟩
  simp only[W,V]
  by_cases c:(x:Int)=0
  ·rw[if_pos c]
   have c0:x=0:=by omega
   subst c0
   unfold zt
   simp only[W]
   refine WP.of (zxa hn) ?_
   simp only[L]
   exact ⟨l.length,by simp,l,rfl,trivial,by rw[zca],by rw[← hx,zkf]⟩
  ·rw[if_neg c]
   rw[← hx,znt (by omega)] at q
   exact q
theorem zmo {tab:List RN} {Q:D→Store→Prop} (h5:tab.length=5) (hr:∀l∈tab,l.length=5) (k:∀g,Q (optD (madeL tab)) (st++g)):WP (zdx [tabD tab] st) Q:=by
 refine wp_fn rfl ?_
 simp only[W,V,Dd.N]
 refine ⟨by decide,rngN (by omega) (by omega),rngN (by omega) (by omega),?_⟩
 refine wp_for (fun i σ s=>(∃v2 v3 v4 v5:Option D,σ=[some (tabD tab),some (.ref st.length),v2,v3,v4,v5])∧s=st++(.lst (((List.range i).map fun k=>(nums tab (k+1)).sum).map nI)::[])∧∀k,k < i→free 0 (nums tab (k+1))=true) ⟨⟨_,_,_,_,rfl⟩,rfl,fun k hk=>absurd hk (by omega)⟩ ?_ ?_
 ·rintro i x σ s hx ⟨⟨v2,v3,v4,v5,rfl⟩,rfl,hf⟩
  obtain ⟨hi,rfl⟩:=zhh hx
  have hi:i < 8:=hi
  refine ⟨_,rfl,?_⟩
  rw[show ((1:Int)+(i:Int))=((i+1:Nat):Int) by omega]
  unfold zfu
  simp only[wp_seq]
  rw[zro]
  refine zxb h5 hr ?_
  simp only[W,V,Dd.N]
  have hnl:(nums tab (i+1)).length≤5:=by
   unfold nums ixs
   rw[List.length_map]
   exact Nat.le_trans (List.length_filter_le _ _) (by simp)
  refine wp_for (fun z σ s=>(∃(b:Nat) (v5:Option D),σ=[some (tabD tab),some (.ref st.length),some (nI (i+1)),some (.lst ((nums tab (i+1)).map nI)),some (nI b),v5]∧free b ((nums tab (i+1)).drop z)=free 0 (nums tab (i+1)))∧s=st++(.lst (((List.range i).map fun k=>(nums tab (k+1)).sum).map nI)::[])) ⟨⟨0,_,rfl,rfl⟩,rfl⟩ ?_ ?_
  ·rintro z y σ s hy ⟨⟨b,v5,rfl,hb⟩,rfl⟩
   rw[List.getElem?_map] at hy
   obtain ⟨n,hn,rfl⟩:=Option.map_eq_some_iff.mp hy
   have hz:z < (nums tab (i+1)).length:=by
    rcases Nat.lt_or_ge z (nums tab (i+1)).length with h | h
    ·exact h
    ·rw[List.getElem?_eq_none h] at hn;cases hn
   have ed:(nums tab (i+1)).drop z=n::(nums tab (i+1)).drop (z+1):=by
    rw[List.drop_eq_getElem_cons hz]
    rw[List.getElem?_eq_getElem hz] at hn
    cases hn
    rfl
   rw[ed,free] at hb
   refine ⟨_,rfl,?_⟩
   unfold zfv
   simp only[W,V,Dd.N,zyo,bor_eq]
   cases c:Nat.beq (Nat.land b n) 0 with
   | false =>
    rw[c] at hb
    rw[if_pos rfl]
    simp only[W,V,L]
    have e:madeL tab=none:=by
     unfold madeL
     cases ca:(List.range 8).all fun k=>free 0 (nums tab (k+1)) with
     | false=>rfl
     | true =>
      have:=List.all_eq_true.mp ca i (List.mem_range.mpr hi)
      rw[← hb] at this
      cases this
    have:=k [.lst (((List.range i).map fun k=>(nums tab (k+1)).sum).map nI)]
    rw[e] at this
    exact this
   | true =>
    rw[c] at hb
    rw[if_neg (by decide)]
    simp only[W,V,L,Dd.N]
    exact ⟨⟨_,_,rfl,hb⟩,trivial⟩
  ·rintro σ s ⟨⟨b,v5,rfl,hb⟩,rfl⟩
   rw[List.length_map,List.drop_length] at hb
   simp only[W,V,M,L]
   refine ⟨_,_,rfl,zbk _ _,castR (nums tab (i+1)),?_,_,_,rfl,zbk _ _,smallT _ (by simp;omega),⟨_,_,_,_,rfl⟩,?_,fun k hk=>?_⟩
   ·show asInts ((nums tab (i+1)).map nI)=_
    rw[zxc]
    exact zha _
   ·rw[zca,zst,List.range_succ,List.map_append,List.map_append]
    rfl
   ·rcases Nat.lt_or_ge k i with h | h
    ·exact hf k h
    ·have:k=i:=by omega
     subst this
     exact hb.symm
 ·rintro σ s ⟨⟨v2,v3,v4,v5,rfl⟩,rfl,hf⟩
  rw[show (rng 1 ((9:Int) - 1).toNat).length=8 from rfl] at hf ⊢
  have e:madeL tab=some (nz ((List.range 8).map fun k=>(nums tab (k+1)).sum)):=by
   unfold madeL
   rw[List.all_eq_true.mpr fun k hk=>hf k (List.mem_range.mp hk)]
   rfl
  rw[e] at k
  show WP _ _
  rw[wp_seq]
  refine zsu (by simp) ?_
  simp only[W,V]
  refine WP.of (zjf (xs:=(nz ((List.range 8).map fun k=>(nums tab (k+1)).sum)).map nI) (by simp)) ?_
  exact k _
end
end Tab
end Dd
set_option maxHeartbeats 400000
namespace Dd
open PySem L2
namespace Tab
theorem tab_ok {r s:RN} (ck:chkL (pad r) (pad s)=true):(tablesL r s).length≤100∧∀t∈tablesL r s,t.length=5∧∀l∈t,l.length=5:=by
 have hB:=gb_of (List.all_eq_true.mp (zj ck).1 4 (List.mem_range.mpr (by omega)))
 unfold tablesL
 refine ⟨by rw[List.length_map];exact hB.1,fun t ht=>?_⟩
 obtain ⟨w,hw,rfl⟩:=List.mem_map.mp ht
 have ow:=hB.2 w hw
 refine ⟨by rw[List.length_cons,ow.l1],fun l hl=>?_⟩
 rcases List.mem_cons.mp hl with rfl | hl
 ·rw[List.length_cons,ow.l2]
 ·exact ow.rows l hl
theorem zqs (ts:List (List RN)):(ts.filter fun t=>(madeL t).isSome).map (fun t=>optD (madeL t))=(ts.filterMap madeL).map rz:=by
 induction ts with
 | nil=>rfl
 | cons a ts ih =>
  cases e:madeL a with
  | none=>rw[List.filter_cons_of_neg (by rw[e];decide),List.filterMap_cons_none e,ih]
  | some r =>
   rw[List.filter_cons_of_pos (by rw[e];rfl),List.filterMap_cons_some e,List.map_cons,ih,List.map_cons,e]
   rfl
section
variable {st:Store}
theorem zwn {r t:RowI} {rn sn:RN} {S0 S1:Option D} {acc:List D} {g:Store} {R:Fl→Store→Prop} (p:Pr r t rn sn) (hB:(acc++rowsD (mk r t)).length≤200000)
  (q:∀g',R (.nx [S0,S1,some (.ref st.length),some (rowD r),some (rowD t)]) (st++(.lst (acc++rowsD (mk r t))::g'))) :
  WP (zci [S0,S1,some (.ref st.length),some (rowD r),some (rowD t)] (st++(.lst acc::g))) R:=by
 obtain ⟨c1,c2⟩:=zj p.ck
 have cL:=(zj c1).2
 have emk:rowsD (mk r t)=(foundL rn sn).map rz:=by
  unfold mk
  rw[p.er,p.es,zcr,zcr,of_decide_eq_true c2,znf]
 obtain ⟨tl,tr⟩:=tab_ok cL
 rw[emk] at hB q
 have e1:rowD r=rz rn:=by rw[p.er,zhg]
 have e2:rowD t=rz sn:=by rw[p.es,zhg]
 rw[e1,e2] at q ⊢
 unfold zci
 simp only[W,V,zpg,Dd.N]
 refine ⟨_,_,rfl,zbk _ _,zpq p.lr p.ls cL fun g1=>?_⟩
 rw[List.append_assoc,List.cons_append]
 generalize htabs:tablesL rn sn=tabs at tl tr
 have ef:foundL rn sn=tabs.filterMap madeL:=by unfold foundL;rw[htabs]
 rw[ef] at hB q
 simp only[W,V,Dd.N]
 refine ⟨by rw[List.length_map];exact small _ (by omega),?_⟩
 refine zkr (fun j ys σ s=>(∃v,σ=[v])∧ys=(tabs.take j).map (fun t=>optD (madeL t))∧∃g,s=st++(.lst acc::g)) ⟨⟨_,rfl⟩,rfl,_,rfl⟩ ?_ ?_
 ·rintro j x ys σ s hx ⟨⟨v,rfl⟩,rfl,g2,rfl⟩
  rw[List.getElem?_map] at hx
  obtain ⟨tb,htb,rfl⟩:=Option.map_eq_some_iff.mp hx
  obtain ⟨t1,t2⟩:=tr tb (List.mem_of_getElem? htb)
  refine ⟨_,rfl,?_⟩
  simp only[W,V]
  refine zmo t1 t2 fun g3=>?_
  rw[List.append_assoc,List.cons_append]
  exact ⟨⟨_,rfl⟩,by rw[zbl htb,List.map_append];rfl,_,rfl⟩
 ·rintro ys σ s ⟨⟨v,rfl⟩,rfl,g2,rfl⟩
  have ht:List.take (tabs.map tabD).length tabs=tabs:=by rw[List.length_map,List.take_length]
  rw[ht]
  refine ⟨by rw[List.length_map];exact small _ (by omega),?_⟩
  refine wp_map (as:=tabs) (fun σ=>∃a,σ=[a]) (fun t=>(madeL t).isSome) (fun t=>optD (madeL t)) (fun t=>optD (madeL t)) ⟨_,rfl⟩ ?_ ?_
  ·rintro tb htb σ ⟨a,rfl⟩
   refine ⟨_,rfl,⟨_,rfl⟩,?_,fun _=>by simp only[W,V,and_self]⟩
   simp only[W,V]
   cases e:madeL tb with
   | none=>exact WP.of (show oIsN true (optD none) .non _=.ok (.bl false) _ from rfl) ⟨rfl,rfl⟩
   | some r=>exact WP.of (show oIsN true (optD (some r)) .non _=.ok (.bl true) _ from rfl) ⟨rfl,rfl⟩
  rw[zqs]
  refine ⟨_,_,_,rfl,zbk _ _,rfl,small _ ?_,?_⟩
  ·rw[List.length_append] at hB;omega
  ·rw[zca]
   exact q _
theorem zjp {one other:List RowI} {Q:D→Store→Prop} (h1:one.length≤40) (h2:other.length≤40) (hm:∀r∈one,∀s∈other,∃rn sn,Pr r s rn sn) (k:∀g,Q (sumD (oddS (one.flatMap fun r=>other.flatMap (mk r)))) (st++g)):WP (zcj [sumD one,sumD other] st) Q:=by
 have ml:∀r∈one,∀s∈other,(mk r s).length≤100:=fun r hr s hs=>by
  obtain ⟨rn,sn,p⟩:=hm r hr s hs
  unfold mk
  rw[List.length_map,p.er,p.es,zcr,zcr]
  exact zlh (zj (zj p.ck).1).1
 have m2:∀r∈one,(other.flatMap (mk r)).length≤4000:=fun r hr=>by
  have:=zgr (l:=other) (f:=mk r) (c:=100) fun s hs=>ml r hr s hs
  omega
 have m3:(one.flatMap fun r=>other.flatMap (mk r)).length≤160000:=by
  have:=zgr (l:=one) (f:=fun r=>other.flatMap (mk r)) (c:=4000) fun r hr=>m2 r hr
  omega
 have er:∀r,rowsD (other.flatMap (mk r))=other.flatMap fun s=>rowsD (mk r s):=fun r=>List.map_flatMap ..
 have er2:rowsD (one.flatMap fun r=>other.flatMap (mk r))=one.flatMap fun r=>rowsD (other.flatMap (mk r)):=List.map_flatMap ..
 refine wp_fn rfl ?_
 simp only[W,V,Dd.N]
 refine ⟨by decide,?_⟩
 refine zee rowD (fun r=>rowsD (other.flatMap (mk r))) (fun σ=>∃v3 v4:Option D,σ=[some (sumD one),some (sumD other),some (.ref st.length),v3,v4]) 200000 ⟨_,_,rfl⟩ (by rw[List.nil_append,← er2,zbm];omega) ?_ ?_
 ·rintro r hr σ acc g ⟨v3,v4,rfl⟩ hB1
  refine ⟨_,rfl,fun R kk=>?_⟩
  unfold zfc
  simp only[W,V,Dd.N]
  rw[er] at hB1 kk
  refine zee rowD (fun s=>rowsD (mk r s)) (fun σ=>∃v4:Option D,σ=[some (sumD one),some (sumD other),some (.ref st.length),some (rowD r),v4]) 200000 ⟨_,rfl⟩ hB1 ?_ ?_
  ·rintro s hs σ acc g ⟨v4,rfl⟩ hB2
   obtain ⟨rn,sn,p⟩:=hm r hr s hs
   exact ⟨_,rfl,fun R kk=>zwn p hB2 fun g'=>kk _ _ ⟨_,rfl⟩⟩
  ·rintro σ g ⟨v4,rfl⟩
   exact kk _ _ ⟨_,_,rfl⟩
 ·rintro σ g ⟨v3,v4,rfl⟩
  simp only[W,V,M]
  refine ⟨_,_,rfl,zbk _ _,?_⟩
  rw[zca,← er2]
  refine zrw rfl (by omega) fun g2=>?_
  rw[List.append_assoc]
  exact k _
end
end Tab
end Dd
set_option maxHeartbeats 400000
namespace Dd
open PySem L2
namespace Tab
theorem zrx (x:Nat) (l:RN):nz (x::l)=(match nz l with
 | []=>bif Nat.beq x 0 then [] else [x]
 | y::l=>x::y::l):=rfl
theorem wt_nz:∀(l:RN) (w:Nat),wtN w (nz l)=wtN w l
 | [],_=>rfl
 | x::l,w=>by
  have ih:=wt_nz l (2 * w+1)
  rw[zrx]
  cases e:nz l with
  | nil =>
   rw[e] at ih
   dsimp only
   cases c:Nat.beq x 0 with
   | true =>
    have:=Nat.eq_of_beq_eq_true c
    subst this
    rw[wtN,← ih]
    simp[wtN]
   | false =>
    show w * x+wtN (2 * w+1) []=w * x+wtN (2 * w+1) l
    rw[ih]
  | cons y l' =>
   rw[e] at ih
   dsimp only
   rw[wtN,ih,wtN]
theorem zxd {a b c d:Nat} (h:a+3 * b+7 * c+15 * d≤16):nz [a,b,c,d]∈cts:=by
 unfold cts
 refine List.mem_flatMap.mpr ⟨a,List.mem_range.mpr (by omega),List.mem_flatMap.mpr ⟨b,List.mem_range.mpr (by omega),List.mem_flatMap.mpr ⟨c,List.mem_range.mpr (by omega),List.mem_flatMap.mpr ⟨d,List.mem_range.mpr (by omega),?_⟩⟩⟩⟩
 rw[Nat.ble_eq_true_of_le h]
 exact List.mem_singleton.mpr rfl
noncomputable def dv (i:Nat):Nat:=[15,7,3,1].getD i 0
noncomputable def wN (r:RN):Nat:=15 * gt r 0+7 * gt r 1+3 * gt r 2+gt r 3
theorem zvk {r:RN} {y i:Nat} (h:r.length=i) (hi:i < 4):wN (r++[y])=wN r+y * dv i:=by
 subst h
 rcases r with _ | ⟨d,_ | ⟨c,_ | ⟨b,_ | ⟨a,t⟩⟩⟩⟩
 ·show 15 * y+7 * 0+3 * 0+0=15 * 0+7 * 0+3 * 0+0+y * 15
  omega
 ·show 15 * d+7 * y+3 * 0+0=15 * d+7 * 0+3 * 0+0+y * 7
  omega
 ·show 15 * d+7 * c+3 * y+0=15 * d+7 * c+3 * 0+0+y * 3
  omega
 ·show 15 * d+7 * c+3 * b+y=15 * d+7 * c+3 * b+0+y * 1
  omega
 ·rw[List.length_cons,List.length_cons,List.length_cons,List.length_cons] at hi
  omega
noncomputable def Cm (m:Int) (r:RowI):Prop:=∃rn∈cts,r=castR rn∧(wtN 1 rn:Int)≤m
section
variable {st:Store} {n:Nat} {Q:D→Store→Prop}
theorem zop {m:Int} (hb:BagAt st n) (h0:0≤m) (h1:m≤16) (k:∀r st',Cm m r→Drew st st' n→Q (rowD r) st'):WP (zcl [.ref n,.int m] st) Q:=by
 have hkn:st.length≠n:=Nat.ne_of_gt hb.lt
 refine wp_fn rfl ?_
 refine zdj (R:=fun fl s=>fl=.nx [some (.ref n),some (.int m),some (.ref st.length),none,none,none]∧s=st++[.lst []]) ?_ ?_
 ·simp only[W,V]
  exact ⟨small _ (by simp),trivial,trivial⟩
 rintro fl s ⟨rfl,rfl⟩
 show WP _ _
 refine zdj (R:=fun fl s=>fl=.nx [some (.ref n),some (.int m),some (.ref st.length),some (.int m),none,none]∧s=st++[.lst []]) ?_ ?_
 ·simp only[W,V,and_self]
 rintro fl s ⟨rfl,rfl⟩
 show WP _ _
 refine zdj (R:=fun fl s=>∃(r:RN) (v u w:Option D),fl=.nx [some (.ref n),some (.int m),some (.ref st.length),v,u,w]∧r.length=4∧(wN r:Int)≤m∧Drew st s n∧s[st.length]?=some (.lst (r.map nI))) ?_ ?_
 ·simp only[W,V]
  refine WP.of (show iRD (aCons (eC (.int 3)) (aCons (eUn oNeg (eC (.int 1))) (aCons (eUn oNeg (eC (.int 1))) aNil))) [some (.ref n),some (.int m),some (.ref st.length),some (.int m),none,none] (st++[.lst []])=.ok (rngD 3 4) (st++[.lst []]) from rfl) ?_
  refine wp_for (fun i σ s=>∃(r:RN) (left:Int) (u w:Option D),σ=[some (.ref n),some (.int m),some (.ref st.length),some (.int left),u,w]∧r.length=i∧0≤left∧left≤16∧(wN r:Int)+left≤m∧Drew st s n∧s[st.length]?=some (.lst (r.map nI))) ⟨[],m,_,_,rfl,rfl,h0,h1,by show ((15 * 0+7 * 0+3 * 0+0:Nat):Int)+m≤m;omega,.more hb _,by simp⟩ ?_ ?_
  ·rintro i x σ s hx ⟨r,left,u,w,rfl,a1,a3,a4,a7,a5,a6⟩
   obtain ⟨hi,rfl⟩:=zng hx
   refine ⟨_,rfl,?_⟩
   unfold zem
   have edv:(2:Int) * 2 ^ ((3:Int) - (i:Int)).toNat - 1=(dv i:Nat):=by
    have h4:i=0∨i=1∨i=2∨i=3:=by omega
    rcases h4 with rfl | rfl | rfl | rfl<;>rfl
   have d12:1≤dv i∧dv i≤15:=by
    have h4:i=0∨i=1∨i=2∨i=3:=by omega
    rcases h4 with rfl | rfl | rfl | rfl<;>decide
   have hws:=fun y=>zvk (y:=y) a1 (by omega)
   have d1:(1:Int)≤(dv i:Nat):=by omega
   have d2:((dv i:Nat):Int)≤15:=by omega
   have cp:CPow 2 ((3:Int) - (i:Int)):=⟨by omega,by omega,by decide⟩
   simp only[W,V,M,Dd.N,edv]
   have edi:∃dd:Int,((dv i:Nat):Int)=dd:=⟨_,rfl⟩
   obtain ⟨dd,edd⟩:=edi
   rw[edd] at d1 d2 ⊢
   have hq0:0≤left / dd:=Int.ediv_nonneg a3 (by omega)
   have hq1:left / dd * dd≤left:=Int.ediv_mul_le left (by omega)
   have hq2:left / dd≤16:=by
    have:left / dd * 1≤left / dd * dd:=Int.mul_le_mul_of_nonneg_left d1 hq0
    omega
   refine ⟨cp,⟨by omega,Int.lt_of_le_of_lt d2 (by decide +kernel)⟩,?_⟩
   refine zkw a5.bag (by omega) (by omega) fun y s1 y0 y1 dr=>⟨cp,?_⟩
   have hyd:0≤y * dd∧y * dd≤left:=by
    have h1:y * dd≤left / dd * dd:=Int.mul_le_mul_of_nonneg_right (by omega) (by omega)
    exact ⟨Int.mul_nonneg y0 (by omega),by omega⟩
   obtain ⟨yn,rfl⟩:=Int.eq_ofNat_of_zero_le y0
   have hw:(wN (r++[yn]):Int)=(wN r:Int)+(yn:Int) * dd:=by
    rw[hws yn,← edd]
    push_cast
    rfl
   simp only[W,V,L]
   have s6:s1[st.length]?=some (.lst (r.map nI)):=(dr.keep _ (zcn a6) hkn).trans a6
   refine ⟨.inr ⟨by omega,by omega⟩,trivial,_,_,rfl,s6,_,_,rfl,s6,by rw[List.length_map];exact smallT _ (by omega),r++[yn],left - (yn:Int) * dd,_,_,rfl,by simp[a1],by omega,by omega,by omega,(a5.trans dr).over hb.lt (Nat.le_refl _),?_⟩
   rw[zim (zcn s6),List.map_append]
   rfl
  ·rintro σ s ⟨r,left,u,w,rfl,a1,a3,a4,a7,a5,a6⟩
   have a1:r.length=4:=a1
   exact ⟨r,_,_,_,rfl,a1,by omega,a5,a6⟩
 rintro fl s ⟨r0,v,u,w,rfl,hr,hwt,hd,hs⟩
 show WP _ _
 refine zdj (R:=fun fl s=>∃(r:RN) (v u w:Option D),fl=.nx [some (.ref n),some (.int m),some (.ref st.length),v,u,w]∧r.reverse=nz r0.reverse∧Drew st s n∧s[st.length]?=some (.lst (r.map nI))) ?_ ?_
 ·refine zjm (fun j σ s=>∃(r:RN) (v u w:Option D),j=r.length∧σ=[some (.ref n),some (.int m),some (.ref st.length),v,u,w]∧nz r.reverse=nz r0.reverse∧Drew st s n∧s[st.length]?=some (.lst (r.map nI))) (k:=r0.length) ⟨r0,v,u,w,rfl,rfl,rfl,hd,hs⟩ (by omega) ?_
  rintro j σ s ⟨r,v,u,w,rfl,rfl,hr,hd,hs⟩
  simp only[W,V]
  refine WP.of (zsl (zda hs)) ?_
  simp only[W,V]
  cases r with
  | nil =>
   rw[if_neg (by simp)]
   exact ⟨trivial,[],_,_,_,rfl,hr,hd,hs⟩
  | cons x r =>
   rw[if_pos (by simp)]
   refine ⟨trivial,WP.of (oIx_of (zda hs) (zoz (j:=0) (d:=nI x) (by simp))) ?_⟩
   simp only[W,V]
   by_cases c:(x:Int)=0
   ·rw[if_pos c]
    have c0:x=0:=by omega
    subst c0
    unfold zel
    simp only[W]
    refine WP.of (zvy rfl hs) ?_
    simp only[L]
    rw[List.reverse_cons,zkf] at hr
    exact ⟨r.length,by simp,r,_,_,_,rfl,rfl,hr,hd.over hb.lt (Nat.le_refl _),zim (zcn hs)⟩
   ·rw[if_neg c]
    rw[List.reverse_cons,znt (by omega)] at hr
    exact ⟨x::r,_,_,_,rfl,by rw[List.reverse_cons];exact hr,hd,hs⟩
 rintro fl s ⟨r,v,u,w,rfl,h9,hd,hs⟩
 show WP _ _
 have eb:eBack (eVar 2) (eUn oNeg (eC (.int 1))) [some (.ref n),some (.int m),some (.ref st.length),v,u,w] s=.ok (.lst (r.reverse.map nI)) s:=by
  show (match asL s (.ref st.length) with
   | some xs=>Res.ok (D.lst xs.reverse) s
   | none=>.stuck)=_
  rw[zgz hs,List.map_reverse]
 simp only[W]
 refine WP.of eb ?_
 simp only[W,V]
 have e4:∃a b c d,r0=[d,c,b,a]:=by
  rcases r0 with _ | ⟨d,_ | ⟨c,_ | ⟨b,_ | ⟨a,_ | ⟨z,t⟩⟩⟩⟩⟩
  ·cases hr
  ·cases hr
  ·cases hr
  ·cases hr
  ·exact ⟨a,b,c,d,rfl⟩
  ·simp at hr
 obtain ⟨a,b,c,d,rfl⟩:=e4
 have e5:r.reverse=nz [a,b,c,d]:=h9
 have hw4:((15 * d+7 * c+3 * b+a:Nat):Int)≤m:=hwt
 rw[e5,← rz,zhg]
 refine k _ _ ⟨nz [a,b,c,d],zxd (by omega),rfl,?_⟩ hd
 rw[wt_nz]
 show ((1 * a+(3 * b+(7 * c+(15 * d+0))):Nat):Int)≤m
 omega
theorem zef {c m:Int} (hb:BagAt st n) (c0:0≤c) (c1:c≤40) (h0:0≤m) (h1:m≤16) (k:∀l st',l.length≤40→(∀r∈l,Cm m r)→Drew st st' n→Q (sumD l) st'):WP (zq [.ref n,.int c,.int m] st) Q:=by
 refine wp_fn rfl ?_
 simp only[W,V]
 refine zkw hb (by omega) (by omega) fun c2 st1 a1 a2 d1=>?_
 try simp only[W,V,Dd.N]
 refine ⟨rngN (by omega) (by omega),by rw[zdr];exact small _ (by omega),?_⟩
 refine zkr (fun j acc σ s=>∃(l:List RowI) (v:Option D),acc=rowsD l∧l.length=j∧(∀r∈l,Cm m r)∧σ=[v,some (.ref n),some (.int m)]∧Drew st s n) ⟨[],none,rfl,rfl,by simp,rfl,d1⟩ ?_ ?_
 ·rintro j x acc σ s hx ⟨l,v,rfl,b1,b2,rfl,b3⟩
  refine ⟨_,rfl,?_⟩
  simp only[W,V]
  refine zop b3.bag h0 h1 fun r s2 hr d2=>⟨l++[r],_,by simp[rowsD],by simp[b1],?_,rfl,b3.trans d2⟩
  intro z hz
  rcases List.mem_append.mp hz with hz | hz
  ·exact b2 z hz
  ·rw[List.mem_singleton.mp hz];exact hr
 ·rintro ys σ s ⟨l,v,rfl,b1,b2,rfl,b3⟩
  rw[zdr] at b1
  refine zrw (l:=l) rfl (by omega) fun g=>k _ _ (by have:=zml l;omega) (fun r hr=>b2 r (zns hr)) (b3.trans (.more b3.bag g))
end
end Tab
end Dd
set_option maxHeartbeats 400000
namespace Dd
open PySem L2
namespace Tab
theorem nz_len:∀l:RN,(nz l).length≤l.length
 | []=>Nat.le_refl _
 | x::l=>by
  have ih:=nz_len l
  rw[zrx,List.length_cons]
  cases e:nz l with
  | nil =>
   dsimp only
   cases Nat.beq x 0<;>simp
  | cons y l' =>
   rw[e] at ih
   dsimp only
   rw[List.length_cons]
   omega
theorem ztz {r s x:RN} (hr:r.length≤4) (hs:s.length≤4) (ck:chkP r s=true) (h:x∈madeP r s):x.length≤8:=by
 have hM:=gm_of (List.all_eq_true.mp (zj ck).1 r.length (List.mem_range.mpr (by omega)))
 unfold madeP at h
 obtain ⟨l,hl,rfl⟩:=List.mem_map.mp h
 obtain ⟨p,hp,hl⟩:=List.mem_flatMap.mp hl
 have:=hM.l1 p hp
 have h9:=nz_len l
 unfold topOne at hl
 cases c:((p.1.zip (topOf p)).all fun q=>Nat.beq (Nat.land q.1 q.2) 0) with
 | false=>rw[c] at hl;simp at hl
 | true =>
  rw[c] at hl
  have e:=congrArg List.length (List.mem_singleton.mp hl)
  rw[List.length_map,List.length_zip] at e
  omega
theorem pr_of {m m':Int} {one other:List RowI} (h1:∀r∈one,Cm m r) (h2:∀r∈other,Cm m' r) (h:m+m'≤16):∀r∈one,∀s∈other,∃rn sn,Pr r s rn sn:=fun r hr s hs=>by
 obtain ⟨rn,a1,a2,a3⟩:=h1 r hr
 obtain ⟨sn,b1,b2,b3⟩:=h2 s hs
 have hw:wtN 1 rn+wtN 1 sn≤16:=by omega
 exact ⟨rn,sn,a2,b2,zsi a1,zsi b1,hw,chk_of a1 b1 hw⟩
theorem zov {st:Store} {S0 S1 S2 S3 S4 S5 S6:Option D} {one other:List RowI} {R:Fl→Store→Prop} (h1:one.length≤40) (h2:other.length≤40) (hm:∀r∈one,∀s∈other,∃rn sn,Pr r s rn sn)
  (q:∀g,R (.nx [S0,S1,S2,S3,S4,S5,S6,some (sumD one),some (sumD other)]) (st++g)):WP (zkq [S0,S1,S2,S3,S4,S5,S6,some (sumD one),some (sumD other)] st) R:=by
 unfold zkq
 simp only[W,V]
 refine zss h1 h2 hm fun g1=>?_
 refine zjp h1 h2 hm fun g2=>?_
 refine WP.of (zgp fun r hr=>?_) ?_
 ·have hr:=zns hr
  obtain ⟨a,ha,hr⟩:=List.mem_flatMap.mp hr
  obtain ⟨b,hb,hr⟩:=List.mem_flatMap.mp hr
  obtain ⟨rn,sn,p⟩:=hm a ha b hb
  unfold mk at hr
  rw[p.er,p.es,zcr,zcr] at hr
  obtain ⟨x,hx,rfl⟩:=List.mem_map.mp hr
  have:=ztz p.lr p.ls (zj (zj p.ck).1).1 hx
  unfold castR
  rw[List.length_map]
  omega
 ·simp only[W,V,Dd.N]
  rw[List.append_assoc]
  exact q _
theorem k40_holds (ns:List Int) (hl:ns.length≤63):∃st',F_k40 [.scr (ns.map .int)] []=.ok (.bl true) st':=by
 have key:WP (F_k40 [.scr (ns.map .int)] []) (fun v _=>v=.bl true):=by
  refine wp_fn rfl ?_
  simp only[W,V]
  have hle:((ns.map D.int).length:Int)≤63:=by rw[List.length_map];omega
  have hge:(0:Int)≤((ns.map D.int).length:Int):=by omega
  generalize ((ns.map D.int).length:Int)=len at hle hge
  refine ⟨_,rfl,rngN (by split<;>omega) (by split<;>omega),?_⟩
  refine wp_for (fun i σ s=>∃v1 v2 v3 v4 v5 v6 v7 v8:Option D,σ=[some (.scr (ns.map .int)),v1,v2,v3,v4,v5,v6,v7,v8]) ⟨_,_,_,_,_,_,_,_,rfl⟩ ?_ ?_
  ·rintro i x σ s0 hx ⟨v1,v2,v3,v4,v5,v6,v7,v8,rfl⟩
   obtain ⟨hi,rfl⟩:=zhh hx
   have hi2:i≤20:=by split at hi<;>omega
   refine ⟨_,rfl,?_⟩
   unfold zpf
   refine zdj (R:=fun fl s=>fl=.nx [some (.scr (ns.map .int)),some (.int i),some (.ref s0.length),v3,v4,v5,v6,v7,v8]∧BagAt s s0.length) ?_ ?_
   ·simp only[W,V]
    rw[Int.zero_add]
    exact bag_wp hl (by omega) fun g hb=>⟨rfl,hb⟩
   rintro fl s ⟨rfl,hb⟩
   show WP _ _
   refine zdj (R:=fun fl s=>∃m:Int,fl=.nx [some (.scr (ns.map .int)),some (.int i),some (.ref s0.length),some (.int m),v4,v5,v6,v7,v8]∧0≤m∧m≤16∧BagAt s s0.length) ?_ ?_
   ·simp only[W,V]
    exact zkw hb (by omega) (by omega) fun m s' m0 m1 d=>⟨m,rfl,m0,by omega,d.bag⟩
   rintro fl s ⟨m,rfl,m0,m1,hb⟩
   show WP _ _
   refine zdj (R:=fun fl s=>∃c:Int,fl=.nx [some (.scr (ns.map .int)),some (.int i),some (.ref s0.length),some (.int m),some (.int c),v5,v6,v7,v8]∧0≤c∧c≤12∧BagAt s s0.length) ?_ ?_
   ·simp only[W,V]
    refine ⟨by show 4≤sizeLine;decide,zkw hb (by omega) (by omega) fun c s' c0 c1 d=>?_⟩
    refine zrt c0 (by show c < 4;omega) fun e he=>?_
    simp only[List.mem_cons,List.not_mem_nil,or_false] at he
    rcases he with rfl | rfl | rfl | rfl
    ·exact ⟨_,rfl,by omega,by omega,d.bag⟩
    ·exact ⟨_,rfl,by omega,by omega,d.bag⟩
    ·exact ⟨_,rfl,by omega,by omega,d.bag⟩
    ·exact ⟨_,rfl,by omega,by omega,d.bag⟩
   rintro fl s ⟨c,rfl,c0,c1,hb⟩
   show WP _ _
   refine zdj (R:=fun fl s=>∃one,fl=.nx [some (.scr (ns.map .int)),some (.int i),some (.ref s0.length),some (.int m),some (.int c),some (sumD one),v6,v7,v8]∧one.length≤40∧(∀r∈one,Cm m r)∧BagAt s s0.length) ?_ ?_
   ·simp only[W,V]
    exact zef hb c0 (by omega) m0 m1 fun l s' h1 h2 d=>⟨l,rfl,h1,h2,d.bag⟩
   rintro fl s ⟨one,rfl,l1,hone,hb⟩
   show WP _ _
   refine zdj (R:=fun fl s=>∃other,fl=.nx [some (.scr (ns.map .int)),some (.int i),some (.ref s0.length),some (.int m),some (.int c),some (sumD one),some (sumD other),v7,v8]∧other.length≤40∧(∀r∈other,Cm (16 - m) r)) ?_ ?_
   ·simp only[W,V]
    refine ⟨by show 2≤sizeLine;decide,?_⟩
    refine zrt (by split<;>omega) (by split<;>decide) fun e he=>?_
    have fin:∀c':Int,0≤c'→c'≤40→WP (zq [.ref s0.length,.int c',.int (16 - m)] s) (fun v st1=>∃other,Fl.nx [some (D.scr (ns.map .int)),some (.int i),some (.ref s0.length),some (.int m),some (.int c),some (sumD one),some v,v7,v8]=.nx [some (.scr (ns.map .int)),some (.int i),some (.ref s0.length),some (.int m),some (.int c),some (sumD one),some (sumD other),v7,v8]∧other.length≤40∧(∀r∈other,Cm (16 - m) r)):=fun c' a b=>zef hb a b (by omega) (by omega) fun l s' h1 h2 d=>⟨l,rfl,h1,h2⟩
    simp only[List.mem_cons,List.not_mem_nil,or_false] at he
    rcases he with rfl | rfl
    ·exact ⟨trivial,fin 3 (by omega) (by omega)⟩
    ·exact ⟨trivial,fin 1 (by omega) (by omega)⟩
   rintro fl s ⟨other,rfl,l2,hother⟩
   show WP _ _
   have p1:=pr_of hone hother (by omega)
   have p2:=pr_of hother hone (by omega)
   simp only[W,V,Dd.N]
   refine ⟨by show 2≤sizeLine;decide,by show 2≤sizeLine;decide,by show 2≤sizeLine;decide,by show 3≤sizeLine;decide,?_⟩
   refine wp_for (fun z σ s=>∃v7 v8:Option D,σ=[some (.scr (ns.map .int)),some (.int i),some (.ref s0.length),some (.int m),some (.int c),some (sumD one),some (sumD other),v7,v8]) ⟨_,_,rfl⟩ ?_ ?_
   ·rintro z x σ s hx ⟨v7,v8,rfl⟩
    have hm:=List.mem_of_getElem? hx
    simp only[List.mem_cons,List.not_mem_nil,or_false] at hm
    rcases hm with rfl | rfl | rfl
    ·exact ⟨_,rfl,zov l1 l2 p1 fun g=>⟨_,_,rfl⟩⟩
    ·exact ⟨_,rfl,zov l2 l1 p2 fun g=>⟨_,_,rfl⟩⟩
    ·exact ⟨_,rfl,zov l1 l2 p1 fun g=>⟨_,_,rfl⟩⟩
   ·rintro σ s ⟨v7,v8,rfl⟩
    simp only[L]
    exact ⟨_,_,_,_,_,_,_,_,rfl⟩
  ·rintro σ s ⟨v1,v2,v3,v4,v5,v6,v7,v8,rfl⟩
   simp only[W]
 obtain ⟨v,s,e,rfl⟩:=key.get
 exact ⟨s,e⟩
end Tab
end Dd
namespace K40
theorem holds:∀ns:List Int,ns.length≤63→∃st',Dd.F_k40 [.scr (ns.map .int)] []=.ok (.bl true) st':=fun ns hl=>Dd.Tab.k40_holds ns hl
end K40
set_option maxHeartbeats 4000000
namespace K40
open PySem L2 Dd
noncomputable def top (i:Nat):Stmt:=PySem.Challenge.pw_raisedsums_k40_counts_multiplied.main.body.getD i (.Pass ⟨0,0,0,0⟩)
noncomputable abbrev zgk:Stmt:=top 17
noncomputable abbrev zfi:Stmt:=top 18
noncomputable abbrev zgj:Stmt:=top 19
noncomputable abbrev zdq:Stmt:=top 20
noncomputable abbrev zbr:Stmt:=top 21
noncomputable abbrev zcs:Stmt:=top 26
noncomputable abbrev zhw:Stmt:=top 10
noncomputable abbrev zdb:Stmt:=top 11
noncomputable abbrev zdo:Stmt:=top 12
noncomputable abbrev zbw:Stmt:=top 8
noncomputable abbrev zeo:Stmt:=top 13
noncomputable abbrev zcd:Stmt:=top 14
noncomputable abbrev s_flip:Stmt:=top 1
noncomputable abbrev zfh:Stmt:=top 7
noncomputable abbrev znd:Stmt:=top 15
noncomputable abbrev zfj:Stmt:=top 24
noncomputable abbrev zeq:Stmt:=top 22
noncomputable abbrev zdp:Stmt:=top 23
noncomputable abbrev zep:Stmt:=top 25
noncomputable abbrev s_law:Stmt:=top 27
section
variable {P:Program} {w:World} {K:PySem.W.Frag} {mg:Str→Option Value} {base h:Heap}
theorem zhf : FnScope ["_law_script", "_law_at", "_law_cell", "_law_mix", "_law_k"] ["_law_script", "_law_at"] (defScope zgk) := ⟨rfl, rfl, rfl, by decide +kernel, rfl, by decide +kernel, by decide +kernel⟩
theorem zmk (T : TopF K "_law_bag" zgk) (XX : K.In h) (G : h.Ns mainGlobals mg) (z_len : mg "len" = none) (z_abs : mg "abs" = none) (z_min : mg "min" = none) (z_range : mg "range" = none) : CalD P w K mg base "_law_bag" 1 ["_law_script", "_law_at"] zed :=
 have nd:=zhf.nd
 zbb (k:=0) T XX G zhf (fun _ _ _ _ _ _ us hl=>len2 us hl fun _ _=>rfl) fun f cdv A outer s H E hr=>(zd (zl (i:=2) nd rfl (Or.inl rfl) d_intJ)
 (zd (ds_ifJ (zce (op_ltA hr.units0) oLtT_D (d_varJ (pv 1)) (zn zp bLen_D rfl z_len bt_len (za (d_varJ (pv 0)) zc)) (nomark _)) (zf (zl (i:=2) nd rfl (Or.inl rfl) (zn zvd bAbs_D rfl z_abs bt_abs (za (d_ixJ (d_varJ (pv 0)) (d_varJ (pv 1)) (fun _ _=>rfl)) zc)))) zdt)
 (zd (zl (i:=3) nd rfl (Or.inl rfl) (d_opJ zu oAdd_D (d_opJ op_mul (oI_D fun _ _ _ _=>.int _) d_intJ (d_varJ (pv 1))) d_intJ))
 (zd (zba PassesOwn.never rfl (zcf rfl z_range (za (zn (zgc rfl) b2I_D rfl z_min bt_min (za (zn zp bLen_D rfl z_len bt_len (za (d_varJ (pv 0)) zc)) (za d_intJ zc))) zc)) (ze (i:=4) nd rfl (Or.inl rfl))
 (zf (zl (i:=3) nd rfl (Or.inl rfl) (d_opJ op_mod (oI_D fun _ _ _ _=>.int _) (d_opJ zu oAdd_D (d_opJ zu oAdd_D (d_opJ op_mul (oI_D fun _ _ _ _=>.int _) (d_varJ (pv 3)) d_intJ) (d_opJ op_mod (oI_D fun _ _ _ _=>.int _) (d_ixJ (d_varJ (pv 0)) (d_varJ (pv 4)) (fun _ _=>rfl)) d_intJ)) (d_varJ (pv 4))) d_intJ))))
 (zd (ds_ifJ (zce (op_ltA hr.units0) oLtT_D (d_varJ (pv 2)) (d_opJ op_pow (oI_D fun _ _ _ _=>.int _) d_intJ d_intJ) (nomark _)) (zf (zl (i:=2) nd rfl (Or.inl rfl) d_intJ)) zdt)
 (zf (zbd (zfa (za (d_varJ (pv 2)) (za (d_varJ (pv 3)) zc))))))))))
theorem zgh : FnScope ["_law_bag_here", "_law_many", "_law_digit", "_law_number", "_law_room"] ["_law_bag_here", "_law_many"] (defScope zfi) := ⟨rfl, rfl, rfl, by decide +kernel, rfl, by decide +kernel, by decide +kernel⟩
theorem zkc (T : TopF K "_law_take" zfi) (XX : K.In h) (G : h.Ns mainGlobals mg)  : CalD P w K mg base "_law_take" 1 ["_law_bag_here", "_law_many"] zbg :=
 have nd:=zgh.nd
 zbb (k:=0) T XX G zgh (fun _ _ _ _ _ _ us hl=>len2 us hl fun _ _=>rfl) fun f cdv A outer s H E hr=>(zd (ds_ifJ (zce op_gt (oI_D0 fun _ _ _ _=>.bl _) (d_ixJ (d_varJ (pv 0)) d_intJ (fun _ _=>rfl)) d_intJ (nomark _)) (zd (zl (i:=2) nd rfl (Or.inl rfl) (d_opJ op_mod (oI_D fun _ _ _ _=>.int _) (d_ixJ (d_varJ (pv 0)) d_intJ (fun _ _=>rfl)) (d_varJ (pv 1))))
 (zd (zlr (d_opJ zka (oI_D fun _ _ _ _=>.int _) (d_ixJ (d_varJ (pv 0)) d_intJ (fun _ _=>rfl)) (d_varJ (pv 1))) (d_varJ (pv 0)) d_intJ)
 (zf (zbd (d_varJ (pv 2)))))) zdt)
 (zd (zl (i:=3) nd rfl (Or.inl rfl) d_intJ)
 (zd (zl (i:=4) nd rfl (Or.inl rfl) d_intJ)
 (zd (zgb PassesOwn.never (zce (op_ltA hr.units0) oLtT_D (d_varJ (pv 4)) (d_varJ (pv 1)) (nomark _)) (zd (zlr (d_opJ op_mod (oI_D fun _ _ _ _=>.int _) (d_opJ zu oAdd_D (d_opJ op_mul (oI_D fun _ _ _ _=>.int _) (d_ixJ (d_varJ (pv 0)) d_intJ (fun _ _=>rfl)) d_intJ) d_intJ) d_intJ) (d_varJ (pv 0)) d_intJ)
 (zd (zl (i:=3) nd rfl (Or.inl rfl) (d_opJ zu oAdd_D (d_opJ op_mul (oI_D fun _ _ _ _=>.int _) (d_varJ (pv 3)) d_intJ) (d_opJ op_mod (oI_D fun _ _ _ _=>.int _) (d_opJ op_mul (oI_D fun _ _ _ _=>.int _) (d_opJ zka (oI_D fun _ _ _ _=>.int _) (d_ixJ (d_varJ (pv 0)) d_intJ (fun _ _=>rfl)) d_intJ) d_intJ) d_intJ)))
 (zf (zl (i:=4) nd rfl (Or.inl rfl) (d_opJ op_mul (oI_D fun _ _ _ _=>.int _) (d_varJ (pv 4)) d_intJ))))))
 (zf (zbd (d_opJ op_mod (oI_D fun _ _ _ _=>.int _) (d_varJ (pv 3)) (d_varJ (pv 1)))))))))
theorem zhe : FnScope ["_law_things", "_law_odd_here", "_law_thing"] ["_law_things"] (defScope zgj) := ⟨rfl, rfl, rfl, by decide +kernel, rfl, by decide +kernel, by decide +kernel⟩
theorem zmj (T : TopF K "_law_odd" zgj) (XX : K.In h) (G : h.Ns mainGlobals mg) (z_sorted : mg "sorted" = none) (z_tuple : mg "tuple" = none) : CalD P w K mg base "_law_odd" 1 ["_law_things"] zbv :=
 have nd:=zhe.nd
 zbb (k:=0) T XX G zhe (fun _ _ _ _ _ _ us hl=>len1 us hl fun _=>rfl) fun f cdv A outer s H E hr=>(zd (zl (i:=1) nd rfl (Or.inr rfl) zsh)
 (zd (zba PassesOwn.never rfl (zbe (d_varJ (pv 0))) (ze (i:=2) nd rfl (Or.inl rfl))
 (zf (zog (hu_of hr) (d_varJ (pv 1)) (d_varJ (pv 2)) (d_notJ (zuv (hu_of hr) (d_varJ (pv 1)) (d_varJ (pv 2)) d_blJ ⟨rfl,rfl,rfl,rfl⟩)) rfl)))
 (zf (zbd (zbo zw zdf rfl z_tuple zcg (za (zn (zgy rfl hr.units) zma rfl z_sorted zlv (za (zdu rfl (zur (d_varJ (pv 1))) (fun _ _ _ _ _ => (ze (i := 0) (show (["_law_thing", "_law_odd_here"] : List Str).Nodup from by decide +kernel) rfl (Or.inl rfl))) (fun _ _ _ _ _ => (zkj (zgt (zye (hu_of hr) (d_varJ (pv 1)) (d_varJ (pv 0)) (fun _ _ => rfl))))) (fun _ _ _ _ _ => (d_varJ (pv 0))) (N := ["_law_thing", "_law_odd_here"]) (k := 1) (is := [1]) (zcx (by rfl))) zc)) zc))))))
theorem zeu : FnScope ["_law_bag_here", "_law_most", "_law_counts_here", "_law_left", "_law_k", "_law_more"] ["_law_bag_here", "_law_most"] (defScope zdq) := ⟨rfl, rfl, rfl, by decide +kernel, rfl, by decide +kernel, by decide +kernel⟩
theorem zhz (T : TopF K "_law_counts" zdq) (XX : K.In h) (G : h.Ns mainGlobals mg) (z_range : mg "range" = none) (z_len : mg "len" = none) (z_tuple : mg "tuple" = none) (c__law_take : CalD P w K mg base "_law_take" 1 ["_law_bag_here", "_law_many"] zbg) : CalD P w K mg base "_law_counts" 2 ["_law_bag_here", "_law_most"] zcl :=
 have nd:=zeu.nd
 zbb (k:=1) T XX G zeu (fun _ _ _ _ _ _ us hl=>len2 us hl fun _ _=>rfl) fun f cdv A outer s H E hr=>(zd (zl (i:=2) nd rfl (Or.inl rfl) (zfa zc))
 (zd (zl (i:=3) nd rfl (Or.inl rfl) (d_varJ (pv 1)))
 (zd (zba PassesOwn.never rfl (zok rfl z_range (za d_intJ (za (d_negJ d_intJ) (za (d_negJ d_intJ) zc)))) (ze (i:=4) nd rfl (Or.inl rfl))
 (zd (zl (i:=5) nd rfl (Or.inl rfl) (zy c__law_take (fun _ _ _ _ h=>zx h) (hr.mono (by decide)) rfl (za (d_varJ (pv 0)) (za (d_opJ zu oAdd_D (d_opJ zka (oI_D fun _ _ _ _=>.int _) (d_varJ (pv 3)) (d_opJ op_sub (oI_D0 fun _ _ _ _=>.int _) (d_opJ op_shl (oI_D fun _ _ _ _=>.int _) d_intJ (d_varJ (pv 4))) d_intJ)) d_intJ) zc))))
 (zd (zl (i:=3) nd rfl (Or.inl rfl) (d_opJ op_sub (oI_D0 fun _ _ _ _=>.int _) (d_varJ (pv 3)) (d_opJ op_mul (oI_D fun _ _ _ _=>.int _) (d_varJ (pv 5)) (d_opJ op_sub (oI_D0 fun _ _ _ _=>.int _) (d_opJ op_shl (oI_D fun _ _ _ _=>.int _) d_intJ (d_varJ (pv 4))) d_intJ))))
 (zf (zbt (zde (d_varJ (pv 2)) (za (d_varJ (pv 5)) zc)))))))
 (zd (zgb PassesOwn.never (JW.pt (zod (zce op_gt (oI_D0 fun _ _ _ _=>.bl _) (zn zp bLen_D rfl z_len bt_len (za (d_varJ (pv 2)) zc)) d_intJ (nomark _)) (zja (zce (op_eqX hr.units) oEq_D (d_ixJ (d_varJ (pv 2)) d_intJ (fun _ _=>rfl)) d_intJ (nomark _)) (by first | exact Or.inl rfl | exact Or.inr rfl)))) (zf (zbt (zyc (d_varJ (pv 2)) (za d_intJ zc)))))
 (zf (zbd (zbo zw zdf rfl z_tuple zcg (za (zyh (d_varJ (pv 2)) (d_negJ d_intJ)) zc))))))))
theorem zcm : FnScope ["_law_bag_here", "_law_many", "_law_most"] ["_law_bag_here", "_law_many", "_law_most"] (defScope zbr) := ⟨rfl, rfl, rfl, by decide +kernel, rfl, by decide +kernel, by decide +kernel⟩
theorem zev (T : TopF K "_law_some_counts" zbr) (XX : K.In h) (G : h.Ns mainGlobals mg) (z_range : mg "range" = none) (c__law_odd : CalD P w K mg base "_law_odd" 1 ["_law_things"] zbv) (c__law_take : CalD P w K mg base "_law_take" 1 ["_law_bag_here", "_law_many"] zbg) (c__law_counts : CalD P w K mg base "_law_counts" 2 ["_law_bag_here", "_law_most"] zcl) : CalD P w K mg base "_law_some_counts" 3 ["_law_bag_here", "_law_many", "_law_most"] zq :=
 have nd:=zcm.nd
 zbb (k := 2) T XX G zcm (fun _ _ _ _ _ _ us hl => len3 us hl fun _ _ _ => rfl) fun f cdv A outer s H E hr => (zf (zbd (zy c__law_odd (fun _ _ _ _ h => zx h) (hr.mono (by decide)) rfl (za (zdu rfl (zcf rfl z_range (za (zy c__law_take (fun _ _ _ _ h => zx h) (hr.mono (by decide)) rfl (za (d_varJ (pv 0)) (za (d_opJ zu oAdd_D (d_varJ (pv 1)) d_intJ) zc))) zc)) (fun _ _ _ _ _ => (ze (i := 0) (show (["_law_k", "_law_bag_here", "_law_most"] : List Str).Nodup from by decide +kernel) rfl (Or.inl rfl))) (fun _ _ _ _ _ => zcu) (fun _ _ _ _ _ => (zy c__law_counts (fun _ _ _ _ h => zx h) (hr.mono (by decide)) rfl (za (d_varJ (pv 1)) (za (d_varJ (pv 2)) zc)))) (N := ["_law_k", "_law_bag_here", "_law_most"]) (k := 1) (is := [0, 2]) (zcx (by rfl))) zc))))
theorem zdn : FnScope ["_law_found", "_law_due", "_law_row"] ["_law_found", "_law_due"] (defScope zcs) := ⟨rfl, rfl, rfl, by decide +kernel, rfl, by decide +kernel, by decide +kernel⟩
theorem zgn (T : TopF K "_law_are_rows" zcs) (XX : K.In h) (G : h.Ns mainGlobals mg) (z_tuple : mg "tuple" = none) (z_isinstance : mg "isinstance" = none) (z_bool : mg "bool" = none) (z_int : mg "int" = none) (z_any : mg "any" = none) : CalD P w K mg base "_law_are_rows" 1 ["_law_found", "_law_due"] zbq :=
 have nd:=zdn.nd
 zbb (k := 0) T XX G zdn (fun _ _ _ _ _ _ us hl => len2 us hl fun _ _ => rfl) fun f cdv A outer s H E hr => (zd (ds_ifJ (JW.pt (dw_orJ (zoe (zgt (zn zeb zgd rfl z_isinstance zco (za (d_varJ (pv 0)) (za (d_conJ (zlb (v := .ty "tuple") rfl z_tuple zcg rfl) (fun _ _ => .ty _)) zc))))) (zja (zce (op_neX hr.units) oEq_D (d_varJ (pv 0)) (d_varJ (pv 1)) (nomark _)) (by first | exact Or.inl rfl | exact Or.inr rfl)))) (zf (zbd d_blJ)) zdt)
 (zd (zba PassesOwn.never rfl (zbe (d_varJ (pv 0))) (ze (i:=2) nd rfl (Or.inl rfl))
 (zf (ds_ifJ (JW.pt (dw_orJ (zoe (zgt (zn zeb zgd rfl z_isinstance zco (za (d_varJ (pv 2)) (za (d_conJ (zlb (v := .ty "tuple") rfl z_tuple zcg rfl) (fun _ _ => .ty _)) zc))))) (zja (zgt (zn (zvb rfl) bAny_D rfl z_any bt_any (za (zdu rfl (zbe (d_varJ (pv 2))) (fun _ _ _ _ _ => (ze (i := 0) (show (["_law_x"] : List Str).Nodup from by decide +kernel) rfl (Or.inl rfl))) (fun _ _ _ _ _ => zcu) (fun _ _ _ _ _ => (d_orJ (d_notJ (zn zeb zgd rfl z_isinstance zco (za (d_varJ (pv 0)) (za (d_conJ (zlb (v := .ty "int") rfl z_int bt_int rfl) (fun _ _ => .ty _)) zc)))) (d_oneJ (zn zeb zgd rfl z_isinstance zco (za (d_varJ (pv 0)) (za (d_conJ (zlb (v := .ty "bool") rfl z_bool zym rfl) (fun _ _ => .ty _)) zc)))))) (N := ["_law_x"]) (k := 1) (is := []) (zcx (by rfl))) zc))) (by first | exact Or.inl rfl | exact Or.inr rfl)))) (zf (zbd d_blJ)) zdt)))
 (zf (zbd d_blJ))))
theorem zin : FnScope ["numbers", "place", "by"] ["numbers", "place", "by"] (defScope zhw) := ⟨rfl, rfl, rfl, by decide +kernel, rfl, by decide +kernel, by decide +kernel⟩
theorem znr (T : TopF K "changed" zhw) (XX : K.In h) (G : h.Ns mainGlobals mg)  : CalD P w K mg base "changed" 1 ["numbers", "place", "by"] zcq :=
 have nd:=zin.nd
 zbb (k:=0) T XX G zin (fun _ _ _ _ _ _ us hl=>len3 us hl fun _ _ _=>rfl) fun f cdv A outer s H E hr=>(zf (zbd (d_opJ zu oAdd_D (d_opJ zu oAdd_D (d_slJ (d_varJ (pv 0)) zoj (zoi (d_varJ (pv 1)))) (d_tupJ (za (d_opJ zu oAdd_D (d_ixJ (d_varJ (pv 0)) (d_varJ (pv 1)) (fun _ _=>rfl)) (d_varJ (pv 2))) zc))) (d_slJ (d_varJ (pv 0)) (zoi (d_opJ zu oAdd_D (d_varJ (pv 1)) d_intJ)) zoj))))
theorem zeg : FnScope ["partly", "i", "j", "slope", "told", "slopes", "columns", "left", "x"] ["partly", "i", "j"] (defScope zdb) := ⟨rfl, rfl, rfl, by decide +kernel, rfl, by decide +kernel, by decide +kernel⟩
theorem zhb (T : TopF K "place_filled" zdb) (XX : K.In h) (G : h.Ns mainGlobals mg) (z_min : mg "min" = none) (z_range : mg "range" = none) (c_changed : CalD P w K mg base "changed" 1 ["numbers", "place", "by"] zcq) : CalD P w K mg base "place_filled" 2 ["partly", "i", "j"] zbp :=
 have nd:=zeg.nd
 zbb (k:=1) T XX G zeg (fun _ _ _ _ _ _ us hl=>len3 us hl fun _ _ _=>rfl) fun f cdv A outer s H E hr=>(zd (zl (i:=3) nd rfl (Or.inl rfl) (d_opJ op_sub (oI_D0 fun _ _ _ _=>.int _) (d_opJ zu oAdd_D (d_varJ (pv 1)) (d_varJ (pv 2))) d_intJ))
 (zd (zl (i:=4) nd rfl (Or.inl rfl) (zfa zc))
 (zd (zba PassesOwn.never rfl (zbe (d_varJ (pv 0))) (zdh rfl (zm (ze (i:=5) nd rfl (Or.inl rfl)) (zm (ze (i:=6) nd rfl (Or.inl rfl)) (zm (ze (i:=7) nd rfl (Or.inl rfl)) zbx))))
 (zf (zba PassesOwn.never rfl (zcf rfl z_range (za (d_opJ zu oAdd_D (zn (zgc rfl) b2I_D rfl z_min bt_min (za (d_ixJ (d_varJ (pv 6)) (d_opJ op_sub (oI_D0 fun _ _ _ _=>.int _) (d_varJ (pv 2)) d_intJ) (fun _ _=>rfl)) (za (d_opJ op_shr (oI_D fun _ _ _ _=>.int _) (d_varJ (pv 7)) (d_varJ (pv 2))) zc))) d_intJ) zc)) (ze (i:=8) nd rfl (Or.inl rfl))
 (zf (ds_ifJ (zce (op_eqX hr.units) oEq_D (d_opJ op_and (oI_D0 fun _ _ _ _=>.int _) (d_ixJ (d_varJ (pv 5)) (d_varJ (pv 3)) (fun _ _=>rfl)) (d_varJ (pv 8))) d_intJ (nomark _)) (zf (zbt (zde (d_varJ (pv 4)) (za (d_tupJ (za (zy c_changed (fun _ _ _ _ h=>zx h) (hr.mono (by decide)) rfl (za (d_varJ (pv 5)) (za (d_varJ (pv 3)) (za (d_varJ (pv 8)) zc)))) (za (zy c_changed (fun _ _ _ _ h=>zx h) (hr.mono (by decide)) rfl (za (d_varJ (pv 6)) (za (d_opJ op_sub (oI_D0 fun _ _ _ _=>.int _) (d_varJ (pv 2)) d_intJ) (za (d_negJ (d_varJ (pv 8))) zc)))) (za (d_opJ op_sub (oI_D0 fun _ _ _ _=>.int _) (d_varJ (pv 7)) (d_opJ op_shl (oI_D fun _ _ _ _=>.int _) (d_varJ (pv 8)) (d_varJ (pv 2)))) zc)))) zc)))) zdt)))))
 (zf (zbd (d_fzJ (d_varJ (pv 4))))))))
theorem zes : FnScope ["partly", "i", "number", "width", "filled", "j", "told", "slopes", "columns", "left"] ["partly", "i", "number", "width"] (defScope zdo) := ⟨rfl, rfl, rfl, by decide +kernel, rfl, by decide +kernel, by decide +kernel⟩
theorem zhx (T : TopF K "line_filled" zdo) (XX : K.In h) (G : h.Ns mainGlobals mg) (z_range : mg "range" = none) (c_place_filled : CalD P w K mg base "place_filled" 2 ["partly", "i", "j"] zbp) (c_changed : CalD P w K mg base "changed" 1 ["numbers", "place", "by"] zcq) : CalD P w K mg base "line_filled" 3 ["partly", "i", "number", "width"] zbu :=
  have nd := zes.nd
  zbb (k := 2) T XX G zes (fun _ _ _ _ _ _ us hl => len4 us hl fun _ _ _ _ => rfl) fun f cdv A outer s H E hr => (zd (zof (i := 4) rfl nd rfl (Or.inl rfl) (zbe (d_varJ (pv 0))) (fun _ _ _ _ _ => (zdh rfl (zm (ze (i := 0) (show (["slopes", "columns", "number"] : List Str).Nodup from by decide +kernel) rfl (Or.inl rfl)) (zm (ze (i := 1) (show (["slopes", "columns", "number"] : List Str).Nodup from by decide +kernel) rfl (Or.inl rfl)) zbx)))) (fun _ _ _ _ _ => zcu) (fun _ _ _ _ _ => (d_tupJ (za (d_varJ (pv 0)) (za (d_varJ (pv 1)) (za (d_varJ (pv 2)) zc))))) (N := ["slopes", "columns", "number"]) (k := 2) (is := [2]) (zcx (by rfl)))
  (zd (zba PassesOwn.never rfl (zgv rfl z_range (za d_intJ (za (d_opJ zu oAdd_D (d_varJ (pv 3)) d_intJ) zc))) (ze (i := 5) nd rfl (Or.inl rfl))
  (zf (zl (i := 4) nd rfl (Or.inl rfl) (zy c_place_filled (fun _ _ _ _ h => zx h) (hr.mono (by decide)) rfl (za (d_varJ (pv 4)) (za (d_varJ (pv 1)) (za (d_varJ (pv 5)) zc)))))))
  (zd (zl (i := 6) nd rfl (Or.inl rfl) (zfa zc))
  (zd (zba PassesOwn.never rfl (zbe (d_varJ (pv 4))) (zdh rfl (zm (ze (i := 7) nd rfl (Or.inl rfl)) (zm (ze (i := 8) nd rfl (Or.inl rfl)) (zm (ze (i := 9) nd rfl (Or.inl rfl)) zbx))))
  (zf (ds_ifJ (zce (op_eqX hr.units) oEq_D (d_opJ op_and (oI_D0 fun _ _ _ _ => .int _) (d_ixJ (d_varJ (pv 7)) (d_opJ op_sub (oI_D0 fun _ _ _ _ => .int _) (d_varJ (pv 1)) d_intJ) (fun _ _ => rfl)) (d_varJ (pv 9))) d_intJ (nomark _)) (zf (zbt (zde (d_varJ (pv 6)) (za (d_tupJ (za (zy c_changed (fun _ _ _ _ h => zx h) (hr.mono (by decide)) rfl (za (d_varJ (pv 7)) (za (d_opJ op_sub (oI_D0 fun _ _ _ _ => .int _) (d_varJ (pv 1)) d_intJ) (za (d_varJ (pv 9)) zc)))) (za (d_varJ (pv 8)) zc))) zc)))) zdt)))
  (zf (zbd (d_fzJ (d_varJ (pv 6)))))))))
theorem zcv : FnScope ["numbers", "told"] ["numbers"] (defScope zbw) := ⟨rfl, rfl, rfl, by decide +kernel, rfl, by decide +kernel, by decide +kernel⟩
theorem zfl (T : TopF K "without_noughts" zbw) (XX : K.In h) (G : h.Ns mainGlobals mg) (z_list : mg "list" = none) (z_tuple : mg "tuple" = none) : CalD P w K mg base "without_noughts" 1 ["numbers"] zbc :=
 have nd:=zcv.nd
 zbb (k:=0) T XX G zcv (fun _ _ _ _ _ _ us hl=>len1 us hl fun _=>rfl) fun f cdv A outer s H E hr=>(zd (zl (i:=1) nd rfl (Or.inl rfl) (zbo zkm zve rfl z_list zyl (za (d_varJ (pv 0)) zc)))
 (zd (zgb PassesOwn.never (JW.pt (zod (zgt (d_varJ (pv 1))) (zja (zce (op_eqX hr.units) oEq_D (d_ixJ (d_varJ (pv 1)) (d_negJ d_intJ) (fun _ _=>rfl)) d_intJ (nomark _)) (by first | exact Or.inl rfl | exact Or.inr rfl)))) (zf (zbt (d_popJ (d_varJ (pv 1))))))
 (zf (zbd (zbo zw zdf rfl z_tuple zcg (za (d_varJ (pv 1)) zc))))))
theorem zfp : FnScope ["partly", "told", "slopes", "columns", "top"] ["partly"] (defScope zeo) := ⟨rfl, rfl, rfl, by decide +kernel, rfl, by decide +kernel, by decide +kernel⟩
theorem zir (T : TopF K "top_filled" zeo) (XX : K.In h) (G : h.Ns mainGlobals mg) (z_len : mg "len" = none) (z_zip : mg "zip" = none) (z_all : mg "all" = none) (z_tuple : mg "tuple" = none) : CalD P w K mg base "top_filled" 1 ["partly"] zch :=
 have nd:=zfp.nd
 zbb (k:=0) T XX G zfp (fun _ _ _ _ _ _ us hl=>len1 us hl fun _=>rfl) fun f cdv A outer s H E hr=>(zd (zl (i:=1) nd rfl (Or.inl rfl) (zfa zc))
 (zd (zba PassesOwn.never rfl (zbe (d_varJ (pv 0))) (zdh rfl (zm (ze (i:=2) nd rfl (Or.inl rfl)) (zm (ze (i:=3) nd rfl (Or.inl rfl)) zbx)))
 (zd (zl (i:=4) nd rfl (Or.inl rfl) (d_opJ zu oAdd_D (d_varJ (pv 3)) (d_opJ zlc zle (d_tupJ (za d_intJ zc)) (d_opJ op_sub (oI_D0 fun _ _ _ _=>.int _) (zn zp bLen_D rfl z_len bt_len (za (d_varJ (pv 2)) zc)) (zn zp bLen_D rfl z_len bt_len (za (d_varJ (pv 3)) zc))))))
 (zf (ds_ifJ (zgt (zn (zvc rfl) bAny_D rfl z_all bt_all (za (zdu rfl (zsf rfl z_zip (za (d_varJ (pv 2)) (za (d_varJ (pv 4)) zc))) (fun _ _ _ _ _ => (zdh rfl (zm (ze (i := 0) (show (["slope", "x"] : List Str).Nodup from by decide +kernel) rfl (Or.inl rfl)) (zm (ze (i := 1) (show (["slope", "x"] : List Str).Nodup from by decide +kernel) rfl (Or.inl rfl)) zbx)))) (fun _ _ _ _ _ => zcu) (fun _ _ _ _ _ => (d_cmpJ (op_eqX hr.units) oEq_D (d_opJ op_and (oI_D0 fun _ _ _ _ => .int _) (d_varJ (pv 0)) (d_varJ (pv 1))) d_intJ (nomark _))) (N := ["slope", "x"]) (k := 2) (is := []) (zcx (by rfl))) zc))) (zf (zbt (zde (d_varJ (pv 1)) (za (zbo zw zdf rfl z_tuple zcg (za (zdu rfl (zsf rfl z_zip (za (d_varJ (pv 2)) (za (d_varJ (pv 4)) zc))) (fun _ _ _ _ _ => (zdh rfl (zm (ze (i := 0) (show (["slope", "x"] : List Str).Nodup from by decide +kernel) rfl (Or.inl rfl)) (zm (ze (i := 1) (show (["slope", "x"] : List Str).Nodup from by decide +kernel) rfl (Or.inl rfl)) zbx)))) (fun _ _ _ _ _ => zcu) (fun _ _ _ _ _ => (d_opJ zu oAdd_D (d_varJ (pv 0)) (d_varJ (pv 1)))) (N := ["slope", "x"]) (k := 2) (is := []) (zcx (by rfl))) zc)) zc)))) zdt))))
 (zf (zbd (d_fzJ (d_varJ (pv 1)))))))
theorem zdg : FnScope ["r", "s", "partly", "i", "number"] ["r", "s"] (defScope zcd) := ⟨rfl, rfl, rfl, by decide +kernel, rfl, by decide +kernel, by decide +kernel⟩
theorem zfw (T : TopF K "made_by_tables" zcd) (XX : K.In h) (G : h.Ns mainGlobals mg) (z_len : mg "len" = none) (z_enumerate : mg "enumerate" = none) (c_line_filled : CalD P w K mg base "line_filled" 3 ["partly", "i", "number", "width"] zbu) (c_top_filled : CalD P w K mg base "top_filled" 1 ["partly"] zch) (c_without_noughts : CalD P w K mg base "without_noughts" 1 ["numbers"] zbc) : CalD P w K mg base "made_by_tables" 4 ["r", "s"] zbf :=
 have nd:=zdg.nd
 zbb (k:=3) T XX G zdg (fun _ _ _ _ _ _ us hl=>len2 us hl fun _ _=>rfl) fun f cdv A outer s H E hr=>(zd (zl (i:=2) nd rfl (Or.inl rfl) (d_lstJ (za (d_tupJ (za (d_opJ zlc zle (d_tupJ (za d_intJ zc)) (d_opJ zu oAdd_D (zn zp bLen_D rfl z_len bt_len (za (d_varJ (pv 0)) zc)) (zn zp bLen_D rfl z_len bt_len (za (d_varJ (pv 1)) zc)))) (za (d_varJ (pv 1)) zc))) zc)))
 (zd (zba PassesOwn.never rfl (zra rfl z_enumerate (d_varJ (pv 0))) (zdh rfl (zm (ze (i:=3) nd rfl (Or.inl rfl)) (zm (ze (i:=4) nd rfl (Or.inl rfl)) zbx)))
 (zf (zl (i:=2) nd rfl (Or.inl rfl) (zy c_line_filled (fun _ _ _ _ h=>zx h) (hr.mono (by decide)) rfl (za (d_varJ (pv 2)) (za (d_varJ (pv 3)) (za (d_varJ (pv 4)) (za (zn zp bLen_D rfl z_len bt_len (za (d_varJ (pv 1)) zc)) zc))))))))
 (zf (zbd (zdu rfl (zbe (zy c_top_filled (fun _ _ _ _ h => zx h) (hr.mono (by decide)) rfl (za (d_varJ (pv 2)) zc))) (fun _ _ _ _ _ => (ze (i := 0) (show (["numbers"] : List Str).Nodup from by decide +kernel) rfl (Or.inl rfl))) (fun _ _ _ _ _ => zcu) (fun _ _ _ _ _ => (zy c_without_noughts (fun _ _ _ _ h => zx h) (hr.mono (by decide)) rfl (za (d_varJ (pv 0)) zc))) (N := ["numbers"]) (k := 1) (is := []) (zcx (by rfl)))))))
theorem zrq : FnScope ["kept", "thing"] ["kept", "thing"] (defScope s_flip) := ⟨rfl, rfl, rfl, by decide +kernel, rfl, by decide +kernel, by decide +kernel⟩
theorem zwu (T : TopF K "flip" s_flip) (XX : K.In h) (G : h.Ns mainGlobals mg)  : CalD P w K mg base "flip" 1 ["kept", "thing"] F_flip :=
 have nd:=zrq.nd
 zbb (k:=0) T XX G zrq (fun _ _ _ _ _ _ us hl=>len2 us hl fun _ _=>rfl) fun f cdv A outer s H E hr=>(zf (ds_ifJ (dt_inJ (pc_inJ (hu_of hr) (d_varJ (pv 1)) (d_varJ (pv 0)))) (zf (zbt (zyd (hu_of hr) (d_varJ (pv 0)) (d_varJ (pv 1)) ⟨rfl,rfl,rfl,rfl⟩))) (zf (zog (hu_of hr) (d_varJ (pv 0)) (d_varJ (pv 1)) d_blJ rfl))))
theorem zgg : FnScope ["numbers", "told", "weight", "number"] ["numbers"] (defScope zfh) := ⟨rfl, rfl, rfl, by decide +kernel, rfl, by decide +kernel, by decide +kernel⟩
theorem zkb (T : TopF K "raises_by" zfh) (XX : K.In h) (G : h.Ns mainGlobals mg)  : CalD P w K mg base "raises_by" 1 ["numbers"] zcc :=
 have nd:=zgg.nd
 zbb (k:=0) T XX G zgg (fun _ _ _ _ _ _ us hl=>len1 us hl fun _=>rfl) fun f cdv A outer s H E hr=>(zd (zl (i:=1) nd rfl (Or.inl rfl) d_intJ)
 (zd (zl (i:=2) nd rfl (Or.inl rfl) d_intJ)
 (zd (zba PassesOwn.never rfl (zbe (d_varJ (pv 0))) (ze (i:=3) nd rfl (Or.inl rfl))
 (zd (zxs (i:=1) nd rfl (Or.inl rfl) (d_opJ op_mul (oI_D fun _ _ _ _=>.int _) (d_varJ (pv 2)) (d_varJ (pv 3))) ip_add ip_D)
 (zf (zl (i:=2) nd rfl (Or.inl rfl) (d_opJ zu oAdd_D (d_opJ op_mul (oI_D fun _ _ _ _=>.int _) d_intJ (d_varJ (pv 2))) d_intJ)))))
 (zf (zbd (d_varJ (pv 1)))))))
theorem znc : FnScope ["one", "other", "kept", "r", "s", "made"] ["one", "other"] (defScope znd) := ⟨rfl, rfl, rfl, by decide +kernel, rfl, by decide +kernel, by decide +kernel⟩
theorem zts (T : TopF K "times" znd) (XX : K.In h) (G : h.Ns mainGlobals mg) (z_sorted : mg "sorted" = none) (z_tuple : mg "tuple" = none) {k_MOST_RAISED : Tok} (m_MOST_RAISED : mg "MOST_RAISED" = some (.int 16 k_MOST_RAISED)) (c_raises_by : CalD P w K mg base "raises_by" 1 ["numbers"] zcc) (c_made_by_tables : CalD P w K mg base "made_by_tables" 4 ["r", "s"] zbf) (c_flip : CalD P w K mg base "flip" 1 ["kept", "thing"] F_flip) : CalD P w K mg base "times" 5 ["one", "other"] zjl :=
 have nd:=znc.nd
 zbb (k:=4) T XX G znc (fun _ _ _ _ _ _ us hl=>len2 us hl fun _ _=>rfl) fun f cdv A outer s H E hr=>(zd (zl (i:=2) nd rfl (Or.inl rfl) zsh)
 (zd (zba PassesOwn.never rfl (zbe (d_varJ (pv 0))) (ze (i:=3) nd rfl (Or.inl rfl))
 (zf (zba PassesOwn.never rfl (zbe (d_varJ (pv 1))) (ze (i:=4) nd rfl (Or.inl rfl))
 (zd (ds_ifJ (zce op_gt (oI_D0 fun _ _ _ _=>.bl _) (d_opJ zu oAdd_D (zy c_raises_by (fun _ _ _ _ h=>zx h) (hr.mono (by decide)) rfl (za (d_varJ (pv 3)) zc)) (zy c_raises_by (fun _ _ _ _ h=>zx h) (hr.mono (by decide)) rfl (za (d_varJ (pv 4)) zc))) (d_conJ (zwh (v:=.int 16) rfl m_MOST_RAISED ⟨_,rfl⟩) (fun _ _=>.int _)) (nomark _)) (zf zqx) zdt)
 (zf (zba PassesOwn.never rfl (zbe (zy c_made_by_tables (fun _ _ _ _ h=>zx h) (hr.mono (by decide)) rfl (za (d_varJ (pv 3)) (za (d_varJ (pv 4)) zc)))) (ze (i:=5) nd rfl (Or.inl rfl))
 (zf (zbt (zy c_flip (fun _ _ _ _ h=>zx h) (hr.mono (by decide)) rfl (za (d_varJ (pv 2)) (za (d_varJ (pv 5)) zc)))))))))))
 (zf (zbd (zbo zw zdf rfl z_tuple zcg (za (zn (zgy rfl hr.units) zma rfl z_sorted zlv (za (d_varJ (pv 2)) zc)) zc))))))
theorem zgi : FnScope ["_law_table", "_law_counts_here", "_law_t", "_law_numbers", "_law_both", "_law_x"] ["_law_table"] (defScope zfj) := ⟨rfl, rfl, rfl, by decide +kernel, rfl, by decide +kernel, by decide +kernel⟩
theorem zkd (T : TopF K "_law_made" zfj) (XX : K.In h) (G : h.Ns mainGlobals mg) (z_range : mg "range" = none) (z_sum : mg "sum" = none) (z_len : mg "len" = none) (z_tuple : mg "tuple" = none) : CalD P w K mg base "_law_made" 1 ["_law_table"] zdx :=
  have nd := zgi.nd
  zbb (k := 0) T XX G zgi (fun _ _ _ _ _ _ us hl => len1 us hl fun _ => rfl) fun f cdv A outer s H E hr => (zd (zl (i := 1) nd rfl (Or.inl rfl) (zfa zc))
  (zd (zba PassesOwn.never rfl (zgv rfl z_range (za d_intJ (za d_intJ zc))) (ze (i := 2) nd rfl (Or.inr rfl))
  (zd (zof (i := 3) rfl nd rfl (Or.inl rfl) (zcf rfl z_range (za d_intJ zc)) (fun _ _ _ _ _ => (ze (i := 0) (show (["_law_i", "_law_table", "_law_t"] : List Str).Nodup from by decide +kernel) rfl (Or.inl rfl))) (fun _ _ _ _ _ => (zkj (zqw op_le (op_ltA hr.units0) (oI_D0 fun _ _ _ _ => .bl _) oLtT_D d_intJ (d_opJ op_sub (oI_D0 fun _ _ _ _ => .int _) (d_varJ (pv 2)) (d_varJ (pv 0))) d_intJ))) (fun _ _ _ _ _ => (d_ixJ (d_ixJ (d_varJ (pv 1)) (d_varJ (pv 0)) (fun _ _ => rfl)) (d_opJ op_sub (oI_D0 fun _ _ _ _ => .int _) (d_varJ (pv 2)) (d_varJ (pv 0))) (fun _ _ => rfl))) (N := ["_law_i", "_law_table", "_law_t"]) (k := 1) (is := [0, 2]) (zcx (by rfl)))
  (zd (zl (i := 4) nd rfl (Or.inl rfl) d_intJ)
  (zd (zba PassesOwn.never rfl (zbe (d_varJ (pv 3))) (ze (i := 5) nd rfl (Or.inl rfl))
  (zd (ds_ifJ (zce op_gt (oI_D0 fun _ _ _ _ => .bl _) (d_opJ op_and (oI_D0 fun _ _ _ _ => .int _) (d_varJ (pv 4)) (d_varJ (pv 5))) d_intJ (nomark _)) (zf (zbd d_nonJ)) zdt)
  (zf (zl (i := 4) nd rfl (Or.inl rfl) (d_opJ op_or (oI_D0 fun _ _ _ _ => .int _) (d_varJ (pv 4)) (d_varJ (pv 5)))))))
  (zf (zbt (zde (d_varJ (pv 1)) (za (zn (zrl rfl) bSum_D rfl z_sum bt_sum (za (d_varJ (pv 3)) zc)) zc))))))))
  (zd (zgb PassesOwn.never (JW.pt (zod (zce op_gt (oI_D0 fun _ _ _ _ => .bl _) (zn zp bLen_D rfl z_len bt_len (za (d_varJ (pv 1)) zc)) d_intJ (nomark _)) (zja (zce (op_eqX hr.units) oEq_D (d_ixJ (d_varJ (pv 1)) (d_negJ d_intJ) (fun _ _ => rfl)) d_intJ (nomark _)) (by first | exact Or.inl rfl | exact Or.inr rfl)))) (zf (zbt (d_popJ (d_varJ (pv 1))))))
  (zf (zbd (zbo zw zdf rfl z_tuple zcg (za (d_varJ (pv 1)) zc)))))))
theorem zfr : FnScope ["_law_number", "_law_left", "_law_ways", "_law_j", "_law_further", "_law_rest", "_law_line", "_law_x"] ["_law_number", "_law_left"] (defScope zeq) := ⟨rfl, rfl, rfl, by decide +kernel, rfl, by decide +kernel, by decide +kernel⟩
theorem zit (T : TopF K "_law_lines" zeq) (XX : K.In h) (G : h.Ns mainGlobals mg) (z_range : mg "range" = none) (z_min : mg "min" = none) : CalD P w K mg base "_law_lines" 1 ["_law_number", "_law_left"] zcz :=
 have nd:=zfr.nd
 zbb (k:=0) T XX G zfr (fun _ _ _ _ _ _ us hl=>len2 us hl fun _ _=>rfl) fun f cdv A outer s H E hr=>(zd (zl (i:=2) nd rfl (Or.inl rfl) (d_lstJ (za (d_tupJ (za (d_varJ (pv 0)) (za (d_tupJ zc) zc))) zc)))
 (zd (zba PassesOwn.never rfl (zgv rfl z_range (za d_intJ (za d_intJ zc))) (ze (i:=3) nd rfl (Or.inl rfl))
 (zd (zl (i:=4) nd rfl (Or.inl rfl) (zfa zc))
 (zd (zba PassesOwn.never rfl (zbe (d_varJ (pv 2))) (zdh rfl (zm (ze (i:=5) nd rfl (Or.inl rfl)) (zm (ze (i:=6) nd rfl (Or.inl rfl)) zbx)))
 (zf (zba PassesOwn.never rfl (zcf rfl z_range (za (d_opJ zu oAdd_D (zn (zgc rfl) b2I_D rfl z_min bt_min (za (d_ixJ (d_varJ (pv 1)) (d_opJ op_sub (oI_D0 fun _ _ _ _=>.int _) (d_varJ (pv 3)) d_intJ) (fun _ _=>rfl)) (za (d_opJ op_shr (oI_D fun _ _ _ _=>.int _) (d_varJ (pv 5)) (d_varJ (pv 3))) zc))) d_intJ) zc)) (ze (i:=7) nd rfl (Or.inl rfl))
 (zf (zbt (zde (d_varJ (pv 4)) (za (d_tupJ (za (d_opJ op_sub (oI_D0 fun _ _ _ _=>.int _) (d_varJ (pv 5)) (d_opJ op_shl (oI_D fun _ _ _ _=>.int _) (d_varJ (pv 7)) (d_varJ (pv 3)))) (za (d_opJ zu oAdd_D (d_varJ (pv 6)) (d_tupJ (za (d_varJ (pv 7)) zc))) zc))) zc)))))))
 (zf (zl (i:=2) nd rfl (Or.inl rfl) (d_fzJ (d_varJ (pv 4))))))))
 (zf (zbd (zdu rfl (zbe (d_varJ (pv 2))) (fun _ _ _ _ _ => (zdh rfl (zm (ze (i := 0) (show (["_law_rest", "_law_line"] : List Str).Nodup from by decide +kernel) rfl (Or.inl rfl)) (zm (ze (i := 1) (show (["_law_rest", "_law_line"] : List Str).Nodup from by decide +kernel) rfl (Or.inl rfl)) zbx)))) (fun _ _ _ _ _ => zcu) (fun _ _ _ _ _ => (d_opJ zu oAdd_D (d_tupJ (za (d_varJ (pv 0)) zc)) (d_varJ (pv 1)))) (N := ["_law_rest", "_law_line"]) (k := 2) (is := []) (zcx (by rfl)))))))
theorem zet : FnScope ["_law_r", "_law_s", "_law_ways", "_law_number", "_law_further", "_law_drawn", "_law_left", "_law_line", "_law_over"] ["_law_r", "_law_s"] (defScope zdp) := ⟨rfl, rfl, rfl, by decide +kernel, rfl, by decide +kernel, by decide +kernel⟩
theorem zhy (T : TopF K "_law_tables" zdp) (XX : K.In h) (G : h.Ns mainGlobals mg) (z_tuple : mg "tuple" = none) (z_len : mg "len" = none) (z_range : mg "range" = none) (c__law_lines : CalD P w K mg base "_law_lines" 1 ["_law_number", "_law_left"] zcz) : CalD P w K mg base "_law_tables" 2 ["_law_r", "_law_s"] zck :=
  have nd := zet.nd
  zbb (k := 1) T XX G zet (fun _ _ _ _ _ _ us hl => len2 us hl fun _ _ => rfl) fun f cdv A outer s H E hr => (zd (zl (i := 2) nd rfl (Or.inl rfl) (d_lstJ (za (d_tupJ (za (d_tupJ zc) (za (d_opJ zu oAdd_D (zbo zw zdf rfl z_tuple zcg (za (d_varJ (pv 1)) zc)) (d_opJ zlc zle (d_tupJ (za d_intJ zc)) (d_opJ op_sub (oI_D0 fun _ _ _ _ => .int _) d_intJ (zn zp bLen_D rfl z_len bt_len (za (d_varJ (pv 1)) zc))))) zc))) zc)))
  (zd (zba PassesOwn.never rfl (zbe (d_opJ zu oAdd_D (zbo zw zdf rfl z_tuple zcg (za (d_varJ (pv 0)) zc)) (d_opJ zlc zle (d_tupJ (za d_intJ zc)) (d_opJ op_sub (oI_D0 fun _ _ _ _ => .int _) d_intJ (zn zp bLen_D rfl z_len bt_len (za (d_varJ (pv 0)) zc)))))) (ze (i := 3) nd rfl (Or.inl rfl))
  (zd (zl (i := 4) nd rfl (Or.inl rfl) (zfa zc))
  (zd (zba PassesOwn.never rfl (zbe (d_varJ (pv 2))) (zdh rfl (zm (ze (i := 5) nd rfl (Or.inl rfl)) (zm (ze (i := 6) nd rfl (Or.inr rfl)) zbx)))
  (zf (zba PassesOwn.never rfl (zbe (zy c__law_lines (fun _ _ _ _ h => zx h) (hr.mono (by decide)) rfl (za (d_varJ (pv 3)) (za (d_varJ (pv 6)) zc)))) (ze (i := 7) nd rfl (Or.inr rfl))
  (zd (zl (i := 8) nd rfl (Or.inl rfl) (zbo zw zdf rfl z_tuple zcg (za (zdu rfl (zcf rfl z_range (za d_intJ zc)) (fun _ _ _ _ _ => (ze (i := 0) (show (["_law_j", "_law_left", "_law_line"] : List Str).Nodup from by decide +kernel) rfl (Or.inl rfl))) (fun _ _ _ _ _ => zcu) (fun _ _ _ _ _ => (d_opJ op_sub (oI_D0 fun _ _ _ _ => .int _) (d_ixJ (d_varJ (pv 1)) (d_varJ (pv 0)) (fun _ _ => rfl)) (d_ixJ (d_varJ (pv 2)) (d_opJ zu oAdd_D (d_varJ (pv 0)) d_intJ) (fun _ _ => rfl)))) (N := ["_law_j", "_law_left", "_law_line"]) (k := 1) (is := [6, 7]) (zcx (by rfl))) zc)))
  (zf (zbt (zde (d_varJ (pv 4)) (za (d_tupJ (za (d_opJ zu oAdd_D (d_varJ (pv 5)) (d_tupJ (za (d_varJ (pv 7)) zc))) (za (d_varJ (pv 8)) zc))) zc))))))))
  (zf (zl (i := 2) nd rfl (Or.inl rfl) (d_fzJ (d_varJ (pv 4))))))))
  (zf (zbd (zdu rfl (zbe (d_varJ (pv 2))) (fun _ _ _ _ _ => (zdh rfl (zm (ze (i := 0) (show (["_law_drawn", "_law_left"] : List Str).Nodup from by decide +kernel) rfl (Or.inl rfl)) (zm (ze (i := 1) (show (["_law_drawn", "_law_left"] : List Str).Nodup from by decide +kernel) rfl (Or.inl rfl)) zbx)))) (fun _ _ _ _ _ => zcu) (fun _ _ _ _ _ => (d_opJ zu oAdd_D (d_tupJ (za (d_opJ zu oAdd_D (d_tupJ (za d_intJ zc)) (d_varJ (pv 1))) zc)) (d_varJ (pv 0)))) (N := ["_law_drawn", "_law_left"]) (k := 2) (is := []) (zcx (by rfl)))))))
theorem zfq : FnScope ["_law_one", "_law_other", "_law_found", "_law_r", "_law_s"] ["_law_one", "_law_other"] (defScope zep) := ⟨rfl, rfl, rfl, by decide +kernel, rfl, by decide +kernel, by decide +kernel⟩
theorem zis (T : TopF K "_law_times" zep) (XX : K.In h) (G : h.Ns mainGlobals mg) (c__law_tables : CalD P w K mg base "_law_tables" 2 ["_law_r", "_law_s"] zck) (c__law_made : CalD P w K mg base "_law_made" 1 ["_law_table"] zdx) (c__law_odd : CalD P w K mg base "_law_odd" 1 ["_law_things"] zbv) : CalD P w K mg base "_law_times" 3 ["_law_one", "_law_other"] zcj :=
 have nd:=zfq.nd
 zbb (k:=2) T XX G zfq (fun _ _ _ _ _ _ us hl=>len2 us hl fun _ _=>rfl) fun f cdv A outer s H E hr=>(zd (zl (i:=2) nd rfl (Or.inl rfl) (zfa zc))
 (zd (zba PassesOwn.never rfl (zbe (d_varJ (pv 0))) (ze (i:=3) nd rfl (Or.inl rfl))
 (zf (zba PassesOwn.never rfl (zbe (d_varJ (pv 1))) (ze (i:=4) nd rfl (Or.inl rfl))
 (zf (zbt (zrf (d_varJ (pv 2)) (za (zdu rfl (zbe (zdu rfl (zbe (zy c__law_tables (fun _ _ _ _ h => zx h) (hr.mono (by decide)) rfl (za (d_varJ (pv 3)) (za (d_varJ (pv 4)) zc)))) (fun _ _ _ _ _ => (ze (i := 0) (show (["_law_table"] : List Str).Nodup from by decide +kernel) rfl (Or.inl rfl))) (fun _ _ _ _ _ => zcu) (fun _ _ _ _ _ => (zy c__law_made (fun _ _ _ _ h => zx h) (hr.mono (by decide)) rfl (za (d_varJ (pv 0)) zc))) (N := ["_law_table"]) (k := 1) (is := []) (zcx (by rfl)))) (fun _ _ _ _ _ => (ze (i := 0) (show (["_law_counts_here"] : List Str).Nodup from by decide +kernel) rfl (Or.inl rfl))) (fun _ _ _ _ _ => (zkj (zce zwr zwx (d_varJ (pv 0)) d_nonJ (nomark _)))) (fun _ _ _ _ _ => (d_varJ (pv 0))) (N := ["_law_counts_here"]) (k := 1) (is := []) (zcx (by rfl))) zc)))))))
 (zf (zbd (zy c__law_odd (fun _ _ _ _ h=>zx h) (hr.mono (by decide)) rfl (za (d_fzJ (d_varJ (pv 2))) zc))))))
theorem sc_law : FnScope ["_law_script", "_law_k", "_law_bag_here", "_law_most", "_law_many", "_law_one", "_law_other", "_law_first", "_law_second"] ["_law_script"] (defScope s_law) := ⟨rfl, rfl, rfl, by decide +kernel, rfl, by decide +kernel, by decide +kernel⟩
theorem ok_law {f : Addr} {fd : FuncData} (F : Fun K "law" "law" s_law f fd) (z_len : mg "len" = none) (z_min : mg "min" = none) (z_range : mg "range" = none) (z_int : mg "int" = none) (c__law_bag : CalD P w K mg base "_law_bag" 1 ["_law_script", "_law_at"] zed) (c__law_take : CalD P w K mg base "_law_take" 1 ["_law_bag_here", "_law_many"] zbg) (c__law_some_counts : CalD P w K mg base "_law_some_counts" 3 ["_law_bag_here", "_law_many", "_law_most"] zq) (c__law_are_rows : CalD P w K mg base "_law_are_rows" 1 ["_law_found", "_law_due"] zbq) (c__law_times : CalD P w K mg base "_law_times" 3 ["_law_one", "_law_other"] zcj) (c_times : CalD P w K mg base "times" 5 ["one", "other"] zjl) : FnOk P w K mg base CX0 6 f fd ["_law_script"] (spLaw K) :=
 have nd:=sc_law.nd
 zxg (k:=5) F sc_law rfl (fun cdv A outer s H E hr=>(zd (zba PassesOwn.never rfl (zcf rfl z_range (za (d_opJ zu oAdd_D (zn (zgc rfl) b2I_D rfl z_min bt_min (za (zn zp bLen_D rfl z_len bt_len (za (d_varJ (pv 0)) zc)) (za d_intJ zc))) d_intJ) zc)) (ze (i:=1) nd rfl (Or.inl rfl))
 (zd (zl (i:=2) nd rfl (Or.inl rfl) (zy c__law_bag (fun _ _ _ _ h=>zx h) (hr.mono (by decide)) rfl (za (d_varJ (pv 0)) (za (d_varJ (pv 1)) zc))))
 (zd (zl (i:=3) nd rfl (Or.inl rfl) (zy c__law_take (fun _ _ _ _ h=>zx h) (hr.mono (by decide)) rfl (za (d_varJ (pv 2)) (za d_intJ zc))))
 (zd (zl (i:=4) nd rfl (Or.inl rfl) (d_ixJ (d_lstJ (za d_intJ (za d_intJ (za d_intJ (za d_intJ zc))))) (zy c__law_take (fun _ _ _ _ h=>zx h) (hr.mono (by decide)) rfl (za (d_varJ (pv 2)) (za d_intJ zc))) (fun _ _=>rfl)))
 (zd (zl (i:=5) nd rfl (Or.inl rfl) (zy c__law_some_counts (fun _ _ _ _ h=>zx h) (hr.mono (by decide)) rfl (za (d_varJ (pv 2)) (za (d_varJ (pv 4)) (za (d_varJ (pv 3)) zc)))))
 (zd (zl (i:=6) nd rfl (Or.inl rfl) (zy c__law_some_counts (fun _ _ _ _ h=>zx h) (hr.mono (by decide)) rfl (za (d_varJ (pv 2)) (za (d_ixJ (d_lstJ (za d_intJ (za d_intJ zc))) (zbo zrm bInt_D rfl z_int bt_int (za (d_cmpJ (op_eqX hr.units) oEq_D (d_varJ (pv 4)) d_intJ (nomark _)) zc)) (fun _ _=>rfl)) (za (d_opJ op_sub (oI_D0 fun _ _ _ _=>.int _) d_intJ (d_varJ (pv 3))) zc)))))
 (zf (zba PassesOwn.never rfl (zbe (d_lstJ (za (d_tupJ (za (d_varJ (pv 5)) (za (d_varJ (pv 6)) zc))) (za (d_tupJ (za (d_varJ (pv 6)) (za (d_varJ (pv 5)) zc))) (za (d_tupJ (za (d_varJ (pv 5)) (za (d_varJ (pv 6)) zc))) zc))))) (zdh rfl (zm (ze (i:=7) nd rfl (Or.inl rfl)) (zm (ze (i:=8) nd rfl (Or.inl rfl)) zbx)))
 (zf (ds_ifJ (zoe (zgt (zy c__law_are_rows (fun _ _ _ _ h=>zx h) (hr.mono (by decide)) rfl (za (zy c_times (fun _ _ _ _ h=>zx h) (hr.mono (by decide)) rfl (za (d_varJ (pv 7)) (za (d_varJ (pv 8)) zc))) (za (zy c__law_times (fun _ _ _ _ h=>zx h) (hr.mono (by decide)) rfl (za (d_varJ (pv 7)) (za (d_varJ (pv 8)) zc))) zc))))) (zf (zbd d_blJ)) zdt))))))))))
 (zf (zbd d_blJ)))) K40.holds
end
theorem all_mk {l : PySem.W.OpenLaw} {w : World} {K : PySem.W.Frag} {h : Heap} {mg : Str → Option Value} {fa : Addr} {u0 : Tok} (X : K.In h) (G : h.Ns mainGlobals mg) (hfa : mg "law" = some (.ref fa))
  (t1 : TopF K "_law_bag" zgk) (t2 : TopF K "_law_take" zfi) (t3 : TopF K "_law_odd" zgj) (t4 : TopF K "_law_counts" zdq) (t5 : TopF K "_law_some_counts" zbr) (t6 : TopF K "_law_are_rows" zcs) (t7 : TopF K "changed" zhw) (t8 : TopF K "place_filled" zdb) (t9 : TopF K "line_filled" zdo) (t10 : TopF K "without_noughts" zbw) (t11 : TopF K "top_filled" zeo) (t12 : TopF K "made_by_tables" zcd) (t13 : TopF K "flip" s_flip) (t14 : TopF K "raises_by" zfh) (t15 : TopF K "times" znd) (t16 : TopF K "_law_made" zfj) (t17 : TopF K "_law_lines" zeq) (t18 : TopF K "_law_tables" zdp) (t19 : TopF K "_law_times" zep) (t20 : TopF K "law" s_law) (z0 : PySem.W.nsIn K mainGlobals "len" = some none) (z1 : PySem.W.nsIn K mainGlobals "abs" = some none) (z2 : PySem.W.nsIn K mainGlobals "min" = some none) (z3 : PySem.W.nsIn K mainGlobals "range" = some none) (z4 : PySem.W.nsIn K mainGlobals "sorted" = some none) (z5 : PySem.W.nsIn K mainGlobals "tuple" = some none) (z6 : PySem.W.nsIn K mainGlobals "isinstance" = some none) (z7 : PySem.W.nsIn K mainGlobals "bool" = some none) (z8 : PySem.W.nsIn K mainGlobals "int" = some none) (z9 : PySem.W.nsIn K mainGlobals "any" = some none) (z10 : PySem.W.nsIn K mainGlobals "list" = some none) (z11 : PySem.W.nsIn K mainGlobals "zip" = some none) (z12 : PySem.W.nsIn K mainGlobals "all" = some none) (z13 : PySem.W.nsIn K mainGlobals "enumerate" = some none) (z14 : PySem.W.nsIn K mainGlobals "sum" = some none) (y0 : PySem.W.nsIn K mainGlobals "MOST_RAISED" = some (some (.int 16 u0)))  :
  ∃ fd : FuncData, (∀ (s : Shared) (v : Value), BindsTo s fd ⟨[v], []⟩ [("_law_script", v)]) ∧ ∀ base : Heap, K.In base → base.Ns mainGlobals mg → FnOk l.prog w K mg base CX0 6 fa fd ["_law_script"] (spLaw K) := by
 have x0:=PySem.W.mg_none_of X G z0
 have x1:=PySem.W.mg_none_of X G z1
 have x2:=PySem.W.mg_none_of X G z2
 have x3:=PySem.W.mg_none_of X G z3
 have x4:=PySem.W.mg_none_of X G z4
 have x5:=PySem.W.mg_none_of X G z5
 have x6:=PySem.W.mg_none_of X G z6
 have x7:=PySem.W.mg_none_of X G z7
 have x8:=PySem.W.mg_none_of X G z8
 have x9:=PySem.W.mg_none_of X G z9
 have x10:=PySem.W.mg_none_of X G z10
 have x11:=PySem.W.mg_none_of X G z11
 have x12:=PySem.W.mg_none_of X G z12
 have x13:=PySem.W.mg_none_of X G z13
 have x14:=PySem.W.mg_none_of X G z14
 have v0:=PySem.W.mg_of X G y0
 obtain ⟨f,fd,a,F⟩:=t20
 have e:=hfa.symm.trans (PySem.W.mg_of X G a)
 cases e
 obtain ⟨oc,od,kV,doc,pm,an,cdv,ct,osl,rfl,lk,hcd⟩:=id F.ex
 refine ⟨PySem.W.fnOf "law" "law" (defArgs s_law) (defBody s_law) (defScope s_law) .none kV doc pm an cdv ct, fun s v => .of_eq rfl, fun base _ _ => ?_⟩
 have k__law_bag : CalD l.prog w K mg base "_law_bag" 1 ["_law_script", "_law_at"] zed := zmk t1 X G x0 x1 x2 x3
 have k__law_take : CalD l.prog w K mg base "_law_take" 1 ["_law_bag_here", "_law_many"] zbg := zkc t2 X G 
 have k__law_odd : CalD l.prog w K mg base "_law_odd" 1 ["_law_things"] zbv := zmj t3 X G x4 x5
 have k__law_counts : CalD l.prog w K mg base "_law_counts" 2 ["_law_bag_here", "_law_most"] zcl := zhz t4 X G x3 x0 x5 k__law_take
 have k__law_some_counts : CalD l.prog w K mg base "_law_some_counts" 3 ["_law_bag_here", "_law_many", "_law_most"] zq := zev t5 X G x3 k__law_odd k__law_take k__law_counts
 have k__law_are_rows : CalD l.prog w K mg base "_law_are_rows" 1 ["_law_found", "_law_due"] zbq := zgn t6 X G x5 x6 x7 x8 x9
 have k_changed : CalD l.prog w K mg base "changed" 1 ["numbers", "place", "by"] zcq := znr t7 X G 
 have k_place_filled : CalD l.prog w K mg base "place_filled" 2 ["partly", "i", "j"] zbp := zhb t8 X G x2 x3 k_changed
 have k_line_filled : CalD l.prog w K mg base "line_filled" 3 ["partly", "i", "number", "width"] zbu := zhx t9 X G x3 k_place_filled k_changed
 have k_without_noughts : CalD l.prog w K mg base "without_noughts" 1 ["numbers"] zbc := zfl t10 X G x10 x5
 have k_top_filled : CalD l.prog w K mg base "top_filled" 1 ["partly"] zch := zir t11 X G x0 x11 x12 x5
 have k_made_by_tables : CalD l.prog w K mg base "made_by_tables" 4 ["r", "s"] zbf := zfw t12 X G x0 x13 k_line_filled k_top_filled k_without_noughts
 have k_flip : CalD l.prog w K mg base "flip" 1 ["kept", "thing"] F_flip := zwu t13 X G 
 have k_raises_by : CalD l.prog w K mg base "raises_by" 1 ["numbers"] zcc := zkb t14 X G 
 have k_times : CalD l.prog w K mg base "times" 5 ["one", "other"] zjl := zts t15 X G x4 x5 v0 k_raises_by k_made_by_tables k_flip
 have k__law_made : CalD l.prog w K mg base "_law_made" 1 ["_law_table"] zdx := zkd t16 X G x3 x14 x0 x5
 have k__law_lines : CalD l.prog w K mg base "_law_lines" 1 ["_law_number", "_law_left"] zcz := zit t17 X G x3 x2
 have k__law_tables : CalD l.prog w K mg base "_law_tables" 2 ["_law_r", "_law_s"] zck := zhy t18 X G x5 x0 x3 k__law_lines
 have k__law_times : CalD l.prog w K mg base "_law_times" 3 ["_law_one", "_law_other"] zcj := zis t19 X G k__law_tables k__law_made k__law_odd
 exact ok_law F x0 x2 x3 x8 k__law_bag k__law_take k__law_some_counts k__law_are_rows k__law_times k_times
end K40
open PySem PySem.W PyProof.Rows
set_option maxRecDepth 100000 in
set_option maxHeartbeats 0 in
theorem PySem.Challenge.cw_raisedsums_k40_counts_multiplied_holds : PySem.Challenge.rw_raisedsums_k40_counts_multiplied.Holds := by
  w_on; o_law; k_head; (case hw => w_witness2)
  k_fill
  refine L2.zvi (l := PySem.Challenge.rw_raisedsums_k40_counts_multiplied) (n := 63) (k := 6) (x := "_law_script") (CX := fun _ => L2.CX0) (sp := fun w => Dd.spLaw _) rfl (by decide) rfl ⟨rfl, by decide, by decide⟩ (fun w h Y => PySem.W.kIn_of Y) ?F (fun _ _ a ns hl _ hS => ⟨a, ns, rfl, hS, hl, fun _ => rfl⟩) (fun _ _ _ _ _ z => z)
  case F =>
    intro w mg fa h KX G hmg
    refine' K40.all_mk KX G hmg ?t1 ?t2 ?t3 ?t4 ?t5 ?t6 ?t7 ?t8 ?t9 ?t10 ?t11 ?t12 ?t13 ?t14 ?t15 ?t16 ?t17 ?t18 ?t19 ?t20 ?z0 ?z1 ?z2 ?z3 ?z4 ?z5 ?z6 ?z7 ?z8 ?z9 ?z10 ?z11 ?z12 ?z13 ?z14 ?y0 
    (case t1 => refine' L2.top_mk ?a ?l ?c ?k; (case a => k_is); (case l => k_is); (case c => k_is); (case k => k_is))
    (case t2 => refine' L2.top_mk ?a ?l ?c ?k; (case a => k_is); (case l => k_is); (case c => k_is); (case k => k_is))
    (case t3 => refine' L2.top_mk ?a ?l ?c ?k; (case a => k_is); (case l => k_is); (case c => k_is); (case k => k_is))
    (case t4 => refine' L2.top_mk ?a ?l ?c ?k; (case a => k_is); (case l => k_is); (case c => k_is); (case k => k_is))
    (case t5 => refine' L2.top_mk ?a ?l ?c ?k; (case a => k_is); (case l => k_is); (case c => k_is); (case k => k_is))
    (case t6 => refine' L2.top_mk ?a ?l ?c ?k; (case a => k_is); (case l => k_is); (case c => k_is); (case k => k_is))
    (case t7 => refine' L2.top_mk ?a ?l ?c ?k; (case a => k_is); (case l => k_is); (case c => k_is); (case k => k_is))
    (case t8 => refine' L2.top_mk ?a ?l ?c ?k; (case a => k_is); (case l => k_is); (case c => k_is); (case k => k_is))
    (case t9 => refine' L2.top_mk ?a ?l ?c ?k; (case a => k_is); (case l => k_is); (case c => k_is); (case k => k_is))
    (case t10 => refine' L2.top_mk ?a ?l ?c ?k; (case a => k_is); (case l => k_is); (case c => k_is); (case k => k_is))
    (case t11 => refine' L2.top_mk ?a ?l ?c ?k; (case a => k_is); (case l => k_is); (case c => k_is); (case k => k_is))
    (case t12 => refine' L2.top_mk ?a ?l ?c ?k; (case a => k_is); (case l => k_is); (case c => k_is); (case k => k_is))
    (case t13 => refine' L2.top_mk ?a ?l ?c ?k; (case a => k_is); (case l => k_is); (case c => k_is); (case k => k_is))
    (case t14 => refine' L2.top_mk ?a ?l ?c ?k; (case a => k_is); (case l => k_is); (case c => k_is); (case k => k_is))
    (case t15 => refine' L2.top_mk ?a ?l ?c ?k; (case a => k_is); (case l => k_is); (case c => k_is); (case k => k_is))
    (case t16 => refine' L2.top_mk ?a ?l ?c ?k; (case a => k_is); (case l => k_is); (case c => k_is); (case k => k_is))
    (case t17 => refine' L2.top_mk ?a ?l ?c ?k; (case a => k_is); (case l => k_is); (case c => k_is); (case k => k_is))
    (case t18 => refine' L2.top_mk ?a ?l ?c ?k; (case a => k_is); (case l => k_is); (case c => k_is); (case k => k_is))
    (case t19 => refine' L2.top_mk ?a ?l ?c ?k; (case a => k_is); (case l => k_is); (case c => k_is); (case k => k_is))
    (case t20 => refine' L2.top_mk ?a ?l ?c ?k; (case a => k_is); (case l => k_is); (case c => k_is); (case k => k_is))
    (case z0 => k_is)
    (case z1 => k_is)
    (case z2 => k_is)
    (case z3 => k_is)
    (case z4 => k_is)
    (case z5 => k_is)
    (case z6 => k_is)
    (case z7 => k_is)
    (case z8 => k_is)
    (case z9 => k_is)
    (case z10 => k_is)
    (case z11 => k_is)
    (case z12 => k_is)
    (case z13 => k_is)
    (case z14 => k_is)
    (case y0 => k_is)
#print axioms PySem.Challenge.cw_raisedsums_k40_counts_multiplied_holds
