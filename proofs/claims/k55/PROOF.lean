import PyProof.Rows.All
import Wide.All
import OpenK.AllK
import Wide.FinOn
import PyProof.EqAt
import PyProof.EqKinds
import PyProof.TupleCall
import PySem.Challenge.RW_raisedsums_k55_rows_met_evenly
set_option Elab.async false
set_option linter.all false
set_option maxRecDepth 100000
namespace PySem.W.Fast
theorem tw11526745034849494804:True:=⟨⟩
theorem tw15736302086739579525:True:=⟨⟩
theorem tw17089171877111238522:True:=⟨⟩
theorem tw7676849108961900052:True:=⟨⟩
theorem tw6681994326774661557:True:=⟨⟩
theorem tw18245185252132987913:True:=⟨⟩
theorem tw11501667510736446578:True:=⟨⟩
theorem tw1343843367604193629:True:=⟨⟩
theorem tw8786951276592173762:True:=⟨⟩
theorem tw3170540930278176320:True:=⟨⟩
theorem tw3335767901911219932:True:=⟨⟩
theorem tw8354189396470741516:True:=⟨⟩
theorem tw1140898998747345536:True:=⟨⟩
theorem tw3070788963228853977:True:=⟨⟩
theorem tw13771436749267017431:True:=⟨⟩
theorem tw11272304569406023843:True:=⟨⟩
theorem tw7067773046352737425:True:=⟨⟩
theorem tw17438789203523016228:True:=⟨⟩
theorem tw13780003035379741335:True:=⟨⟩
theorem tw13854852835048557374:True:=⟨⟩
theorem tw2481724782537080511:True:=⟨⟩
theorem tw7184329052961504133:True:=⟨⟩
theorem tw13762728950184710554:True:=⟨⟩
theorem tw14678652350524363350:True:=⟨⟩
theorem tw2838303784741907549:True:=⟨⟩
theorem tw3171047609974977514:True:=⟨⟩
theorem tw3710672987497198066:True:=⟨⟩
theorem tw6481044186441284347:True:=⟨⟩
theorem tw16891246872721847931:True:=⟨⟩
theorem tw12907904726232906369:True:=⟨⟩
theorem tw1306539382969002848:True:=⟨⟩
theorem tw164070581786432474:True:=⟨⟩
theorem tw16240887428141812355:True:=⟨⟩
theorem tw10251032986369128975:True:=⟨⟩
theorem tw10668599289670915059:True:=⟨⟩
theorem tw4984456611171822695:True:=⟨⟩
theorem tw9179249021039368543:True:=⟨⟩
theorem tw11686720224322301908:True:=⟨⟩
theorem tw17362264534080270769:True:=⟨⟩
theorem tw5301886766667517760:True:=⟨⟩
theorem tw3201858996086570947:True:=⟨⟩
theorem tw5109677259598351691:True:=⟨⟩
theorem tw12414825367125483241:True:=⟨⟩
theorem tw10362312239378956489:True:=⟨⟩
theorem tw13323186748513265763:True:=⟨⟩
theorem tw5319273146542478878:True:=⟨⟩
theorem tw13342063948830663697:True:=⟨⟩
theorem tw2985768705704784662:True:=⟨⟩
theorem tw10949086486040302713:True:=⟨⟩
theorem tw8028483903352063607:True:=⟨⟩
theorem tw17137649123808521198:True:=⟨⟩
theorem tw2853507322640059312:True:=⟨⟩
theorem tw11162901417208584092:True:=⟨⟩
theorem tw7134360137283261340:True:=⟨⟩
theorem tw11309061525063911573:True:=⟨⟩
theorem tw5173936521271695789:True:=⟨⟩
theorem tw6638733222276442584:True:=⟨⟩
theorem tw12422554273216142114:True:=⟨⟩
theorem tw14792831262326486222:True:=⟨⟩
theorem tw13583513296889968030:True:=⟨⟩
theorem tw9003298099960532570:True:=⟨⟩
theorem tw15092025035122292885:True:=⟨⟩
end PySem.W.Fast
set_option genSizeOfSpec false
set_option genInjectivity false
namespace L2
open PySem PySem.Spec PyProof.Rows
noncomputable abbrev Key:=Sum Int Str
noncomputable def keyIs:Key→Value→Bool
 | .inl k,v=>Value.isInt k v
 | .inr x,v=>Value.isStrOf x v
noncomputable def keyH (w:World):Key→Int
 | .inl k=>hashInt k
 | .inr x=>hashStr w x
theorem zbg:∀{k:Key} {v:Value},keyIs k v=true→(∃i t,k=Sum.inl i∧v=Value.int i t)∨(∃x t,k=Sum.inr x∧v=Value.str x t)
 | .inl i,v,h=>by
  obtain ⟨t,e⟩:=Value.isInt_shape (k:=i) (v:=v) h
  exact .inl ⟨i,t,rfl,e⟩
 | .inr x,v,h=>by
  obtain ⟨t,e⟩:=Value.isStrOf_shape (x:=x) (v:=v) h
  exact .inr ⟨x,t,rfl,e⟩
theorem zve (i:Int) (t:Tok):keyIs (.inl i) (.int i t)=true:=by simp[keyIs,Value.isInt]
theorem zvd (x:Str) (t:Tok):keyIs (.inr x) (.str x t)=true:=by simp[keyIs,Value.isStrOf]
theorem key_ll (a b:Int):decide ((Sum.inl a:Key)=Sum.inl b)=(a == b):=by
 by_cases e:a=b
 ·subst e;simp
 ·have h:¬ (Sum.inl a:Key)=Sum.inl b:=fun q=>e (Sum.inl.inj q)
  rw[decide_eq_false h]
  exact (beq_eq_false_iff_ne.mpr e).symm
theorem key_rr (a b:Str):decide ((Sum.inr a:Key)=Sum.inr b)=decide (a=b):=by
 by_cases e:a=b
 ·subst e;simp
 ·have h:¬ (Sum.inr a:Key)=Sum.inr b:=fun q=>e (Sum.inr.inj q)
  rw[decide_eq_false h,decide_eq_false e]
theorem key_lr (a:Int) (b:Str):decide ((Sum.inl a:Key)=Sum.inr b)=false:=decide_eq_false (fun q=>nomatch q)
theorem key_rl (a:Str) (b:Int):decide ((Sum.inr a:Key)=Sum.inl b)=false:=decide_eq_false (fun q=>nomatch q)
noncomputable def mixKind (prog:Program) (w:World):PySem.KeyKind prog w Key where
 is:=keyIs
 hash:=keyH w
 inj:=fun v a b ha hb=>by
  rcases zbg ha with ⟨i,t,rfl,rfl⟩ | ⟨x,t,rfl,rfl⟩
  ·rcases zbg hb with ⟨j,u,rfl,e⟩ | ⟨y,u,rfl,e⟩
   ·injection e with e1 _;rw[e1]
   ·exact nomatch e
  ·rcases zbg hb with ⟨j,u,rfl,e⟩ | ⟨y,u,rfl,e⟩
   ·exact nomatch e
   ·injection e with e1 _;rw[e1]
 byValue:=fun k v h=>by
  rcases zbg h with ⟨i,t,rfl,rfl⟩ | ⟨x,t,rfl,rfl⟩<;>rfl
 pyHash:=fun hv h=>by
  rcases zbg hv with ⟨i,t,rfl,rfl⟩ | ⟨x,t,rfl,rfl⟩
  ·exact wpAny_pyHash_int h
  ·exact wpAny_pyHash_str h
 eqBool:=fun hu hv h=>by
  rcases zbg hu with ⟨i,t,rfl,rfl⟩ | ⟨x,t,rfl,rfl⟩
  ·rcases zbg hv with ⟨j,u,rfl,rfl⟩ | ⟨y,u,rfl,rfl⟩
   ·rw[key_ll] at h;exact wpAny_eqBool_int h
   ·rw[key_lr] at h;exact SeqAt.EqAt.int_str i t y u _ _ _ _ h
  ·rcases zbg hv with ⟨j,u,rfl,rfl⟩ | ⟨y,u,rfl,rfl⟩
   ·rw[key_rl] at h;exact SeqAt.EqAt.str_int x t j u _ _ _ _ h
   ·rw[key_rr] at h;exact wpAny_eqBool_str h
 «strs»:=fun k x t v h=>by
  rcases zbg h with ⟨i,u,rfl,e⟩ | ⟨y,u,rfl,e⟩
  ·exact nomatch e
  ·injection e with e1 _
   subst e1
   cases v<;>rfl
theorem zpu (prog:Program) (w:World) (i:Int) (t:Tok):(mixKind prog w).is (.inl i) (.int i t)=true:=zve i t
theorem zpt (prog:Program) (w:World) (x:Str) (t:Tok):(mixKind prog w).is (.inr x) (.str x t)=true:=zvd x t
end L2
namespace L2
open PySem PySem.Spec PyProof.Rows
set_option genInjectivity true in
inductive V where
 | non | bl (b:Bool) | int (i:Int) | str (x:Str) | byt (b:Array UInt8) | flt (b:UInt64) | ref (a:Addr) | ty (n:String)
 deriving DecidableEq
noncomputable def RelV:V→Value→Prop
 | .non,u=>u=Value.none
 | .bl b,u=>u=Value.bool b
 | .int i,u=>∃t,u=Value.int i t
 | .str x,u=>∃t,u=Value.str x t
 | .byt b,u=>∃t,u=Value.bytes b t
 | .flt b,u=>∃t,u=Value.float b t
 | .ref a,u=>u=Value.ref a
 | .ty n,u=>u=Value.type n
noncomputable abbrev Vals:List V→List Value→Prop:=Paired RelV
theorem Vals.length {xs:List V} {us:List Value} (r:Vals xs us):xs.length=us.length:=Paired.length r
theorem Vals.get:∀{xs:List V} {us:List Value} {i:Nat} {x:V},Vals xs us→xs[i]?=some x→∃u,us[i]?=some u∧RelV x u
 | _,_,_,_,.nil,e=>by simp at e
 | _,_,0,_,.cons r _,e=>by simp at e;subst e;exact ⟨_,rfl,r⟩
 | _,_,i+1,x,.cons _ t,e=>by
  obtain ⟨u,h1,h2⟩:=Vals.get (i:=i) (x:=x) t (by simpa using e)
  exact ⟨u,by simpa using h1,h2⟩
theorem Vals.set {x:V} {u:Value} (r:RelV x u):∀{xs:List V} {us:List Value} (i:Nat),Vals xs us→Vals (xs.set i x) (us.set i u)
 | _,_,_,.nil=>.nil
 | _,_,0,.cons _ t=>.cons r t
 | _,_,i+1,.cons q t=>.cons q (Vals.set r i t)
theorem Vals.append:∀{xs ys:List V} {us ws:List Value},Vals xs us→Vals ys ws→Vals (xs++ys) (us++ws)
 | _,_,_,_,.nil,s=>s
 | _,_,_,_,.cons r t,s=>.cons r (Vals.append t s)
theorem Vals.take:∀{xs:List V} {us:List Value} (n:Nat),Vals xs us→Vals (xs.take n) (us.take n)
 | _,_,0,_=>.nil
 | _,_,_+1,.nil=>.nil
 | _,_,n+1,.cons r t=>.cons r (Vals.take n t)
theorem Vals.drop:∀{xs:List V} {us:List Value} (n:Nat),Vals xs us→Vals (xs.drop n) (us.drop n)
 | _,_,0,r=>r
 | _,_,_+1,.nil=>.nil
 | _,_,n+1,.cons _ t=>Vals.drop n t
noncomputable def RelO:Option V→Option Value→Prop
 | some v,some u=>RelV v u
 | none,none=>True
 | _,_=>False
noncomputable def KV {κ:Type}:List (κ × V)→List (κ × Value)→Prop:=Paired fun (p:κ × V) (q:κ × Value)=>p.1=q.1∧RelV p.2 q.2
noncomputable def kV:Key→V
 | .inl i=>.int i
 | .inr x=>.str x
set_option genInjectivity true in
inductive HO where
 /-- a list -/
 | lst (xs:List V)
 /-- a tuple (never changes) -/
 | tup (xs:List V)
 /-- a dict whose keys are ints and texts;one whose keys are tuples of ints and texts (the empty one is both) -/
 | dK (kvs:List (Key × V)) | dT (kvs:List (List Key × V))
 /-- a set of ints: its members,its size -/
 | set (S:Int→Bool) (n:Nat)
 /-- an instance of the class at C,its dict at dx,its attributes -/
 | ins (C dx:Addr) (fs:List (Str × V))
 /-- the dict of the instance at x -/
 | own (x:Addr)
 /-- the dict of an exception -/
 | xd (fs:List (Str × V))
 /-- a bound method,f of x -/
 | met (f x:Addr)
 /-- a range object lo,lo+1,.. below hi -/
 | rng (lo hi:Int)
 /-- a thing that is known to the object (the script;a dict while a loop walks it): read,never written while it is so -/
 | frz (o:Obj) (u:HO)
 /-- a code object's table -/
 | tbl (ps:Array Value)
 /-- any other thing,by what is true of its one object (a def of one's own: SetO a S n:=HO.ext fun h=>..) -/
 | ext (φ:Heap→Prop)
noncomputable abbrev Hp:=Addr→Option HO
noncomputable def upd (H:Hp) (a:Addr) (o:HO):Hp:=fun b=>if b=a then some o else H b
theorem zw {H:Hp} {a:Addr} {o:HO}:upd H a o a=some o:=by unfold upd;rw[if_pos rfl]
theorem upd_ne {H:Hp} {a b:Addr} {o:HO} (h:b≠a):upd H a o b=H b:=by unfold upd;rw[if_neg h]
theorem ne_of {H:Hp} {a b:Addr} {o u:HO} (h:H a=some o) (h':H b=some u) (d:o≠u):a≠b:=by
 intro e;subst e;rw[h] at h';exact d (Option.some.inj h')
theorem zo {H:Hp} {a b:Addr} {o:HO} (h:H a=some o) (h':H b=none):a≠b:=by
 intro e;subst e;rw[h] at h';cases h'
section
variable (P:Program) (w:World)
noncomputable def ObjOk (H:Hp) (h:Heap) (a:Addr):HO→Prop
 | .lst xs => xs.length ≤ sizeLine ∧ ∃ (its : List Value) (n : Nat), Vals xs its ∧ h.get? a = some { cls := .type "list", data := .seq its.toArray n }
 | .tup xs=>xs.length≤sizeLine∧∃its:List Value,Vals xs its∧IsTup h a its.toArray
 | .dK kvs=>kvs.length≤sizeLine∧(a == sysModules)=false∧∃vs,KV kvs vs∧h.DictOf (mixKind P w) a vs
 | .dT kvs=>kvs.length≤sizeLine∧(a == sysModules)=false∧∃xs:List (List Key × Addr × Value),
  Paired (fun (p:List Key × V) (q:List Key × Addr × Value)=>p.1=q.1∧H q.2.1=some (.tup (p.1.map kV))∧RelV p.2 q.2.2) kvs xs ∧
  ∃o es ep,h.get? a=some o∧o.ExactDict∧o.data=.dict es ep∧es.toList=xs.map (entryOfKey (tupleKind (mixKind P w)))∧(xs.map (·.1)).Nodup
 | .set S n=>h.SetOf (intKind P w) a S n
 | .ins C dx fs=>H dx=some (.own a)∧fs.length≤1000∧dx≠a∧h.get? a=some (PySem.W.instObj C dx) ∧
  ∃mA,h.Ns1 dx mA∧(∀f,RelO (fs.lookup f) (mA f))∧PySem.Within mA (fs.map (·.1))
 | .own _=>∃o,h.get? a=some o
 | .xd fs=>∃mA,h.Ns1 a mA∧∀f,RelO (fs.lookup f) (mA f)
 | .rng lo hi => ∃ t u v, h.get? a = some { cls := .type "range", data := .fields #[.int lo t, .int hi u, .int 1 v] }
 | .frz o u=>h.get? a=some o∧ObjOk H h a u
 | .tbl ps=>h.get? a=some {cls:=.none,data:=.fields ps}
 | .met f x=>h.get? a=some (PySem.W.methodObj (.ref f) (.ref x))
 | .ext φ=>φ h∧(∃o,h.get? a=some o)∧∀h1 h2:Heap,φ h1→(∀o,h1.get? a=some o→h2.get? a=some o)→φ h2
noncomputable def HOk (H:Hp) (h:Heap):Prop:=∀a o,H a=some o→ObjOk P w H h a o
end
section
variable {P:Program} {w:World} {H H':Hp} {h h':Heap} {a:Addr} {o:HO}
theorem ObjOk.lt (x:ObjOk P w H h a o):a < h.objs.size:=by
 cases o with
 | lst xs=>obtain ⟨_,_,_,_,e⟩:=x;exact Heap.lt_size e
 | tup xs=>obtain ⟨_,_,_,p⟩:=x;exact p.lt
 | dK kvs=>obtain ⟨_,_,_,_,o,_,_,e,_⟩:=x;exact Heap.lt_size e
 | dT kvs=>obtain ⟨_,_,_,_,o,_,_,e,_⟩:=x;exact Heap.lt_size e
 | set S n=>obtain ⟨o,_,_,_,e,_⟩:=x;exact Heap.lt_size e
 | ins C dx fs=>obtain ⟨_,_,_,e,_⟩:=x;exact Heap.lt_size e
 | own y=>obtain ⟨_,e⟩:=x;exact Heap.lt_size e
 | xd fs=>obtain ⟨_,⟨_,_,_,e,_⟩,_⟩:=x;exact Heap.lt_size e
 | rng lo hi=>obtain ⟨_,_,_,e⟩:=x;exact Heap.lt_size e
 | frz ob u=>obtain ⟨e,_⟩:=x;exact Heap.lt_size e
 | tbl ps=>exact Heap.lt_size (show h.get? a=some _ from x)
 | met f y=>exact Heap.lt_size (show h.get? a=some _ from x)
 | ext φ=>obtain ⟨_,⟨_,e⟩,_⟩:=x;exact Heap.lt_size e
theorem Paired.mapP {α β:Type} {F G:α→β→Prop}:∀{l₁:List α} {l₂:List β},Paired F l₁ l₂→(∀a b,F a b→G a b)→Paired G l₁ l₂
 | _,_,.nil,_=>.nil
 | _,_,.cons r t,f=>.cons (f _ _ r) (Paired.mapP t f)
theorem ObjOk.stay (x:ObjOk P w H h a o) (k:∀b u,(b=a∨H b=some (.own a))→h.get? b=some u→h'.get? b=some u)
  (ho:∀b,H b=some (.own a)→H' b=some (.own a)) (ht:∀b xs,H b=some (.tup xs)→H' b=some (.tup xs)):ObjOk P w H' h' a o:=by
 induction o with
 | lst xs=>obtain ⟨z,its,n,r,e⟩:=x;exact ⟨z,its,n,r,k _ _ (.inl rfl) e⟩
 | tup xs=>obtain ⟨z,its,r,ob,e,c⟩:=x;exact ⟨z,its,r,ob,k _ _ (.inl rfl) e,c⟩
 | dK kvs=>obtain ⟨z,y,vs,r,ob,es,ep,e,c⟩:=x;exact ⟨z,y,vs,r,ob,es,ep,k _ _ (.inl rfl) e,c⟩
 | dT kvs =>
  obtain ⟨z,y,xs,r,ob,es,ep,e,c⟩:=x
  exact ⟨z,y,xs,Paired.mapP r fun p q z=>⟨z.1,ht _ _ z.2.1,z.2.2⟩,ob,es,ep,k _ _ (.inl rfl) e,c⟩
 | set S n=>obtain ⟨ob,es,ep,t,e,c⟩:=x;exact ⟨ob,es,ep,t,k _ _ (.inl rfl) e,c⟩
 | ins C dx fs =>
  obtain ⟨d,z,ne,e,mA,⟨od,es,ep,e2,c⟩,r⟩:=x
  exact ⟨ho _ d,z,ne,k _ _ (.inl rfl) e,mA,⟨od,es,ep,k _ _ (.inr d) e2,c⟩,r⟩
 | own y=>obtain ⟨ob,e⟩:=x;exact ⟨ob,k _ _ (.inl rfl) e⟩
 | xd fs=>obtain ⟨mA,⟨od,es,ep,e,c⟩,r⟩:=x;exact ⟨mA,⟨od,es,ep,k _ _ (.inl rfl) e,c⟩,r⟩
 | rng lo hi=>obtain ⟨t,u,v,e⟩:=x;exact ⟨t,u,v,k _ _ (.inl rfl) e⟩
 | frz ob u ih=>obtain ⟨e,q⟩:=x;exact ⟨k _ _ (.inl rfl) e,ih q⟩
 | tbl ps =>
  have e:h.get? a=some {cls:=.none,data:=.fields ps}:=x
  show h'.get? a=some {cls:=.none,data:=.fields ps}
  exact k a _ (.inl rfl) e
 | met f y =>
  have e:h.get? a=some (PySem.W.methodObj (.ref f) (.ref y)):=x
  show h'.get? a=some (PySem.W.methodObj (.ref f) (.ref y))
  exact k a _ (.inl rfl) e
 | ext φ=>obtain ⟨p,⟨o,e⟩,st⟩:=x;exact ⟨st _ _ p fun o q=>k _ _ (.inl rfl) q,⟨o,k _ _ (.inl rfl) e⟩,st⟩
theorem HOk.lt (x:HOk P w H h) (e:H a=some o):a < h.objs.size:=(x a o e).lt
theorem HOk.fresh (x:HOk P w H h) (e:h.objs.size≤a):H a=none:=by
 cases q:H a with
 | none=>rfl
 | some u=>exact absurd (Nat.lt_of_lt_of_le (x.lt q) e) (Nat.lt_irrefl _)
theorem HOk.kept (x:HOk P w H h) (k:∀b u,h.get? b=some u→h'.get? b=some u):HOk P w H h':=fun a o e =>
 (x a o e).stay (fun b u _ q=>k b u q) (fun _ q=>q) fun _ _ q=>q
theorem HOk.laid (x:HOk P w H h) (k:∀b u,h.get? b=some u→h'.get? b=some u) (hp:h.objs.size≤a) (new:ObjOk P w (upd H a o) h' a o):HOk P w (upd H a o) h':=fun b u e=>by
 have hn:=x.fresh hp
 by_cases hb:b=a
 ·subst hb;rw[zw] at e;cases e;exact new
 ·rw[upd_ne hb] at e
  exact (x b u e).stay (fun c v _ q=>k c v q) (fun c q=>by rw[upd_ne (zo q hn)];exact q) fun c xs q=>by rw[upd_ne (zo q hn)];exact q
end
noncomputable def Rd (H:Hp) (a:Addr) (u:HO):Prop:=H a=some u∨∃o,H a=some (.frz o u)
theorem Rd.ok {P:Program} {w:World} {H:Hp} {h:Heap} {a:Addr} {u:HO} (r:Rd H a u) (x:HOk P w H h):ObjOk P w H h a u:=by
 rcases r with r | ⟨o,r⟩
 ·exact x a u r
 ·obtain ⟨_,q⟩:=x a _ r
  exact q
noncomputable def Mut:Option HO→Prop
 | some (.lst _)=>True
 | some (.dK _)=>True
 | some (.dT _)=>True
 | some (.set _ _)=>True
 | some (.ins _ _ _)=>True
 | some (.ext _)=>True
 | _=>False
section
variable {P:Program} {w:World} {H:Hp} {h h':Heap} {x e:Addr} {o':HO}
theorem HOk.write (ok:HOk P w H h) (mu:Mut (H x)) (he:e=x∨H e=some (.own x)) (k:∀b u,b≠e→h.get? b=some u→h'.get? b=some u) (heo:∃u,h'.get? e=some u)
  (new:ObjOk P w (upd H x o') h' x o'):HOk P w (upd H x o') h':=fun b u q=>by
 have nown:∀c y,H c=some (.own y)→c≠x:=fun c y r z=>by subst z;rw[r] at mu;exact mu
 have ntup:∀c xs,H c=some (.tup xs)→c≠x:=fun c xs r z=>by subst z;rw[r] at mu;exact mu
 by_cases hb:b=x
 ·subst hb;rw[zw] at q;cases q;exact new
 ·rw[upd_ne hb] at q
  by_cases hbe:b=e
  ·have q':H b=some (.own x):=by
    rcases he with z | z
    ·exact absurd (hbe.trans z) hb
    ·rw[hbe];exact z
   rw[q] at q';cases q'
   obtain ⟨v,hv⟩:=heo
   exact ⟨v,by rw[hbe];exact hv⟩
  ·refine (ok b u q).stay (fun c v hc r=>k c v ?_ r) (fun c r=>by rw[upd_ne (nown c b r)];exact r) fun c xs r=>by rw[upd_ne (ntup c xs r)];exact r
   rcases hc with rfl | hc
   ·exact hbe
   ·rintro rfl
    rcases he with z | z
    ·exact nown c b hc z
    ·rw[hc] at z;cases z;exact hb rfl
end
structure Un (fs ex:List Addr) (H H':Hp) (h h':Heap):Prop where
 keep:∀b o,h.get? b=some o→H b=none→b∉fs→b∉ex→h'.get? b=some o
 slot:∀b o,h.get? b=some o→H b=none→b∈fs→b∉ex→∃sl,h'.get? b=some {o with slots:=sl}
 free:∀b o,h.get? b=some o→H b=none→b∉ex→H' b=none
 there:∀b o,h.get? b=some o→b∉ex→∃o',h'.get? b=some o'
 tups:∀b xs,H b=some (.tup xs)→H' b=some (.tup xs)
 frzs:∀b o u,H b=some (.frz o u)→H' b=some (.frz o u)
 tbls:∀b ps,H b=some (.tbl ps)→∃more,H' b=some (.tbl (ps++more))
section
variable {fs fs' ex ex':List Addr} {H H1 H2:Hp} {h h1 h2 h':Heap} {a x e:Addr} {o:HO}
theorem Un.any (u:Un fs ex H H1 h h1) {b:Addr} {ob:Obj} (q:h.get? b=some ob) (n:H b=none) (hx:b∉ex):∃sl,h1.get? b=some {ob with slots:=sl}:=by
 by_cases hb:b∈fs
 ·exact u.slot b ob q n hb hx
 ·exact ⟨ob.slots,u.keep b ob q n hb hx⟩
theorem Un.kept (k:∀b u,h.get? b=some u→h'.get? b=some u):Un fs ex H H h h' :=
 ⟨fun b ob q _ _ _=>k b ob q,fun b ob q _ _ _=>⟨ob.slots,k b ob q⟩,fun _ _ _ n _=>n,fun b ob q _=>⟨ob,k b ob q⟩,fun _ _ q=>q,fun _ _ _ q=>q,fun _ ps q=>⟨#[],by rw[q];simp⟩⟩
theorem Un.refl:Un fs ex H H h h:=Un.kept fun _ _ q=>q
theorem Un.laid (k:∀b u,h.get? b=some u→h'.get? b=some u) (hp:h.objs.size≤a) (hn:H a=none):Un fs ex H (upd H a o) h h' where
 keep:=fun b u q _ _ _=>k b u q
 slot:=fun b u q _ _ _=>⟨u.slots,k b u q⟩
 free:=fun b u q n _=>by rw[upd_ne (Nat.ne_of_lt (Nat.lt_of_lt_of_le (Heap.lt_size q) hp))];exact n
 there:=fun b u q _=>⟨u,k b u q⟩
 tups:=fun b xs q=>by rw[upd_ne (zo q hn)];exact q
 frzs:=fun b u xs q=>by rw[upd_ne (zo q hn)];exact q
 tbls:=fun b ps q=>⟨#[],by rw[upd_ne (zo q hn),q];simp⟩
theorem Un.write (mu:Mut (H x)) (he:e=x∨H e=some (.own x)) (k:∀b u,b≠e→h.get? b=some u→h'.get? b=some u) (heo:∃u,h'.get? e=some u):Un fs ex H (upd H x o) h h':=by
 have hx:∀b,H b=none→b≠x:=fun b n z=>by subst z;rw[n] at mu;exact mu
 have hb:∀b,H b=none→b≠e:=fun b n z=>by
  subst z
  rcases he with r | r
  ·exact hx b n r
  ·rw[n] at r;cases r
 have hm:∀b u,H b=some u→¬ Mut (some u)→b≠x:=fun b u q nm z=>by subst z;rw[q] at mu;exact nm mu
 refine ⟨fun b u q n _ _=>k b u (hb b n) q,fun b u q n _ _=>⟨u.slots,k b u (hb b n) q⟩,fun b u q n _=>by rw[upd_ne (hx b n)];exact n,fun b u q _=>?_,
  fun b xs q=>by rw[upd_ne (hm b _ q fun z=>z)];exact q,fun b u xs q=>by rw[upd_ne (hm b _ q fun z=>z)];exact q,fun b ps q=>⟨#[],by rw[upd_ne (hm b _ q fun z=>z),q];simp⟩⟩
 by_cases hbe:b=e
 ·subst hbe;exact heo
 ·exact ⟨u,k b u hbe q⟩
end
noncomputable def trk (h:Heap) (H:Hp):List Addr:=(List.range h.objs.size).filter fun a=>(H a).isSome
noncomputable def hidT (h:Heap) (H:Hp):Heap:=PySem.W.hideAll h (trk h H)
theorem zvj (h:Heap) (H:Hp):(hidT h H).objs.size=h.objs.size:=PySem.W.hideAll_size _ _
theorem zzo {h:Heap} {H:Hp} {b:Addr} {o:Obj} (e:h.get? b=some o) (n:H b=none):(hidT h H).get? b=some o :=
 PySem.W.hideAll_get _ e fun hm=>by
  have q:(H b).isSome=true:=(List.mem_filter.mp hm).2
  rw[n] at q;simp at q
theorem zbcb {h:Heap} {H:Hp} {b:Addr} {o:Obj} (e:(hidT h H).get? b=some o):h.get? b=some o∧H b=none:=by
 have e':h.get? b=some o:=PySem.W.of_hideAll (trk h H) e
 refine ⟨e',?_⟩
 cases q:H b with
 | none=>rfl
 | some x =>
  have hm:b∈trk h H:=List.mem_filter.mpr ⟨List.mem_range.mpr (Heap.lt_size e'),by simp[q]⟩
  have z:(hidT h H).get? b=none:=PySem.W.hideAll_none (trk h H) hm
  rw[z] at e;cases e
end L2
namespace L2
open PySem PySem.Spec PyProof.Rows
structure Mod (K:PySem.W.Frag) (mg:Str→Option Value) (base:Heap):Prop where
 kin:K.In base
 glob:base.Ns mainGlobals mg
 blt : ∃ mb, base.Ns builtinsNs mb ∧ ∀ x : Str, x ≠ "__name__" → mb x = bootBuiltins x
 nolimit:base.NoLimit
structure Cx where
 prog:Program
 w:World
 K:PySem.W.Frag
 mg:Str→Option Value
 base:Heap
 A:Around
 N:List Str
 s₀:Shared
 H₀:Hp
 env:Env
 outer:List Env
 stack:List Env
 ex:List Addr
 fn:Str→Bool
 calm:Bool
 pn:List (Addr × Obj)
 xe:Value→Shared→Prop
noncomputable def frs (l:List Env):List Addr:=l.filterMap (·.frame)
noncomputable abbrev Cx.fs (X:Cx):List Addr:=frs X.outer
noncomputable def Vis (sc:Scope) (x:Str):Prop:=sc.names.lookup x=some .local∨sc.names.lookup x=some .cell∨sc.names.lookup x=some .free
noncomputable def Loc (sc:Scope) (x:Str):Prop:=sc.names.lookup x=some .local∨sc.names.lookup x=some .cell
noncomputable def Look (env:Env) (h:Heap) (m:Str→Option Value) (x:Str) (u:Value):Prop :=
 (env.kindOf x=some .local∧m x=some u)∨((env.kindOf x=some .cell∨env.kindOf x=some .free)∧∃c,env.cells.lookup x=some c∧h.IsCell c (some u))
structure Cx.Ok (X:Cx):Prop where
 mod:Mod X.K X.mg X.base
 kind:X.env.scope.kind=.function
 glob:X.env.globals=mainGlobals
 blt:X.env.builtins=builtinsNs
 above:X.s₀.heap.objs.size≤X.env.locals
 inj:∀x y c,X.env.cells.lookup x=some c→X.env.cells.lookup y=some c→x=y
 has:∀x,(X.env.kindOf x=some .cell∨X.env.kindOf x=some .free)→∃c,X.env.cells.lookup x=some c
 cab:∀x c,X.fn x=true→X.env.cells.lookup x=some c→X.s₀.heap.objs.size≤c
 hd:X.calm=true→X.A.handled=none
 frames:X.A.frames=some X.stack
 stk:X.stack=X.outer∨(X.stack=X.env::X.outer∧X.env.frame=some X.env.locals)
 exf:∀b∈X.ex,b≠X.env.locals∧∀x c,X.env.cells.lookup x=some c→c≠b
 bs:∀b o,X.base.get? b=some o→X.s₀.heap.get? b=some o∧X.H₀ b=none
 bsz:X.base.objs.size≤X.s₀.heap.objs.size
 noex:∀b o,X.base.get? b=some o→b∉X.ex
 exfs:∀b∈X.ex,b∉X.fs
 funs:X.s₀.heap.FunFrames X.base X.outer
 frf:∀b∈X.fs,X.H₀ b=none
structure Inv (X:Cx) (pins:List (Addr × Obj)) (σ:List (Option V)) (H:Hp) (s:Shared):Prop where
 ok:X.Ok
 os:s.os=X.s₀.os
 bare:AllBare s.gens
 base:Un X.fs X.ex X.H₀ H X.s₀.heap s.heap
 loc:∃m,s.heap.Ns X.env.locals m∧∀(i:Nat) (x:Str) (v:V),X.N[i]?=some x→σ[i]?=some (some v)→Vis X.env.scope x→∃u,RelV v u∧Look X.env s.heap m x u
 cell:∀x c,X.env.cells.lookup x=some c→∃v,s.heap.IsCell c v
 free:H X.env.locals=none
 freeC:∀x c,X.env.cells.lookup x=some c→H c=none
 pin:∀p∈X.pn++pins,s.heap.get? p.1=some p.2∧H p.1=none∧p.1≠X.env.locals∧p.1∉X.fs∧∀v,p.2.data≠.cell v
 hok:HOk X.prog X.w H s.heap
 len:σ.length=X.N.length
section
variable {X:Cx} {pins:List (Addr × Obj)} {σ:List (Option V)} {H H':Hp} {s:Shared} {h':Heap}
theorem Cx.Ok.nofr (ok:X.Ok) {b:Addr} {o:Obj} (e:X.base.get? b=some o):b∉X.fs:=fun hb=>by
 have:=(ok.funs.mem hb).1
 rw[e] at this;cases this
theorem Inv.bs (I:Inv X pins σ H s):∀b o,X.base.get? b=some o→s.heap.get? b=some o∧H b=none:=fun b o e =>
 ⟨I.base.keep b o (I.ok.bs b o e).1 (I.ok.bs b o e).2 (I.ok.nofr e) (I.ok.noex b o e),I.base.free b o (I.ok.bs b o e).1 (I.ok.bs b o e).2 (I.ok.noex b o e)⟩
theorem Inv.bk (I:Inv X pins σ H s):∀b o,X.base.get? b=some o→s.heap.get? b=some o:=fun b o e=>(I.bs b o e).1
theorem Inv.mod (I:Inv X pins σ H s):Mod X.K X.mg X.base:=I.ok.mod
theorem Inv.kIn (I:Inv X pins σ H s):X.K.In s.heap:=I.ok.mod.kin.keeps I.bk
theorem Inv.lt (I:Inv X pins σ H s):X.env.locals < s.heap.objs.size:=let ⟨_,hn,_⟩:=I.loc;hn.lt
theorem Inv.sz (I:Inv X pins σ H s):X.s₀.heap.objs.size≤s.heap.objs.size:=Nat.le_trans I.ok.above (Nat.le_of_lt I.lt)
theorem Inv.nofs (I:Inv X pins σ H s) {a:Addr} (h:s.heap.objs.size≤a):a∉X.fs:=fun hb=>by
 obtain ⟨_,o,ho,_⟩:=I.ok.funs.mem hb
 exact absurd (Nat.lt_of_lt_of_le (Heap.lt_size ho) (Nat.le_trans I.sz h)) (Nat.lt_irrefl _)
theorem Inv.cne (I:Inv X pins σ H s):∀x c,X.env.cells.lookup x=some c→c≠X.env.locals:=fun x c e z=>by
 obtain ⟨v,o,ho,hd⟩:=I.cell x c e
 obtain ⟨m,⟨o',es,ep,ho',hd',_⟩,_⟩:=I.loc
 rw[z,ho'] at ho;cases ho;rw[hd'] at hd;cases hd
theorem Inv.funs (I:Inv X pins σ H s):s.heap.FunFrames X.base X.outer:=by
 have all:∀(l:List Env),(∀b∈frs l,b∈X.fs)→X.s₀.heap.FunFrames X.base l→s.heap.FunFrames X.base l:=by
  intro l
  induction l with
  | nil=>intro _ _;trivial
  | cons env r ih =>
   intro hs hl
   obtain ⟨hk,⟨L,o,hf,hn,ho,hd⟩,hr⟩:=hl
   have hL:L∈X.fs:=hs L (by unfold frs;rw[List.filterMap_cons,hf];exact List.mem_cons_self)
   obtain ⟨sl,e⟩:=I.base.slot L o ho (I.ok.frf L hL) hL fun z=>I.ok.exfs L z hL
   exact ⟨hk,⟨L,_,hf,hn,e,hd⟩,ih (fun b hb=>hs b (by unfold frs;rw[List.filterMap_cons,hf];exact List.mem_cons_of_mem _ hb)) hr⟩
 exact all X.outer (fun _ hb=>hb) I.ok.funs
theorem Inv.stack (I:Inv X pins σ H s):s.heap.FunFrames X.base X.stack:=by
 rcases I.ok.stk with e | ⟨e,hf⟩
 ·rw[e];exact I.funs
 ·rw[e]
  obtain ⟨m,hn,_⟩:=I.loc
  refine .cons (by rw[I.ok.kind];decide) hf hn ?_ I.funs
  exact Heap.get?_none_of_le (Nat.le_trans I.ok.bsz I.ok.above)
theorem Inv.stkSub (I:Inv X pins σ H s):∀b∈frs X.stack,b∈X.env.locals::X.fs:=fun b hb=>by
 rcases I.ok.stk with e | ⟨e,hf⟩
 ·rw[e] at hb;exact List.mem_cons_of_mem _ hb
 ·rw[e] at hb
  unfold frs at hb
  rw[List.filterMap_cons,hf] at hb
  exact hb
theorem Inv.stkFree (I:Inv X pins σ H s):∀b∈frs X.stack,H b=none:=fun b hb=>by
 rcases List.mem_cons.mp (I.stkSub b hb) with e | hb
 ·rw[e];exact I.free
 ·obtain ⟨_,o,ho,_⟩:=I.ok.funs.mem hb
  exact I.base.free b o ho (I.ok.frf b hb) fun z=>I.ok.exfs b z hb
theorem Inv.step {g':Array GenState} {t':Nat} {d':Drawn} {ch:List Addr} (I:Inv X pins σ H s)
  (hch:∀b∈ch,(b∈X.ex∨X.s₀.heap.objs.size≤b)∧b≠X.env.locals∧(∀x c,X.env.cells.lookup x=some c→c≠b)∧∀p∈X.pn++pins,p.1≠b)
  (keep:∀b o,b≠X.env.locals→b∉X.fs→b∉ch→s.heap.get? b=some o→H b=none→h'.get? b=some o)
  (slot:∀b o,b≠X.env.locals→b∈X.fs→b∉ch→s.heap.get? b=some o→H b=none→∃sl,h'.get? b=some {o with slots:=sl}) (free:∀b o,b∉ch→s.heap.get? b=some o→H b=none→H' b=none)
  (there:∀b o,b∉ch→s.heap.get? b=some o→∃o',h'.get? b=some o')
  (tups:∀b xs,H b=some (.tup xs)→H' b=some (.tup xs)) (frzs:∀b o u,H b=some (.frz o u)→H' b=some (.frz o u)) (tbls:∀b ps,H b=some (.tbl ps)→∃more,H' b=some (.tbl (ps++more)))
  (ns:∀m,s.heap.Ns X.env.locals m→h'.Ns X.env.locals m) (hok:HOk X.prog X.w H' h') (hg:AllBare g') :
  Inv X pins σ H' {s with heap:=h',gens:=g',drawn:=d',toks:=t'}:=by
 have neL:∀b o,X.s₀.heap.get? b=some o→b≠X.env.locals:=fun b o e=>Nat.ne_of_lt (Nat.lt_of_lt_of_le (Heap.lt_size e) I.ok.above)
 have neC:∀b o,X.s₀.heap.get? b=some o→b∉X.ex→b∉ch:=fun b o e hx hb=>by
  rcases (hch b hb).1 with z | z
  ·exact hx z
  ·exact absurd (Nat.lt_of_lt_of_le (Heap.lt_size e) z) (Nat.lt_irrefl _)
 have cellK:∀x c,X.env.cells.lookup x=some c→∀v,s.heap.IsCell c v→h'.IsCell c v:=fun x c e v hq0=>by
  obtain ⟨o,ho,hd⟩:=hq0
  have nch:c∉ch:=fun z=>(hch c z).2.2.1 x c e rfl
  by_cases hc:c∈X.fs
  ·obtain ⟨sl,q⟩:=slot c o (I.cne x c e) hc nch ho (I.freeC x c e)
   exact ⟨_,q,hd⟩
  ·exact ⟨o,keep c o (I.cne x c e) hc nch ho (I.freeC x c e),hd⟩
 refine ⟨I.ok,I.os,hg,⟨fun b o e n hb hx=>?_,fun b o e n hb hx=>?_,fun b o e n hx=>?_,fun b o e hx=>?_,fun b xs e=>tups b xs (I.base.tups b xs e),fun b o xs e=>frzs b o xs (I.base.frzs b o xs e),fun b ps e=>?_⟩,?_,fun x c e=>?_,?_,fun x c e=>?_,fun p hp=>?_,hok,I.len⟩
 ·exact keep b o (neL b o e) hb (neC b o e hx) (I.base.keep b o e n hb hx) (I.base.free b o e n hx)
 ·obtain ⟨sl,e1⟩:=I.base.slot b o e n hb hx
  obtain ⟨sl',e2⟩:=slot b _ (neL b o e) hb (neC b o e hx) e1 (I.base.free b o e n hx)
  exact ⟨sl',e2⟩
 ·obtain ⟨o',e1⟩:=I.base.there b o e hx
  exact free b o' (neC b o e hx) e1 (I.base.free b o e n hx)
 ·obtain ⟨o',e1⟩:=I.base.there b o e hx
  exact there b o' (neC b o e hx) e1
 ·obtain ⟨m1,e1⟩:=I.base.tbls b ps e
  obtain ⟨m2,e2⟩:=tbls b _ e1
  exact ⟨m1++m2,by rw[e2,Array.append_assoc]⟩
 ·obtain ⟨m,hn,hl⟩:=I.loc
  refine ⟨m,ns m hn,fun i x v e1 e2 e3=>?_⟩
  obtain ⟨u,r,l⟩:=hl i x v e1 e2 e3
  refine ⟨u,r,?_⟩
  rcases l with l | ⟨k,c,e,z⟩
  ·exact .inl l
  ·exact .inr ⟨k,c,e,cellK x c e _ z⟩
 ·obtain ⟨v,z⟩:=I.cell x c e
  exact ⟨v,cellK x c e v z⟩
 ·obtain ⟨m,⟨o,_,_,ho,_⟩,_⟩:=I.loc
  exact free _ o (fun z=>(hch _ z).2.1 rfl) ho I.free
 ·obtain ⟨v,o,ho,hd⟩:=I.cell x c e
  exact free c o (fun z=>(hch c z).2.2.1 x c e rfl) ho (I.freeC x c e)
 ·obtain ⟨e,n,ne,nf,d⟩:=I.pin p hp
  have nch:p.1∉ch:=fun z=>(hch p.1 z).2.2.2 p hp rfl
  exact ⟨keep p.1 p.2 ne nf nch e n,free p.1 p.2 nch e n,ne,nf,d⟩
theorem Inv.un {t':Nat} (I:Inv X pins σ H s) (u:Un X.fs [] H H' s.heap h') (hok:HOk X.prog X.w H' h'):Inv X pins σ H' {s with heap:=h',toks:=t'}:=by
 obtain ⟨m,⟨o,es,ep,ho,r⟩,_⟩:=id I.loc
 obtain ⟨sl,hL⟩:=u.any ho I.free (by simp)
 exact I.step (g':=s.gens) (d':=s.drawn) (ch:=[]) (fun _ z=>nomatch z) (fun b o _ hb _ e n=>u.keep b o e n hb (by simp)) (fun b o _ hb _ e n=>u.slot b o e n hb (by simp)) (fun b o _ e n=>u.free b o e n (by simp)) (fun b o _ e=>u.there b o e (by simp)) u.tups u.frzs u.tbls (fun m' hm=>by
  obtain ⟨o',es',ep',ho',r'⟩:=hm
  rw[ho] at ho';cases ho'
  exact ⟨_,es',ep',hL,r'⟩) hok I.bare
theorem Inv.call {g':Array GenState} {t':Nat} {d':Drawn} {ch:List Addr} (I:Inv X pins σ H s) (u:Un (frs X.stack) ch H H' s.heap h') (hok:HOk X.prog X.w H' h') (hg:AllBare g')
  (hch:∀b∈ch,(b∈X.ex∨X.s₀.heap.objs.size≤b)∧b≠X.env.locals∧(∀x c,X.env.cells.lookup x=some c→c≠b)∧∀p∈X.pn++pins,p.1≠b) :
  Inv X pins σ H' {s with heap:=h',gens:=g',drawn:=d',toks:=t'}:=by
 obtain ⟨m,⟨o,es,ep,ho,r⟩,_⟩:=id I.loc
 obtain ⟨sl,hL⟩:=u.any ho I.free fun z=>(hch _ z).2.1 rfl
 exact I.step (ch:=ch) hch (fun b o hL hb hc e n=>u.keep b o e n (fun z=>(List.mem_cons.mp (I.stkSub b z)).elim hL hb) hc) (fun b o _ _ hc e n=>u.any e n hc) (fun b o hc e n=>u.free b o e n hc) (fun b o hc e=>u.there b o e hc) u.tups u.frzs u.tbls (fun m' hm=>by
  obtain ⟨o',es',ep',ho',r'⟩:=hm
  rw[ho] at ho';cases ho'
  exact ⟨_,es',ep',hL,r'⟩) hok hg
theorem Inv.turned {t':Nat} {it:Addr} (I:Inv X pins σ H s) (k:∀b o,b≠it→s.heap.get? b=some o→h'.get? b=some o) (hn:H it=none) (hL:it≠X.env.locals)
  (h1:it∈X.ex∨X.s₀.heap.objs.size≤it) (h2:∀x c,X.env.cells.lookup x=some c→c≠it) (h3:∀p∈X.pn++pins,p.1≠it):Inv X pins σ H {s with heap:=h',toks:=t'}:=by
 have nit:∀b u,H b=some u→b≠it:=fun b u e z=>by rw[z,hn] at e;cases e
 refine I.step (g':=s.gens) (d':=s.drawn) (ch:=[it]) (fun b hb=>?_) (fun b o _ _ hc e _=>k b o (fun z=>hc (by simp[z])) e) (fun b o _ _ hc e _=>⟨o.slots,k b o (fun z=>hc (by simp[z])) e⟩) (fun _ _ _ _ n=>n)
  (fun b o hc e=>⟨o,k b o (fun z=>hc (by simp[z])) e⟩) (fun _ _ e=>e) (fun _ _ _ e=>e) (fun b ps e=>⟨#[],by rw[e];simp⟩) (fun m hm=>?_) (fun b u e=>?_) I.bare
 ·have e:b=it:=by simpa using hb
  subst e
  exact ⟨h1,hL,h2,h3⟩
 ·obtain ⟨o,es,ep,ho,r⟩:=hm
  exact ⟨o,es,ep,k _ o (Ne.symm hL) ho,r⟩
 ·refine (I.hok b u e).stay (fun c v hc q=>k c v ?_ q) (fun _ q=>q) fun _ _ q=>q
  rcases hc with z | z
  ·rw[z];exact nit b u e
  ·exact nit c _ z
theorem Inv.tok (I:Inv X pins σ H s) (t:Nat):Inv X pins σ H {s with toks:=t}:=I.un (h':=s.heap) (t':=t) Un.refl I.hok
theorem Inv.kept {t':Nat} (I:Inv X pins σ H s) (k:∀b u,s.heap.get? b=some u→h'.get? b=some u):Inv X pins σ H {s with heap:=h',toks:=t'}:=I.un (Un.kept k) (I.hok.kept k)
theorem Inv.laid {a:Addr} {o:HO} {t':Nat} (I:Inv X pins σ H s) (k:∀b u,s.heap.get? b=some u→h'.get? b=some u) (hp:s.heap.objs.size≤a) (new:ObjOk X.prog X.w (upd H a o) h' a o) :
 Inv X pins σ (upd H a o) {s with heap:=h',toks:=t'}:=I.un (Un.laid k hp (I.hok.fresh hp)) (I.hok.laid k hp new)
theorem Inv.write {x e:Addr} {o:HO} {t':Nat} (I:Inv X pins σ H s) (mu:Mut (H x)) (he:e=x∨H e=some (.own x)) (k:∀b u,b≠e→s.heap.get? b=some u→h'.get? b=some u) (heo:∃u,h'.get? e=some u)
 (new:ObjOk X.prog X.w (upd H x o) h' x o):Inv X pins σ (upd H x o) {s with heap:=h',toks:=t'}:=I.un (Un.write mu he k heo) (I.hok.write mu he k heo new)
theorem Inv.pins_of {pins':List (Addr × Obj)} (I:Inv X pins σ H s) (h:∀p∈pins',s.heap.get? p.1=some p.2∧H p.1=none∧p.1≠X.env.locals∧p.1∉X.fs∧∀v,p.2.data≠.cell v):Inv X pins' σ H s :=
 ⟨I.ok,I.os,I.bare,I.base,I.loc,I.cell,I.free,I.freeC,fun p hp=>(List.mem_append.mp hp).elim (fun z=>I.pin p (List.mem_append_left _ z)) (h p),I.hok,I.len⟩
theorem zrl {N:List Str} (hN:N.Nodup) {i j:Nat} {x:Str} (a:N[i]?=some x) (b:N[j]?=some x):i=j:=by
 obtain ⟨h1,e1⟩:=List.getElem?_eq_some_iff.mp a
 obtain ⟨h2,e2⟩:=List.getElem?_eq_some_iff.mp b
 exact (List.getElem_inj hN).mp (e1.trans e2.symm)
theorem zoa {M:Model} {A:Around} {E:Value→Shared→Prop} {i:Nat} {x:Str} {v:V} {u:Value} {Q:Unit→Shared→Prop} (I:Inv X pins σ H s) (hN:X.N.Nodup) (hi:X.N[i]?=some x) (hx:Loc X.env.scope x) (r:RelV v u)
  (h:∀s',Inv X pins (σ.set i (some v)) H s'→(∃a,Heap.SameBut a s.heap s'.heap∧(a=X.env.locals∨X.env.cells.lookup x=some a))→Q () s') (hf:X.fn x=true∨X.env.scope.names.lookup x=some .local:=by first | exact .inl rfl | exact .inr rfl | assumption):wpAny M A (storeName X.env x u) Q E s:=by
 obtain ⟨m,hn,hl⟩:=id I.loc
 have hcls:(X.env.scope.kind == .class || (X.env.scope.kind == .module && X.env.locals != X.env.globals))=false:=by rw[I.ok.kind];rfl
 have hiσ:i < σ.length:=by rw[I.len];exact (List.getElem?_eq_some_iff.mp hi).1
 have cne:=I.cne
 have tracked:∀{a:Addr} {h':Heap},(∃o,s.heap.get? a=some o∧H a=none)→Heap.SameBut a s.heap h'→HOk X.prog X.w H h':=fun {a h'} ha hs b ob e=>by
  obtain ⟨_,_,hfree⟩:=ha
  refine (I.hok b ob e).stay (fun c w' hc q=>(hs.2 c ?_).trans q) (fun _ q=>q) fun _ _ q=>q
  rintro rfl
  rcases hc with rfl | hc
  ·rw[hfree] at e;cases e
  ·rw[hfree] at hc;cases hc
 rcases hx with hk | hk
 ·refine wpAny_storeName_local hk hn (fun h' hn' hs=>?_) hcls
  obtain ⟨oL,_,_,hoL,_⟩:=id hn
  refine h _ ⟨I.ok,I.os,I.bare,⟨fun b o e n hb hx=>?_,fun b o e n hb hx=>?_,I.base.free,fun b o e hx=>?_,I.base.tups,I.base.frzs,I.base.tbls⟩,⟨_,hn',fun j y v' e1 e2 e3=>?_⟩,fun y c e=>?_,I.free,I.freeC,fun p hp=>?_,tracked ⟨oL,hoL,I.free⟩ hs,by simpa using I.len⟩ ⟨_,hs,.inl rfl⟩
  ·exact (hs.2 b (Nat.ne_of_lt (Nat.lt_of_lt_of_le (Heap.lt_size e) I.ok.above))).trans (I.base.keep b o e n hb hx)
  ·obtain ⟨sl,e1⟩:=I.base.slot b o e n hb hx
   exact ⟨sl,(hs.2 b (Nat.ne_of_lt (Nat.lt_of_lt_of_le (Heap.lt_size e) I.ok.above))).trans e1⟩
  ·obtain ⟨o',e1⟩:=I.base.there b o e hx
   exact ⟨o',(hs.2 b (Nat.ne_of_lt (Nat.lt_of_lt_of_le (Heap.lt_size e) I.ok.above))).trans e1⟩
  ·by_cases hj:j=i
   ·subst hj
    rw[hi] at e1;cases e1
    rw[List.getElem?_set_self hiσ] at e2
    cases e2
    exact ⟨u,r,.inl ⟨hk,by simp⟩⟩
   ·rw[List.getElem?_set_ne (Ne.symm hj)] at e2
    obtain ⟨u',r',q⟩:=hl j y v' e1 e2 e3
    refine ⟨u',r',?_⟩
    rcases q with ⟨k,e⟩ | ⟨k,c,e,z⟩
    ·refine .inl ⟨k,?_⟩
     have:y≠x:=fun e=>hj (zrl hN e1 (e ▸ hi))
     simp[this,e]
    ·exact .inr ⟨k,c,e,z.sameBut hs (cne y c e)⟩
  ·obtain ⟨w',z⟩:=I.cell y c e
   exact ⟨w',z.sameBut hs (cne y c e)⟩
  ·obtain ⟨e,n,ne,nf,d⟩:=I.pin p hp
   exact ⟨(hs.2 p.1 ne).trans e,n,ne,nf,d⟩
 ·have hfn:X.fn x=true:=by
   rcases hf with z | z
   ·exact z
   ·rw[z] at hk;cases hk
  obtain ⟨c,hc⟩:=I.ok.has x (.inl hk)
  obtain ⟨w',z⟩:=I.cell x c hc
  refine wpAny_storeName_cell I.ok.kind hk hc z (fun h' hc' hs=>?_)
  obtain ⟨oc,hoc,hocd⟩:=id z
  refine h {s with heap:=h'} ⟨I.ok,I.os,I.bare,⟨fun b o e n hb hx=>?_,fun b o e n hb hx=>?_,I.base.free,fun b o e hx=>?_,I.base.tups,I.base.frzs,I.base.tbls⟩,⟨m,hn.sameBut hs (Ne.symm (cne x c hc)),fun j y v' e1 e2 e3=>?_⟩,fun y c' e=>?_,I.free,I.freeC,fun p hp=>?_,tracked ⟨oc,hoc,I.freeC x c hc⟩ hs,by simpa using I.len⟩ ⟨c,hs,.inr hc⟩
  ·exact (hs.2 b (Nat.ne_of_lt (Nat.lt_of_lt_of_le (Heap.lt_size e) (I.ok.cab x c hfn hc)))).trans (I.base.keep b o e n hb hx)
  ·obtain ⟨sl,e1⟩:=I.base.slot b o e n hb hx
   exact ⟨sl,(hs.2 b (Nat.ne_of_lt (Nat.lt_of_lt_of_le (Heap.lt_size e) (I.ok.cab x c hfn hc)))).trans e1⟩
  ·obtain ⟨o',e1⟩:=I.base.there b o e hx
   exact ⟨o',(hs.2 b (Nat.ne_of_lt (Nat.lt_of_lt_of_le (Heap.lt_size e) (I.ok.cab x c hfn hc)))).trans e1⟩
  ·by_cases hj:j=i
   ·subst hj
    rw[hi] at e1;cases e1
    rw[List.getElem?_set_self hiσ] at e2
    cases e2
    exact ⟨u,r,.inr ⟨.inl hk,c,hc,hc'⟩⟩
   ·rw[List.getElem?_set_ne (Ne.symm hj)] at e2
    obtain ⟨u',r',q⟩:=hl j y v' e1 e2 e3
    refine ⟨u',r',?_⟩
    rcases q with q | ⟨k,c',e,z'⟩
    ·exact .inl q
    ·refine .inr ⟨k,c',e,z'.sameBut hs ?_⟩
     rintro rfl
     exact hj (zrl hN e1 (I.ok.inj _ _ _ e hc ▸ hi))
  ·by_cases hcc:c'=c
   ·subst hcc;exact ⟨_,hc'⟩
   ·obtain ⟨w2,z2⟩:=I.cell y c' e
    exact ⟨w2,z2.sameBut hs hcc⟩
  ·obtain ⟨e,n,ne,nf,d⟩:=I.pin p hp
   refine ⟨(hs.2 p.1 ?_).trans e,n,ne,nf,d⟩
   intro q
   rw[q,hoc] at e
   have q':oc=p.2:=Option.some.inj e
   exact d w' (by rw[← q'];exact hocd)
theorem zmn {M:Model} {A:Around} {E:Value→Shared→Prop} {i:Nat} {x:Str} {v:V} {u:Value} {Q:Unit→Shared→Prop} (I:Inv X pins σ H s) (hN:X.N.Nodup) (hi:X.N[i]?=some x) (hx:Loc X.env.scope x) (r:RelV v u)
  (h:∀s',Inv X pins (σ.set i (some v)) H s'→Q () s') (hf:X.fn x=true∨X.env.scope.names.lookup x=some .local:=by first | exact .inl rfl | exact .inr rfl | assumption):wpAny M A (storeName X.env x u) Q E s :=
 zoa I hN hi hx r (fun s' I' _=>h s' I') hf
theorem Inv.call' {s':Shared} {ch:List Addr} (I:Inv X pins σ H s) (ho:s'.os=s.os) (u:Un (frs X.stack) ch H H' s.heap s'.heap) (hok:HOk X.prog X.w H' s'.heap) (hg:AllBare s'.gens)
  (hch:∀b∈ch,(b∈X.ex∨X.s₀.heap.objs.size≤b)∧b≠X.env.locals∧(∀x c,X.env.cells.lookup x=some c→c≠b)∧∀p∈X.pn++pins,p.1≠b):Inv X pins σ H' s':=by
 obtain ⟨h',g',d',t',o'⟩:=s'
 have e:o'=s.os:=ho
 subst e
 exact I.call (g':=g') (t':=t') (d':=d') u hok hg hch
end
noncomputable abbrev XK:=Value→Option Addr→Hp→Prop
noncomputable abbrev St:=List (Option V)
noncomputable abbrev VK:=V→Hp→Prop
noncomputable abbrev TE:=St→Hp→VK→Prop
noncomputable abbrev TT:=St→Hp→(Bool→Hp→Prop)→Prop
noncomputable abbrev TA:=St→Hp→(List V→Hp→Prop)→Prop
structure Ends where
 nx:St→Hp→Prop
 rt:VK
 bk:St→Hp→Prop:=fun _ _=>False
 ct:St→Hp→Prop:=fun _ _=>False
noncomputable abbrev TS:=Ends→St→Hp→Prop
noncomputable def EP (X:Cx) (pins:List (Addr × Obj)) (σ:St) (Q:VK) (u:Value) (s':Shared):Prop:=∃v H',Inv X pins σ H' s'∧RelV v u∧Q v H'
noncomputable def TP (X:Cx) (pins:List (Addr × Obj)) (σ:St) (Q:Bool→Hp→Prop) (b:Bool) (s':Shared):Prop:=∃H',Inv X pins σ H' s'∧Q b H'
noncomputable def AP (X:Cx) (pins:List (Addr × Obj)) (σ:St) (Q:List V→Hp→Prop) (us:List Value) (s':Shared):Prop:=∃vs H',Inv X pins σ H' s'∧Vals vs us∧Q vs H'
noncomputable def SP (X:Cx) (pins:List (Addr × Obj)) (D:Ends) (f:Flow) (s':Shared):Prop :=
 match f with
 | .next=>∃σ' H',Inv X pins σ' H' s'∧D.nx σ' H'
 | .brk=>∃σ' H',Inv X pins σ' H' s'∧D.bk σ' H'
 | .cont=>∃σ' H',Inv X pins σ' H' s'∧D.ct σ' H'
 | .ret u=>∃v σ' H',Inv X pins σ' H' s'∧RelV v u∧D.rt v H'
noncomputable def PE (X:Cx) (e:Expr) (t:TE):Prop :=
 ∀(pins:List (Addr × Obj)) (s:Shared) (σ:St) (H:Hp) (Q:VK),Inv X pins σ H s→t σ H Q→wpAny (model X.prog X.w) X.A (eval e X.env) (EP X pins σ Q) X.xe s
noncomputable def PT (X:Cx) (e:Expr) (t:TT):Prop :=
 ∀(pins:List (Addr × Obj)) (s:Shared) (σ:St) (H:Hp) (Q:Bool→Hp→Prop),Inv X pins σ H s→t σ H Q→wpAny (model X.prog X.w) X.A (isTrue e X.env (eval e X.env)) (TP X pins σ Q) X.xe s
noncomputable def PW (X:Cx) (e:Expr) (t:TT):Prop :=
 ∀(whole:Sem Value) (pins:List (Addr × Obj)) (s:Shared) (σ:St) (H:Hp) (Q:Bool→Hp→Prop),Inv X pins σ H s→t σ H Q→wpAny (model X.prog X.w) X.A (isTrue e X.env whole) (TP X pins σ Q) X.xe s
theorem PW.pt {X:Cx} {e:Expr} {t:TT} (h:PW X e t):PT X e t:=h _
noncomputable def PA (X:Cx) (es:List Expr) (t:TA):Prop :=
 ∀(pos:Pos) (pins:List (Addr × Obj)) (s:Shared) (σ:St) (H:Hp) (Q:List V→Hp→Prop),Inv X pins σ H s→t σ H Q→wpAny (model X.prog X.w) X.A (spliced (backTo pos (starEach es X.env))) (AP X pins σ Q) X.xe s
noncomputable def PS (X:Cx) (st:Stmt) (t:TS):Prop :=
 ∀(pins:List (Addr × Obj)) (s:Shared) (σ:St) (H:Hp) (D:Ends),Inv X pins σ H s→t D σ H→wpAny (model X.prog X.w) X.A (exec st X.env) (SP X pins D) X.xe s
noncomputable def PSs (X:Cx) (st:List Stmt) (t:TS):Prop :=
 ∀(pins:List (Addr × Obj)) (s:Shared) (σ:St) (H:Hp) (D:Ends),Inv X pins σ H s→t D σ H→wpAny (model X.prog X.w) X.A (execs st X.env) (SP X pins D) X.xe s
theorem thn {α:Type} {t:Sem α} {Q Q':α→Shared→Prop} {M:Model} {A:Around} {E:Value→Shared→Prop} {s:Shared} (h:wpAny M A t Q E s) (hQ:∀a s,Q a s→Q' a s):wpAny M A t Q' E s:=wpAny_mono h hQ fun _ _ x=>x
end L2
namespace L2
open PySem PySem.Spec PyProof.Rows
section
variable {X:Cx}
noncomputable def tVar (i:Nat):TE:=fun σ H Q=>∃v,σ[i]?=some (some v)∧Q v H
noncomputable def tC (v:V):TE:=fun _ H Q=>Q v H
theorem pe_var {i : Nat} {x : Str} {pos : Pos} (hN : X.N[i]? = some x) (hv : Vis X.env.scope x) (hd : (x == ("__debug__" : Str)) = false := by decide) (hcd : (x == ("__classdict__" : Str)) = false := by decide) : PE X (.Name x pos) (tVar i) := by
 intro pins s σ H Q I h
 obtain ⟨v,e,h⟩:=h
 obtain ⟨m,hn,hl⟩:=I.loc
 obtain ⟨u,r,l⟩:=hl i x v hN e hv
 have fin:EP X pins σ Q u s:=⟨v,H,I,r,h⟩
 rcases l with ⟨hk,hm⟩ | ⟨hk,c,hc,hcell⟩
 ·exact wpAny_Name (wpAny_loadName_local I.ok.kind hk hn hm fin) hd
 ·rcases hk with hk | hk
  ·exact wpAny_Name (wpAny_loadName_cell I.ok.kind hk hc hcell fin) hd
  ·exact wpAny_Name (wpAny_loadName_free I.ok.kind hk hc hcell fin hcd) hd
theorem pe_int {i j pos}:PE X (.Constant (.int i) j pos) (tC (.int i)):=fun _ _ _ H _ I h=>wpAny_Constant_int ⟨.int i,H,I.tok _,⟨_,rfl⟩,h⟩
theorem pe_bl {b j pos}:PE X (.Constant (.bool b) j pos) (tC (.bl b)):=fun _ _ _ H _ I h=>Constant_bool ⟨.bl b,H,I,rfl,h⟩
theorem pe_non {j pos}:PE X (.Constant .none j pos) (tC .non):=fun _ _ _ H _ I h=>Constant_none ⟨.non,H,I,rfl,h⟩
noncomputable def Gl (X:Cx) (x:Str):Prop:=X.env.kindOf x=some .globalImplicit
theorem zww {E:Value→Shared→Prop} {pins:List (Addr × Obj)} {s:Shared} {σ:St} {H:Hp} {x:Str} {u:Value} {pos:Pos} {Q:Value→Shared→Prop} (I:Inv X pins σ H s) (hg:Gl X x) (hm:X.mg x=some u) (h:Q u s)
  (hd : (x == ("__debug__" : Str)) = false := by decide) : wpAny (model X.prog X.w) X.A (eval (.Name x pos) X.env) Q E s :=
 Calls.Name_function_global I.ok.kind hg (Calls.loadGlobal_global (by rw[I.ok.glob];exact I.mod.glob.keeps I.bk) hm h) hd
theorem ld_blt {E:Value→Shared→Prop} {pins:List (Addr × Obj)} {s:Shared} {σ:St} {H:Hp} {x:Str} {u:Value} {pos:Pos} {Q:Value→Shared→Prop} (I:Inv X pins σ H s) (hg:Gl X x) (hm:X.mg x=none) (hv:bootBuiltins x=some u) (h:Q u s)
  (hn : x ≠ "__name__" := by decide) (hd : (x == ("__debug__" : Str)) = false := by decide) : wpAny (model X.prog X.w) X.A (eval (.Name x pos) X.env) Q E s := by
 obtain ⟨mb,h1,h2⟩:=I.mod.blt
 exact Calls.Name_function_global I.ok.kind hg (Calls.loadGlobal_builtin (by rw[I.ok.glob];exact I.mod.glob.keeps I.bk) hm (by rw[I.ok.blt];exact h1.keeps I.bk) ((h2 x hn).trans hv) h) hd
theorem zwo {x : Str} {v : V} {u : Value} {pos : Pos} (hg : Gl X x) (hm : X.mg x = some u) (r : RelV v u) (hd : (x == ("__debug__" : Str)) = false := by decide) : PE X (.Name x pos) (tC v) :=
 fun _ _ _ H _ I h=>zww I hg hm ⟨v,H,I,r,h⟩ hd
theorem zli {x : Str} {v : V} {u : Value} {pos : Pos} (hg : Gl X x) (hm : X.mg x = none) (hv : bootBuiltins x = some u) (r : RelV v u) (hn : x ≠ "__name__" := by decide) (hd : (x == ("__debug__" : Str)) = false := by decide) : PE X (.Name x pos) (tC v) :=
 fun _ _ _ H _ I h=>ld_blt I hg hm hv ⟨v,H,I,r,h⟩ hn hd
variable {a b:Expr} {ta tb:TE} {pos:Pos}
noncomputable def PC (X:Cx) (op:CmpOp) (a b:Expr) (t:TE):Prop :=
 ∀(pins:List (Addr × Obj)) (s:Shared) (σ:St) (H:Hp) (Q:VK),Inv X pins σ H s→t σ H Q →
  wpAny (model X.prog X.w) X.A (eval a X.env) (fun v s₁=>wpAny (model X.prog X.w) X.A (eval b X.env) (fun u s₂=>wpAny (model X.prog X.w) X.A (compareOp op v u) (EP X pins σ Q) X.xe s₂) X.xe s₁) X.xe s
noncomputable def tB (t:TE):TT:=fun σ H Q=>t σ H fun x H1=>∃c,x=.bl c∧Q c H1
theorem pt_cmp {op:CmpOp} {t:TE} (h:PC X op a b t) (h1:behindInMarks op b=false:=by first | exact nobehind _ (by decide) (by decide) | rfl):PT X (.Compare a [op] [b] pos) (tB t):=by
 intro pins s σ H Q I hw
 refine wpAny_isTrue_Compare1 (thn (h pins s σ H _ I hw) fun v s1 h1=>thn h1 fun u s2 h2=>thn h2 fun c s3 hq0=>?_) h1
 obtain ⟨x,H1,I1,r1,q1⟩:=hq0
 obtain ⟨d,rfl,q⟩:=q1
 cases r1
 exact wpAny_truthy_bool ⟨H1,I1,q⟩
variable {tA tB':TT} {rest:List Expr}
noncomputable def tAnd (t u:TT):TT:=fun σ H Q=>t σ H fun c H1=>if c=true then u σ H1 Q else Q false H1
noncomputable def tOr (t u:TT):TT:=fun σ H Q=>t σ H fun c H1=>if c=true then Q true H1 else u σ H1 Q
noncomputable def tNot (t:TT):TT:=fun σ H Q=>t σ H fun c H1=>Q (!c) H1
theorem pw_and1 (ha:PT X a tA):PW X (.BoolOp .And [a] pos) tA:=by
 intro wh pins s σ H Q I h
 refine isTrue_and (thn (ha pins s σ H Q I h) fun c s1 e=>?_)
 cases c with
 | true=>exact isTrue_and_nil e
 | false=>exact e
theorem pw_or1 (ha:PT X a tA):PW X (.BoolOp .Or [a] pos) tA:=by
 intro wh pins s σ H Q I h
 refine isTrue_or (thn (ha pins s σ H Q I h) fun c s1 e=>?_)
 cases c with
 | false=>exact isTrue_or_nil e
 | true=>exact e
theorem pw_and (ha:PT X a tA) (hb:PW X (.BoolOp .And (b::rest) pos) tB'):PW X (.BoolOp .And (a::b::rest) pos) (tAnd tA tB'):=by
 intro wh pins s σ H Q I h
 refine isTrue_and (thn (ha pins s σ H _ I h) fun c s1 hq0=>?_)
 obtain ⟨H1,I1,q1⟩:=hq0
 cases c with
 | true=>exact hb wh pins s1 σ H1 Q I1 q1
 | false=>exact ⟨H1,I1,q1⟩
theorem pw_or (ha:PT X a tA) (hb:PW X (.BoolOp .Or (b::rest) pos) tB'):PW X (.BoolOp .Or (a::b::rest) pos) (tOr tA tB'):=by
 intro wh pins s σ H Q I h
 refine isTrue_or (thn (ha pins s σ H _ I h) fun c s1 hq0=>?_)
 obtain ⟨H1,I1,q1⟩:=hq0
 cases c with
 | true=>exact ⟨H1,I1,q1⟩
 | false=>exact hb wh pins s1 σ H1 Q I1 q1
theorem pt_not (ha:PT X a tA):PT X (.UnaryOp .Not a pos) (tNot tA):=by
 intro pins s σ H Q I h
 exact isTrue_not (ha pins s σ H (fun c H1=>Q (!c) H1) I h)
noncomputable def tAndV (ta tb:TE):TE:=fun σ H Q=>ta σ H fun x H1=>∃c,x=.bl c∧if c=true then tb σ H1 Q else Q (.bl false) H1
noncomputable def tNotV (ta:TE):TE:=fun σ H Q=>ta σ H fun x H1=>∃c,x=.bl c∧Q (.bl (!c)) H1
theorem pe_one {op} {t:TE} (h:PE X a t):PE X (.BoolOp op [a] pos) t:=fun pins s σ H Q I hw=>BoolOp_one (h pins s σ H Q I hw)
theorem pe_and (ha:PE X a ta) (hb:PE X (.BoolOp .And (b::rest) pos) tb):PE X (.BoolOp .And (a::b::rest) pos) (tAndV ta tb):=by
 intro pins s σ H Q I h
 refine BoolOp_and (thn (ha pins s σ H _ I h) fun v s1 hq0=>?_)
 obtain ⟨x,H1,I1,r1,q1⟩:=hq0
 obtain ⟨c,rfl,q1⟩:=q1
 cases r1
 refine wpAny_truthy_bool ?_
 cases c with
 | true=>exact hb pins s1 σ H1 Q I1 q1
 | false=>exact ⟨.bl false,H1,I1,rfl,q1⟩
theorem pe_not (ha:PE X a ta):PE X (.UnaryOp .Not a pos) (tNotV ta):=by
 intro pins s σ H Q I h
 refine UnaryOp_ (thn (ha pins s σ H _ I h) fun v s1 hq0=>?_)
 obtain ⟨x,H1,I1,r1,q1⟩:=hq0
 obtain ⟨c,rfl,q1⟩:=q1
 cases r1
 exact not_of (wpAny_truthy_bool ⟨.bl (!c),H1,I1,rfl,q1⟩)
noncomputable def tIf (t:TT) (ta tb:TE):TE:=fun σ H Q=>t σ H fun c H1=>if c=true then ta σ H1 Q else tb σ H1 Q
theorem zyn {c:Expr} (hc:PT X c tA) (ha:PE X a ta) (hb:PE X b tb):PE X (.IfExp c a b pos) (tIf tA ta tb):=by
 intro pins s σ H Q I h
 refine wpAny_IfExp (thn (hc pins s σ H _ I h) fun d s1 hq0=>?_)
 obtain ⟨H1,I1,q1⟩:=hq0
 cases d with
 | true=>exact ha pins s1 σ H1 Q I1 q1
 | false=>exact hb pins s1 σ H1 Q I1 q1
end
end L2
namespace L2
open PySem PySem.Spec PyProof.Rows
noncomputable def SqL (K:PySem.W.Frag) (H:Hp) (a:Addr) (xs:List V):Prop :=
 Rd H a (.lst xs) ∨
  ∃ (o : Obj) (its : Array Value) (n : Nat), K.lookup a = some o ∧ o.cls = .type "list" ∧ o.dict = none ∧ o.data = .seq its n ∧ its.size ≤ sizeLine ∧ Vals xs its.toList
noncomputable def SqT (K:PySem.W.Frag) (H:Hp) (a:Addr) (xs:List V):Prop :=
 Rd H a (.tup xs) ∨
  ∃ (o : Obj) (its : Array Value) (n : Nat), K.lookup a = some o ∧ o.cls = .type "tuple" ∧ o.data = .seq its n ∧ its.size ≤ sizeLine ∧ Vals xs its.toList
noncomputable def absV:Value→Option V
 | .none=>some .non
 | .bool b=>some (.bl b)
 | .int i _=>some (.int i)
 | .str x _=>some (.str x)
 | .bytes b _=>some (.byt b)
 | .float b _=>some (.flt b)
 | .ref a=>some (.ref a)
 | .type n=>some (.ty n)
 | _=>none
theorem RelV.abs {x:V} {u:Value} (r:RelV x u):absV u=some x:=by
 cases x with
 | non=>cases r;rfl
 | bl _=>cases r;rfl
 | int _=>obtain ⟨t,rfl⟩:=r;rfl
 | str _=>obtain ⟨t,rfl⟩:=r;rfl
 | byt _=>obtain ⟨t,rfl⟩:=r;rfl
 | flt _=>obtain ⟨t,rfl⟩:=r;rfl
 | ref _=>cases r;rfl
 | ty _=>cases r;rfl
theorem RelV.inj {x y:V} {u:Value} (r:RelV x u) (q:RelV y u):x=y:=Option.some.inj (r.abs.symm.trans q.abs)
theorem Vals.inj:∀{xs ys:List V} {us:List Value},Vals xs us→Vals ys us→xs=ys
 | _,_,_,.nil,.nil=>rfl
 | _,_,_,.cons r t,.cons r' t'=>by rw[r.inj r',Vals.inj t t']
section
variable {X:Cx} {pins:List (Addr × Obj)} {σ:St} {H:Hp} {s:Shared} {a:Addr} {xs ys:List V}
theorem SqL.of {K:PySem.W.Frag} (h:H a=some (.lst xs)):SqL K H a xs:=.inl (.inl h)
theorem SqT.of {K:PySem.W.Frag} (h:H a=some (.tup xs)):SqT K H a xs:=.inl (.inl h)
theorem Inv.list (I:Inv X pins σ H s) (h:SqL X.K H a xs):∃its:List Value,Vals xs its∧PlainL s.heap a its.toArray∧xs.length≤sizeLine:=by
 rcases h with h | ⟨o,its,n,hk,hc,hd,hs,hz,r⟩
 ·obtain ⟨z,its,n,r,e⟩:=h.ok I.hok
  exact ⟨its,r,⟨_,n,e,rfl,rfl,rfl⟩,z⟩
 ·refine ⟨its.toList,r,⟨o,n,I.kIn a o hk,hc,hd,by simpa using hs⟩,?_⟩
  have e:=r.length
  simp only[Array.length_toList] at e
  (first|assumption|lia)
theorem Inv.tuple (I:Inv X pins σ H s) (h:SqT X.K H a xs):∃its:List Value,Vals xs its∧IsTup s.heap a its.toArray∧xs.length≤sizeLine:=by
 rcases h with h | ⟨o,its,n,hk,hc,hs,hz,r⟩
 ·obtain ⟨z,its,r,p⟩:=h.ok I.hok
  exact ⟨its,r,p,z⟩
 ·refine ⟨its.toList,r,⟨o,I.kIn a o hk,hc,n,by simpa using hs⟩,?_⟩
  have e:=r.length
  simp only[Array.length_toList] at e
  (first|assumption|lia)
theorem Inv.list_inj (I:Inv X pins σ H s) (h:SqL X.K H a xs) (h':SqL X.K H a ys):xs=ys:=by
 obtain ⟨its,r,⟨o,n,e,_,_,d⟩,_⟩:=I.list h
 obtain ⟨its',r',⟨o',n',e',_,_,d'⟩,_⟩:=I.list h'
 rw[e] at e';cases e'
 rw[d] at d'
 injection d' with d1 _
 have:its=its':=by simpa using congrArg Array.toList d1
 subst this
 exact r.inj r'
theorem Inv.tuple_inj (I:Inv X pins σ H s) (h:SqT X.K H a xs) (h':SqT X.K H a ys):xs=ys:=by
 obtain ⟨its,r,⟨o,e,_,n,d⟩,_⟩:=I.tuple h
 obtain ⟨its',r',⟨o',e',_,n',d'⟩,_⟩:=I.tuple h'
 rw[e] at e';cases e'
 rw[d] at d'
 injection d' with d1 _
 have:its=its':=by simpa using congrArg Array.toList d1
 subst this
 exact r.inj r'
end
noncomputable abbrev Cx.wish (X:Cx) (E:Value→Shared→Prop):Cx:={X with xe:=E}
noncomputable abbrev Cx.nox (X:Cx):Cx:=X.wish fun _ _=>False
theorem Cx.Ok.wish {X:Cx} (ok:X.Ok) (E:Value→Shared→Prop):(X.wish E).Ok :=
 ⟨ok.mod,ok.kind,ok.glob,ok.blt,ok.above,ok.inj,ok.has,ok.cab,ok.hd,ok.frames,ok.stk,ok.exf,ok.bs,ok.bsz,ok.noex,ok.exfs,ok.funs,ok.frf⟩
theorem Cx.Ok.unwish {X:Cx} {E:Value→Shared→Prop} (ok:(X.wish E).Ok):X.Ok :=
 ⟨ok.mod,ok.kind,ok.glob,ok.blt,ok.above,ok.inj,ok.has,ok.cab,ok.hd,ok.frames,ok.stk,ok.exf,ok.bs,ok.bsz,ok.noex,ok.exfs,ok.funs,ok.frf⟩
section
variable {X:Cx} {pins:List (Addr × Obj)} {σ:St} {H:Hp} {s:Shared} {E:Value→Shared→Prop}
theorem Inv.wish (I:Inv X pins σ H s) (E:Value→Shared→Prop):Inv (X.wish E) pins σ H s:=⟨I.ok.wish E,I.os,I.bare,I.base,I.loc,I.cell,I.free,I.freeC,I.pin,I.hok,I.len⟩
theorem Inv.unwish (I:Inv (X.wish E) pins σ H s):Inv X pins σ H s:=⟨I.ok.unwish,I.os,I.bare,I.base,I.loc,I.cell,I.free,I.freeC,I.pin,I.hok,I.len⟩
theorem SP.unwish {D:Ends} {f:Flow} {s':Shared} (h:SP (X.wish E) pins D f s'):SP X pins D f s':=by
 cases f with
 | next=>obtain ⟨σ',H',I,q⟩:=h;exact ⟨σ',H',I.unwish,q⟩
 | brk=>obtain ⟨σ',H',I,q⟩:=h;exact ⟨σ',H',I.unwish,q⟩
 | cont=>obtain ⟨σ',H',I,q⟩:=h;exact ⟨σ',H',I.unwish,q⟩
 | ret u=>obtain ⟨v,σ',H',I,r,q⟩:=h;exact ⟨v,σ',H',I.unwish,r,q⟩
theorem PSs.nox {st:List Stmt} {t:TS} (h:PSs X.nox st t):PSs X st t:=fun pins s σ H D I hw =>
 wpAny_mono (h pins s σ H D (I.wish _) hw) (fun _ _ q=>q.unwish) fun _ _ z=>False.elim z
end
section
variable {X:Cx} {st:Stmt} {rest:List Stmt} {t u:TS} {e:Expr} {te:TE} {pos:Pos}
noncomputable def tNext:TS:=fun D σ H=>D.nx σ H
noncomputable def tSeq (t u:TS):TS:=fun D σ H=>t {D with nx:=u D} σ H
theorem zbbf:PSs X [] tNext:=fun _ _ σ H _ I h=>wpAny_execs_nil ⟨σ,H,I,h⟩
theorem zyh (h1:PS X st t) (h2:PSs X rest u):PSs X (st::rest) (tSeq t u):=by
 intro pins s σ H D I h
 refine wpAny_execs_cons (thn (h1 pins s σ H {D with nx:=u D} I h) fun f s1 q=>?_)
 cases f with
 | next =>
  obtain ⟨σ',H',I',q⟩:=q
  exact h2 pins s1 σ' H' D I' q
 | ret v=>exact q
 | brk=>exact q
 | cont=>exact q
theorem zbbe (h1:PS X st t):PSs X [st] t:=by
 intro pins s σ H D I h
 refine wpAny_execs_cons (thn (h1 pins s σ H D I h) fun f s1 q=>?_)
 cases f with
 | next=>exact wpAny_execs_nil q
 | ret v=>exact q
 | brk=>exact q
 | cont=>exact q
theorem Inv.quiet {pins:List (Addr × Obj)} {σ:St} {H:Hp} {s:Shared} (I:Inv X pins σ H s):interactive X.env=false:=by simp[interactive,I.ok.kind]
noncomputable def tDrop (te:TE):TS:=fun D σ H=>te σ H fun _ H1=>D.nx σ H1
theorem zbbh (he:PE X e te) (hs:swapsWith e none pos.line X.env=pure false:=by rfl):PS X (.Expr e pos) (tDrop te):=by
 intro pins s σ H D I h
 exact wpAny_Expr_any (thn (he pins s σ H _ I h) fun v s1 ⟨x,H1,I1,r1,q1⟩=>⟨σ,H1,I1,q1⟩) I.quiet hs
noncomputable def tRet (te:TE):TS:=fun D σ H=>te σ H D.rt
theorem ps_ret (he:PE X e te):PS X (.Return (some e) pos) (tRet te):=by
 intro pins s σ H D I h
 exact wpAny_Return_some (thn (he pins s σ H _ I h) fun v s1 ⟨x,H1,I1,r1,q1⟩=>⟨x,σ,H1,I1,r1,q1⟩)
noncomputable def tIfS (c:TT) (t u:TS):TS:=fun D σ H=>c σ H fun b H1=>if b=true then t D σ H1 else u D σ H1
theorem ps_if {c:Expr} {a b:List Stmt} {tc:TT} (hc:PT X c tc) (ha:PSs X a t) (hb:PSs X b u):PS X (.If c a b pos) (tIfS tc t u):=by
 intro pins s σ H D I h
 refine wpAny_If (thn (hc pins s σ H _ I h) fun d s1 hq0=>?_)
 obtain ⟨H1,I1,q1⟩:=hq0
 cases d with
 | true=>exact ha pins s1 σ H1 D I1 q1
 | false=>exact hb pins s1 σ H1 D I1 q1
end
noncomputable abbrev TG:=V→St→Hp→(St→Hp→Prop)→Prop
noncomputable abbrev TGs:=List V→St→Hp→(St→Hp→Prop)→Prop
noncomputable def PG (X:Cx) (target:Expr) (t:TG):Prop :=
 ∀(pins:List (Addr × Obj)) (s:Shared) (σ:St) (H:Hp) (v:V) (u:Value) (Q:St→Hp→Prop),Inv X pins σ H s→RelV v u→t v σ H Q →
  wpAny (model X.prog X.w) X.A (assign target X.env u) (fun _ s'=>∃σ' H',Inv X pins σ' H' s'∧Q σ' H') X.xe s
noncomputable def PGs (X:Cx) (ts:List Expr) (t:TGs):Prop :=
 ∀(pins:List (Addr × Obj)) (s:Shared) (σ:St) (H:Hp) (vs:List V) (us:List Value) (Q:St→Hp→Prop),Inv X pins σ H s→Vals vs us→t vs σ H Q →
  wpAny (model X.prog X.w) X.A (assignInOrder ((assignEach ts X.env).map (·.2)) us) (fun _ s'=>∃σ' H',Inv X pins σ' H' s'∧Q σ' H') X.xe s
noncomputable abbrev TSet:=V→V→V→Hp→(Hp→Prop)→Prop
noncomputable def PSet (X:Cx) (t:TSet):Prop :=
 ∀(pins:List (Addr × Obj)) (s:Shared) (σ:St) (H:Hp) (o i v:V) (ov iv u:Value) (Q:Hp→Prop),Inv X pins σ H s→RelV o ov→RelV i iv→RelV v u→t o i v H Q →
  wpAny (model X.prog X.w) X.A (setItem ov iv u) (fun _ s'=>∃H',Inv X pins σ H' s'∧Q H') X.xe s
noncomputable abbrev TIp:=V→V→Hp→VK→Prop
noncomputable def PIp (X:Cx) (op:Operator) (t:TIp):Prop :=
 ∀(pins:List (Addr × Obj)) (s:Shared) (σ:St) (H:Hp) (x y:V) (v u:Value) (Q:VK),Inv X pins σ H s→RelV x v→RelV y u→t x y H Q →
  wpAny (model X.prog X.w) X.A (inplaceOp op v u) (EP X pins σ Q) X.xe s
section
variable {X:Cx} {pos:Pos}
noncomputable def gName (i:Nat):TG:=fun v σ H Q=>Q (σ.set i (some v)) H
theorem zbbq {i:Nat} {x:Str} (hN:X.N.Nodup) (hi:X.N[i]?=some x) (hx:Loc X.env.scope x) (hf:X.fn x=true∨X.env.scope.names.lookup x=some .local:=by first | exact .inl rfl | exact .inr rfl | assumption):PG X (.Name x pos) (gName i):=by
 intro pins s σ H v u Q I r h
 exact wpAny_assign_Name (zmn I hN hi hx r (fun s' I'=>⟨_,H,I',h⟩) hf)
noncomputable def gNil:TGs:=fun vs σ H Q=>vs=[]∧Q σ H
noncomputable def gCons (t:TG) (u:TGs):TGs:=fun vs σ H Q=>∃v r,vs=v::r∧t v σ H fun σ' H'=>u r σ' H' Q
theorem zbbp:PGs X [] gNil:=by
 intro pins s σ H vs us Q I r h
 obtain ⟨e,h⟩:=h
 subst e
 cases r
 exact assignInOrder_nil ⟨σ,H,I,h⟩
theorem zyl {e:Expr} {es:List Expr} {t:TG} {u:TGs} (h1:PG X e t) (h2:PGs X es u)
  (hs:(assignEach (e::es) X.env).map (·.2)=assign e X.env::(assignEach es X.env).map (·.2):=by rfl):PGs X (e::es) (gCons t u):=by
 intro pins s σ H vs us Q I r h
 obtain ⟨v,vr,e1,h⟩:=h
 subst e1
 cases r with
 | cons r rr =>
  rw[hs]
  refine assignInOrder_cons (thn (h1 pins s σ H _ _ _ I r h) fun _ s1 hq0=>?_)
  obtain ⟨σ1,H1,I1,q1⟩:=hq0
  exact h2 pins s1 σ1 H1 _ _ Q I1 rr q1
noncomputable def gTup (K:PySem.W.Frag) (n:Nat) (t:TGs):TG:=fun v σ H Q=>∃a xs,v=.ref a∧SqT K H a xs∧xs.length=n∧t xs σ H Q
theorem pg_tup {es:List Expr} {k:Nat} {t:TGs} {n:Nat} (hc:X.calm=true) (h:PGs X es t)
  (hn:(assignEach es X.env).length=n:=by rfl) (hst:(assignEach es X.env).findIdx? (·.1)=none:=by rfl):PG X (.Tuple es k pos) (gTup X.K n t):=by
 intro pins s σ H v u Q I r hw
 obtain ⟨a,xs,e1,hq,hl,hw⟩:=hw
 subst e1
 cases r
 obtain ⟨its,rv,ht,hz⟩:=I.tuple hq
 refine assign_Tuple_tuple (I.ok.hd hc) ht (by simp[hn,← hl,rv.length]) hst fun h' hx=>?_
 have I1:Inv X pins σ H {s with heap:=h'}:=I.kept (t':=s.toks) fun b o e=>hx b o (Nat.ne_of_lt (Heap.lt_size e)) e
 exact h pins _ σ H xs _ Q I1 (by simpa using rv) hw
noncomputable def gSub (to ti:TE) (t:TSet):TG:=fun v σ H Q=>to σ H fun o H1=>ti σ H1 fun i H2=>t o i v H2 fun H3=>Q σ H3
theorem pg_sub {o i:Expr} {to ti:TE} {t:TSet} (ho:PE X o to) (hi:PE X i ti) (hs:PSet X t)
  (ha:∀v,assign (.Subscript o i pos) X.env v=(do
   let ov ← holding [v] (eval o X.env)
   let iv ← holding [v,ov] (eval i X.env)
   standAt pos
   holding [v,ov,iv] (setItem ov iv v)
   release [v,ov,iv] []):=by intro _;rfl):PG X (.Subscript o i pos) (gSub to ti t):=by
 intro pins s σ H v u Q I r h
 rw[ha]
 refine wpAny_bind (wpAny_holding (thn (ho pins s σ H _ I h) fun ov s1 hq0=>?_))
 obtain ⟨x,H1,I1,r1,q1⟩:=hq0
 refine wpAny_bind (wpAny_holding (thn (hi pins s1 σ H1 _ I1 q1) fun iv s2 hq0=>?_))
 obtain ⟨y,H2,I2,r2,q2⟩:=hq0
 refine wpAny_bind (wpAny_standAt (wpAny_bind (wpAny_holding (thn (hs pins s2 σ H2 x y v ov iv u _ I2 r1 r2 r q2) fun _ s3 hq0=>?_))))
 obtain ⟨H3,I3,q3⟩:=hq0
 exact wpAny_release ⟨σ,H3,I3,q3⟩
noncomputable def tAsg (te:TE) (g:TG):TS:=fun D σ H=>te σ H fun x H1=>g x σ H1 D.nx
theorem ps_asg {tg e:Expr} {te:TE} {g:TG} (he:PE X e te) (hg:PG X tg g) (hs:swapsWithSole [tg] e pos.line X.env=pure false:=by rfl) (hw:swappedStores [tg] e X.env=pure none:=by rfl)
  (h1:(assignEach [tg] X.env).map (·.2)=[assign tg X.env]:=by rfl):PS X (.Assign [tg] e pos) (tAsg te g):=by
 intro pins s σ H D I h
 refine wpAny_Assign_stores (thn (he pins s σ H _ I h) fun v s1 hq0=>?_) hs hw
 obtain ⟨x,H1,I1,r1,q1⟩:=hq0
 rw[h1]
 exact thn (hg pins s1 σ H1 x v _ I1 r1 q1) fun _ s2 q=>q
theorem ps_set {i:Nat} {x:Str} {e:Expr} {te:TE} {pos':Pos} (hN:X.N.Nodup) (hi:X.N[i]?=some x) (hx:Loc X.env.scope x) (he:PE X e te) (hs:swapsWith e (some (.Name x pos')) pos.line X.env=pure false:=by rfl) (hf:X.fn x=true∨X.env.scope.names.lookup x=some .local:=by first | exact .inl rfl | exact .inr rfl | assumption) :
  PS X (.Assign [.Name x pos'] e pos) (tAsg te (gName i)):=by
 intro pins s σ H D I h
 refine wpAny_Assign_Name (thn (he pins s σ H _ I h) fun v s1 hq0=>?_) hs
 obtain ⟨y,H1,I1,r1,q1⟩:=hq0
 exact zmn I1 hN hi hx r1 (fun s2 I2=>⟨_,H1,I2,q1⟩) hf
noncomputable def tAug (i:Nat) (te:TE) (ti:TIp):TS:=fun D σ H=>∃x,σ[i]?=some (some x)∧te σ H fun y H1=>ti x y H1 fun z H2=>D.nx (σ.set i (some z)) H2
theorem ps_aug {i:Nat} {x:Str} {e:Expr} {te:TE} {op:Operator} {ti:TIp} {pos':Pos} (hN:X.N.Nodup) (hi:X.N[i]?=some x) (hx:Loc X.env.scope x) (he:PE X e te) (ho:PIp X op ti) (hf:X.fn x=true∨X.env.scope.names.lookup x=some .local:=by first | exact .inl rfl | exact .inr rfl | assumption) :
  PS X (.AugAssign (.Name x pos') op e pos) (tAug i te ti):=by
 intro pins s σ H D I h
 obtain ⟨v,e1,h⟩:=h
 obtain ⟨m,hn,hl⟩:=I.loc
 have vis:Vis X.env.scope x:=by rcases hx with k | k;exact .inl k;exact .inr (.inl k)
 obtain ⟨u,r,l⟩:=hl i x v hi e1 vis
 refine wpAny_AugAssign_Name ?_
 have go:wpAny (model X.prog X.w) X.A (eval e X.env) (fun w s₂=>wpAny (model X.prog X.w) X.A (inplaceOp op u w) (fun r s₃=>wpAny (model X.prog X.w) X.A (storeName X.env x r) (fun _=>SP X pins D .next) X.xe s₃) X.xe s₂) X.xe s:=by
  refine thn (he pins s σ H _ I h) fun w s1 hq0=>?_
  obtain ⟨y,H1,I1,r1,q1⟩:=hq0
  refine thn (ho pins s1 σ H1 v y u w _ I1 r r1 q1) fun z s2 hq0=>?_
  obtain ⟨zv,H2,I2,r2,q2⟩:=hq0
  exact zmn I2 hN hi hx r2 (fun s3 I3=>⟨_,H2,I3,q2⟩) hf
 rcases l with ⟨hk,hm⟩ | ⟨hk,c,hc,hcell⟩
 ·exact wpAny_loadName_local I.ok.kind hk hn hm go
 ·rcases hk with hk | hk
  ·exact wpAny_loadName_cell I.ok.kind hk hc hcell go
  ·rcases hx with k | k
   ·have:X.env.scope.names.lookup x=some .free:=hk
    rw[k] at this;cases this
   ·have:X.env.scope.names.lookup x=some .free:=hk
    rw[k] at this;cases this
noncomputable def ipI (f:Int→Int→Int):TIp:=fun x y H Q=>∃i j,x=.int i∧y=.int j∧Q (.int (f i j)) H
theorem ip_sub:PIp X .Sub (ipI fun i j=>i - j):=by
 intro pins s σ H x y v u Q I r1 r2 h
 obtain ⟨i,j,e1,e2,q⟩:=h
 subst e1;subst e2
 obtain ⟨t,rfl⟩:=r1
 obtain ⟨t',rfl⟩:=r2
 exact isub_int ⟨.int _,H,I.tok _,⟨_,rfl⟩,q⟩
noncomputable def tWhile (c:TT) (tb:TS):TS:=fun D σ H=>∃W:Nat→St→Hp→Prop,(∃m,W m σ H)∧∀m σ H,W m σ H →
 c σ H fun b H1=>if b=true then ∃N:St→Hp→Prop,(∀σ' H',N σ' H'→∃m',m' < m∧W m' σ' H')∧tb {D with nx:=N,ct:=N,bk:=D.nx} σ H1 else D.nx σ H1
theorem zyi {c:Expr} {body:List Stmt} {tc:TT} {tb:TS} (hp:PassesOwn (model X.prog X.w) X.A X.env X.xe) (hc:PT X c tc) (hb:PSs X body tb):PS X (.While c body [] pos) (tWhile tc tb):=by
 intro pins s σ H D I h
 obtain ⟨W,⟨m0,w0⟩,turn⟩:=h
 refine wpAny_While (codeAny_whileLoop (fun n s'=>∃σ' H',Inv X pins σ' H' s'∧W n σ' H') ?_ m0 ⟨σ,H,I,w0⟩)
 rintro n s1 ⟨σ1,H1,I1,w1⟩
 refine wpAny_passesOwn hp (thn (hc pins s1 σ1 H1 _ I1 (turn n σ1 H1 w1)) fun b s2 hq0=>?_)
 obtain ⟨H2,I2,q2⟩:=hq0
 cases b with
 | true =>
  obtain ⟨N,hN,q2⟩:=q2
  rw[if_pos rfl]
  refine wpAny_passesOwn hp (thn (hb pins s2 σ1 H2 _ I2 q2) fun f s3 q3=>?_)
  cases f with
  | next =>
   obtain ⟨σ3,H3,I3,n3⟩:=q3
   obtain ⟨m',hm,w3⟩:=hN σ3 H3 n3
   exact ⟨m',hm,σ3,H3,I3,w3⟩
  | cont =>
   obtain ⟨σ3,H3,I3,n3⟩:=q3
   obtain ⟨m',hm,w3⟩:=hN σ3 H3 n3
   exact ⟨m',hm,σ3,H3,I3,w3⟩
  | brk=>exact q3
  | ret v=>exact q3
 | false =>
  rw[if_neg Bool.false_ne_true]
  exact wpAny_execs_nil ⟨σ1,H2,I2,q2⟩
end
structure It where
 go:Nat→Hp→Prop
 yld:Nat→Hp→V→Hp→Prop
 stop:Nat→Hp→Prop
noncomputable def FpOk (X:Cx) (pins:List (Addr × Obj)) (H:Hp) (b:Addr):Prop :=
 H b=none∧b≠X.env.locals∧b∉X.fs∧(b∈X.ex∨X.s₀.heap.objs.size≤b)∧(∀x c,X.env.cells.lookup x=some c→c≠b)∧∀p∈X.pn++pins,p.1≠b
theorem Inv.fpOk {X:Cx} {pins:List (Addr × Obj)} {σ:St} {H H':Hp} {s:Shared} {b:Addr} (I:Inv X pins σ H s) (hb:s.heap.objs.size≤b) (hn:H' b=none):FpOk X pins H' b:=by
 refine ⟨hn,Nat.ne_of_gt (Nat.lt_of_lt_of_le I.lt hb),I.nofs hb,.inr (Nat.le_trans I.sz hb),fun x c e z=>?_,fun p hp z=>?_⟩
 ·obtain ⟨v,q⟩:=I.cell x c e
  exact absurd (Nat.lt_of_lt_of_le q.lt (by rw[z];exact hb)) (Nat.lt_irrefl _)
 ·exact absurd (Nat.lt_of_lt_of_le (Heap.lt_size (I.pin p hp).1) (by rw[z];exact hb)) (Nat.lt_irrefl _)
structure Turn (P:Program) (w:World) (K:PySem.W.Frag) (tg:Expr) (J:It) (fp:List Addr) (it:Addr) (tn:Nat→Heap→Prop):Prop where
 mem:it∈fp
 obj:∀i h,tn i h→∀b∈fp,∃o,h.get? b=some o∧∀v,o.data≠.cell v
 keep:∀i h h',tn i h→(∀b∈fp,∀o,h.get? b=some o→h'.get? b=some o)→tn i h'
 item:∀(X:Cx),X.prog=P→X.w=w→X.K=K→X.calm=true→∀(i:Nat) (pins:List (Addr × Obj)) (s:Shared) (σ:St) (H:Hp) (E:Value→Shared→Prop),Inv X pins σ H s→(∀b∈fp,FpOk X pins H b)→tn i s.heap→J.go i H →
  wpAny (model P w) X.A (pyNext (.ref it)) (fun r s1=>∃u,r=some u ∧
   wpAny (model P w) X.A (letOwnedTupleGo tg (.ref it) u) (fun _ s2=>∃x H',Inv X pins σ H' s2∧RelV x u∧J.yld i H x H'∧tn (i+1) s2.heap∧∀b∈fp,H' b=none) E s1) E s
 done:∀(X:Cx),X.prog=P→X.w=w→X.K=K→X.calm=true→∀(i:Nat) (pins:List (Addr × Obj)) (s:Shared) (σ:St) (H:Hp) (E:Value→Shared→Prop),Inv X pins σ H s→(∀b∈fp,FpOk X pins H b)→tn i s.heap→J.stop i H →
  wpAny (model P w) X.A (pyNext (.ref it)) (fun r s1=>r=none∧Inv X pins σ H s1) E s
 self:∀(A:Around) (i:Nat) (s:Shared) (Q:Value→Shared→Prop) (E:Value→Shared→Prop),tn i s.heap→Q (.ref it) s→wpAny (model P w) A (pyIter (.ref it)) Q E s
noncomputable abbrev TI:=St→Hp→(It→Hp→Prop)→Prop
noncomputable def PIE (X:Cx) (pins:List (Addr × Obj)) (σ:St) (tg:Expr) (R:It→Hp→Prop) (itv:Value) (s2:Shared):Prop :=
 ∃(it:Addr) (fp:List Addr) (tn:Nat→Heap→Prop) (J:It) (H':Hp),itv=.ref it∧Inv X pins σ H' s2∧Turn X.prog X.w X.K tg J fp it tn∧tn 0 s2.heap∧(∀b∈fp,FpOk X pins H' b)∧R J H'
noncomputable def PI (X:Cx) (tg iter:Expr) (wi:TI):Prop :=
 ∀(pins:List (Addr × Obj)) (s:Shared) (σ:St) (H:Hp) (R:It→Hp→Prop),Inv X pins σ H s→wi σ H R →
  wpAny (model X.prog X.w) X.A (eval iter X.env) (fun v s1=>wpAny (model X.prog X.w) X.A (pyIter v) (PIE X pins σ tg R) X.xe s1) X.xe s
theorem go_of {M : Model} {A : Around} {E : Value → Shared → Prop} {s : Shared} {tg : Expr} {it : Addr} {u : Value} {o : Obj} {n : String} {vs : Array Value} {Q : Unit → Shared → Prop} (ho : s.heap.get? it = some o) (hc : o.cls = .type n) (hd : o.data = .fields vs)
    (hn : ["enumerate", "zip", "dict_itemiterator", "dict_reverseitemiterator", "odict_iterator", "itertools.zip_longest", "itertools.pairwise"].contains n = false) (hQ : Q () s) : wpAny M A (letOwnedTupleGo tg (.ref it) u) Q E s := by
  unfold letOwnedTupleGo
  cases tg <;> first
    | exact wpAny_pure hQ
    | (cases u <;> first
        | exact wpAny_pure hQ
        | (refine wpAny_bind (wpAny_load ho ?_)
           rw [hc, hd]
           show wpAny M A (if (["enumerate", "zip", "dict_itemiterator", "dict_reverseitemiterator", "odict_iterator", "itertools.zip_longest", "itertools.pairwise"].contains n && vs[0]? == some (rawInt _)) = true then _ else _) Q E s
           rw [if_neg (by intro h; rw [hn, Bool.false_and] at h; cases h)]
           exact wpAny_pure hQ))
noncomputable def Itl (K:PySem.W.Frag) (a:Addr):It :=
 ⟨fun i H=>∃xs x,SqL K H a xs∧xs[i]?=some x,fun i H x H'=>H'=H∧∀xs,SqL K H a xs→xs[i]?=some x,fun i H=>∃xs,SqL K H a xs∧xs.length≤i⟩
noncomputable def Itt (K:PySem.W.Frag) (a:Addr):It :=
 ⟨fun i H=>∃xs x,SqT K H a xs∧xs[i]?=some x,fun i H x H'=>H'=H∧∀xs,SqT K H a xs→xs[i]?=some x,fun i H=>∃xs,SqT K H a xs∧xs.length≤i⟩
noncomputable def Itr (lo:Int) (n:Nat):It:=⟨fun i _=>i < n,fun i H x H'=>H'=H∧x=.int (lo+i),fun i _=>n≤i⟩
theorem ztr {P:Program} {w:World} {K:PySem.W.Frag} {tg:Expr} (a it:Addr):Turn P w K tg (Itl K a) [it] it (fun i h=>h.IsListIter it a i) where
 mem:=by simp
 obj:=fun i h st b hb=>by
  have e:b=it:=by simpa using hb
  subst e
  obtain ⟨o,e,c,d⟩:=st
  exact ⟨o,e,fun v z=>by rw[d] at z;cases z⟩
 keep:=fun i h h' st k=>st.at fun o e=>k it (by simp) o e
 item:=by
  intro X hP hw hK hc i pins s σ H E I hf st hg
  subst hP hw hK
  obtain ⟨xs,x,hq,hx⟩:=hg
  obtain ⟨its,rv,p,hz⟩:=I.list hq
  obtain ⟨u,hu,ru⟩:=rv.get hx
  obtain ⟨f0,f1,f2,f3,f4,f5⟩:=hf it (by simp)
  refine wpAny_pyNext_list_item st p.isList (x:=u) (by simpa using hu) fun h' st' sb=>?_
  have I1:Inv X pins σ H {s with heap:=h'}:=I.turned (t':=s.toks) (fun b o hb e=>(sb.2 b hb).trans e) f0 f1 f3 f4 f5
  obtain ⟨o,e,c,d⟩:=id st'
  exact ⟨u,rfl,go_of (s:={s with heap:=h'}) e c d (by decide) ⟨x,H,I1,ru,⟨rfl,fun ys hy=>by rw[I.list_inj hy hq];exact hx⟩,st',fun b hb=>(hf b hb).1⟩⟩
 done:=by
  intro X hP hw hK hc i pins s σ H E I hf st hg
  subst hP hw hK
  obtain ⟨xs,hq,hx⟩:=hg
  obtain ⟨its,rv,p,hz⟩:=I.list hq
  obtain ⟨f0,f1,f2,f3,f4,f5⟩:=hf it (by simp)
  have hl:=rv.length
  exact wpAny_pyNext_list_end (I.ok.hd hc) st p.isList (by simp;(first|assumption|lia)) fun h' eb=>⟨rfl,I.turned (t':=s.toks) (fun b o hb e=>eb b o hb e) f0 f1 f3 f4 f5⟩
 self:=fun _ _ _ _ _ st h=>wpAny_pyIter_listiter st h
theorem zqf {P:Program} {w:World} {K:PySem.W.Frag} {tg:Expr} (a it:Addr):Turn P w K tg (Itt K a) [it] it (fun i h=>h.IsTupleIter it a i) where
 mem:=by simp
 obj:=fun i h st b hb=>by
  have e:b=it:=by simpa using hb
  subst e
  obtain ⟨o,e,c,d⟩:=st
  exact ⟨o,e,fun v z=>by rw[d] at z;cases z⟩
 keep:=fun i h h' st k=>st.at fun o e=>k it (by simp) o e
 item:=by
  intro X hP hw hK hc i pins s σ H E I hf st hg
  subst hP hw hK
  obtain ⟨xs,x,hq,hx⟩:=hg
  obtain ⟨its,rv,p,hz⟩:=I.tuple hq
  obtain ⟨u,hu,ru⟩:=rv.get hx
  obtain ⟨f0,f1,f2,f3,f4,f5⟩:=hf it (by simp)
  refine wpAny_pyNext_tuple_item st (show s.heap.IsTuple a its.toArray from p) (x:=u) (by simpa using hu) fun h' st' sb=>?_
  have I1:Inv X pins σ H {s with heap:=h'}:=I.turned (t':=s.toks) (fun b o hb e=>(sb.2 b hb).trans e) f0 f1 f3 f4 f5
  obtain ⟨o,e,c,d⟩:=id st'
  exact ⟨u,rfl,go_of (s:={s with heap:=h'}) e c d (by decide) ⟨x,H,I1,ru,⟨rfl,fun ys hy=>by rw[I.tuple_inj hy hq];exact hx⟩,st',fun b hb=>(hf b hb).1⟩⟩
 done:=by
  intro X hP hw hK hc i pins s σ H E I hf st hg
  subst hP hw hK
  obtain ⟨xs,hq,hx⟩:=hg
  obtain ⟨its,rv,p,hz⟩:=I.tuple hq
  obtain ⟨f0,f1,f2,f3,f4,f5⟩:=hf it (by simp)
  have hl:=rv.length
  exact wpAny_pyNext_tuple_end (I.ok.hd hc) st (show s.heap.IsTuple a its.toArray from p) (by simp;(first|assumption|lia)) fun h' eb=>⟨rfl,I.turned (t':=s.toks) (fun b o hb e=>eb b o hb e) f0 f1 f3 f4 f5⟩
 self:=fun _ _ _ _ _ st h=>wpAny_pyIter_tupleiter st h
theorem zqg {P:Program} {w:World} {K:PySem.W.Frag} {tg:Expr} (it:Addr) (lo:Int) (n:Nat):Turn P w K tg (Itr lo n) [it] it (fun i h=>IsRangeIter h it (lo+(i:Nat) * 1) ((n:Int) - (i:Nat)) 1) where
 mem:=by simp
 obj:=fun i h st b hb=>by
  have e:b=it:=by simpa using hb
  subst e
  exact ⟨_,st,fun v z=>by
   have z':Data.fields _=Data.cell v:=z
   cases z'⟩
 keep:=fun i h h' st k=>k it (by simp) _ st
 item:=by
  intro X hP hw hK hc i pins s σ H E I hf st hg
  subst hP hw hK
  obtain ⟨f0,f1,f2,f3,f4,f5⟩:=hf it (by simp)
  have W:=Walks.range (prog:=X.prog) (w:=X.w) (I.ok.hd hc) it lo 1 n
  refine W.item i s _ _ hg st fun v h' tk hv st' kk=>?_
  obtain ⟨t,rfl⟩:=hv
  have I1:Inv X pins σ H {s with heap:=h',toks:=tk}:=I.turned (fun b o hb e=>kk b o (by simpa using hb) e) f0 f1 f3 f4 f5
  refine ⟨_, rfl, go_of (s := { s with heap := h', toks := tk }) (n := "range_iterator") st' rfl rfl (by decide) ⟨.int (lo + i), H, I1, ⟨t, ?_⟩, ⟨rfl, rfl⟩, st', fun b hb => (hf b hb).1⟩⟩
  rw[Int.mul_one]
 done:=by
  intro X hP hw hK hc i pins s σ H E I hf st hg
  subst hP hw hK
  obtain ⟨f0,f1,f2,f3,f4,f5⟩:=hf it (by simp)
  exact wpAny_pyNext_range_end (I.ok.hd hc) st (by have:n≤i:=hg;(first|assumption|lia)) fun h' eb=>⟨rfl,I.turned (t':=s.toks) (fun b o hb e=>eb b o hb e) f0 f1 f3 f4 f5⟩
 self:=fun _ _ _ _ _ st h=>wpAny_pyIter_rangeiter st h
end L2
namespace L2
open PySem PySem.Spec PyProof.Rows
section
variable {X:Cx} {tg:Expr}
noncomputable def iList (K:PySem.W.Frag) (tl:TE):TI:=fun σ H R=>tl σ H fun x H1=>∃a,x=.ref a∧(∃xs,SqL K H1 a xs)∧R (Itl K a) H1
noncomputable def iTup (K:PySem.W.Frag) (tl:TE):TI:=fun σ H R=>tl σ H fun x H1=>∃a,x=.ref a∧(∃xs,SqT K H1 a xs)∧R (Itt K a) H1
theorem zbbn {l:Expr} {tl:TE} (hl:PE X l tl):PI X tg l (iList X.K tl):=by
 intro pins s σ H R I h
 refine thn (hl pins s σ H _ I h) fun v s1 hq0=>?_
 obtain ⟨x,H1,I1,r1,q1⟩:=hq0
 obtain ⟨a,e,⟨xs,hq⟩,q⟩:=q1
 subst e
 cases r1
 obtain ⟨its,rv,p,hz⟩:=I1.list hq
 refine wpAny_pyIter_list p.isList ?_
 refine ⟨s1.heap.objs.size,[s1.heap.objs.size],_,_,H1,rfl,I1.kept (t':=s1.toks) fun b o e=>Heap.get?_push_of_some _ e,ztr a _,⟨_,Heap.get?_push_size _ rfl,rfl,rfl⟩,fun b hb=>?_,q⟩
 have e:b=s1.heap.objs.size:=by simpa using hb
 subst e
 exact I1.fpOk (Nat.le_refl _) (I1.hok.fresh (Nat.le_refl _))
theorem pi_tup {l:Expr} {tl:TE} (hl:PE X l tl):PI X tg l (iTup X.K tl):=by
 intro pins s σ H R I h
 refine thn (hl pins s σ H _ I h) fun v s1 hq0=>?_
 obtain ⟨x,H1,I1,r1,q1⟩:=hq0
 obtain ⟨a,e,⟨xs,hq⟩,q⟩:=q1
 subst e
 cases r1
 obtain ⟨its,rv,p,hz⟩:=I1.tuple hq
 refine wpAny_pyIter_tuple (show s1.heap.IsTuple a its.toArray from p) ?_
 refine ⟨s1.heap.objs.size,[s1.heap.objs.size],_,_,H1,rfl,I1.kept (t':=s1.toks) fun b o e=>Heap.get?_push_of_some _ e,zqf a _,⟨_,Heap.get?_push_size _ rfl,rfl,rfl⟩,fun b hb=>?_,q⟩
 have e:b=s1.heap.objs.size:=by simpa using hb
 subst e
 exact I1.fpOk (Nat.le_refl _) (I1.hok.fresh (Nat.le_refl _))
theorem zqu {pins:List (Addr × Obj)} {σ:St} {H:Hp} {s:Shared} {R:It→Hp→Prop} {E:Value→Shared→Prop} {lo hi:Int} {t u v:Tok} {tk:Nat} (I:Inv X pins σ H s) (h1:-(2 ^ 62)≤lo) (h2:lo < 2 ^ 62) (h3:-(2 ^ 62)≤hi) (h4:hi < 2 ^ 62)
  (q : R (Itr lo (hi - lo).toNat) H) : wpAny (model X.prog X.w) X.A (pyIter (.ref s.heap.objs.size)) (PIE X pins σ tg R) E { s with heap := s.heap.push { cls := .type "range", data := .fields #[.int lo t, .int hi u, .int 1 v] }, toks := tk } := by
 refine wpAny_pyIter_range (IsRange.new ..) (small_one h1 h2 h3 h4) ?_
 have I1 : Inv X pins σ H { s with heap := s.heap.push { cls := .type "range", data := .fields #[.int lo t, .int hi u, .int 1 v] }, toks := tk } := I.kept fun b o e => Heap.get?_push_of_some _ e
 refine ⟨(s.heap.push { cls := .type "range", data := .fields #[.int lo t, .int hi u, .int 1 v] }).objs.size, [(s.heap.push { cls := .type "range", data := .fields #[.int lo t, .int hi u, .int 1 v] }).objs.size], _, _, H, rfl,
  I1.kept (t':=tk) fun b o e=>Heap.get?_push_of_some _ e,zqg _ lo (hi - lo).toNat,?_,fun b hb=>?_,q⟩
 ·have e1:lo+((0:Nat):Int) * 1=lo:=by simp
  have e2:(((hi - lo).toNat:Nat):Int) - ((0:Nat):Int)=Builtin.Range.rangeSize lo hi 1:=by rw[rangeSize_one];split<;>(first|assumption|lia)
  show IsRangeIter _ _ (lo+((0:Nat):Int) * 1) ((((hi - lo).toNat:Nat):Int) - ((0:Nat):Int)) 1
  rw[e1,e2]
  exact Heap.get?_push_size _ rfl
 ·have e : b = (s.heap.push { cls := .type "range", data := .fields #[.int lo t, .int hi u, .int 1 v] }).objs.size := by simpa using hb
  subst e
  exact I1.fpOk (Nat.le_refl _) (I1.hok.fresh (Nat.le_refl _))
noncomputable def iRng1 (ta:TA):TI:=fun σ H R=>ta σ H fun vs H1=>∃j:Int,vs=[.int j]∧-(2 ^ 62)≤j∧j < 2 ^ 62∧R (Itr 0 j.toNat) H1
noncomputable def iRng2 (ta:TA):TI:=fun σ H R=>ta σ H fun vs H1=>∃i j:Int,vs=[.int i,.int j]∧(-(2 ^ 62)≤i∧i < 2 ^ 62∧-(2 ^ 62)≤j∧j < 2 ^ 62)∧R (Itr i (j - i).toNat) H1
theorem zul {a : Expr} {ta : TA} {p pos : Pos} (hg : Gl X "range") (hm : X.mg "range" = none) (ha : PA X [a] ta) (hs : starEach [a] X.env = [(false, eval a X.env)] := by rfl) : PI X tg (.Call (.Name "range" p) [a] [] pos) (iRng1 ta) := by
 intro pins s σ H R I h
 refine Call_ (ld_blt I hg hm boot_range (PyProof.Rows.callWith_type1 (thn (ha pos pins s σ H _ I h) fun us s1 hq0=>?_) hs rfl))
 obtain ⟨vs,H1,I1,r1,q1⟩:=hq0
 obtain ⟨j,e,q1,q2,q⟩:=q1
 subst e
 cases r1 with
 | cons r rr =>
  cases rr
  obtain ⟨t,rfl⟩:=r
  exact call_range_1 (zqu I1 (by (first|assumption|lia)) (by (first|assumption|lia)) q1 q2 (by simpa using q))
theorem zuk {a b : Expr} {ta : TA} {p pos : Pos} (hg : Gl X "range") (hm : X.mg "range" = none) (ha : PA X [a, b] ta) (hs : starEach [a, b] X.env = [(false, eval a X.env), (false, eval b X.env)] := by rfl) (hs2 : starEach [b] X.env = [(false, eval b X.env)] := by rfl) :
  PI X tg (.Call (.Name "range" p) [a, b] [] pos) (iRng2 ta) := by
 intro pins s σ H R I h
 refine Call_ (ld_blt I hg hm boot_range (PyProof.Rows.callWith_type1 (thn (ha pos pins s σ H _ I h) fun us s1 ⟨vs,H1,I1,r1,q1⟩=>?_) (by rw[hs,hs2]) (by rw[hs2];rfl)))
 obtain ⟨i,j,e,⟨q1,q2,q3,q4⟩,q⟩:=q1
 subst e
 cases r1 with
 | cons r rr =>
  cases rr with
  | cons r' rr =>
   cases rr
   obtain ⟨t,rfl⟩:=r
   obtain ⟨t',rfl⟩:=r'
   exact call_range_2 (zqu I1 q1 q2 q3 q4 q)
noncomputable def tFor (wi:TI) (g:TG) (tb:TS):TS:=fun D σ H=>wi σ H fun J H1=>∃W:Nat→Nat→St→Hp→Prop,(∃m,W 0 m σ H1)∧∀i m σ H,W i m σ H →
 (J.stop i H∧D.nx σ H)∨(J.go i H∧∃N:St→Hp→Prop,(∀σ' H',N σ' H'→∃m',m' < m∧W (i+1) m' σ' H')∧∀x H',J.yld i H x H'→g x σ H' fun σ2 H2=>tb {D with nx:=N,ct:=N,bk:=D.nx} σ2 H2)
noncomputable def pinsAt (fp:List Addr) (h:Heap):List (Addr × Obj):=fp.filterMap fun b=>(h.get? b).map fun o=>(b,o)
theorem zfk {fp:List Addr} {h:Heap} {b:Addr} {o:Obj} (hb:b∈fp) (e:h.get? b=some o):(b,o)∈pinsAt fp h:=List.mem_filterMap.mpr ⟨b,hb,by rw[e];rfl⟩
theorem zum {fp:List Addr} {h:Heap} {p:Addr × Obj} (hp:p∈pinsAt fp h):p.1∈fp∧h.get? p.1=some p.2:=by
 obtain ⟨b,hb,e⟩:=List.mem_filterMap.mp hp
 cases q:h.get? b with
 | none=>rw[q] at e;cases e
 | some o =>
  rw[q] at e
  have e':(b,o)=p:=Option.some.inj e
  subst e'
  exact ⟨hb,q⟩
theorem Inv.pinned {pins:List (Addr × Obj)} {σ:St} {H:Hp} {s:Shared} {fp:List Addr} (I:Inv X pins σ H s) (hf:∀b∈fp,FpOk X pins H b) (ho:∀b∈fp,∃o,s.heap.get? b=some o∧∀v,o.data≠.cell v):Inv X (pins++pinsAt fp s.heap) σ H s :=
 I.pins_of fun p hp=>(List.mem_append.mp hp).elim (fun z=>I.pin p (List.mem_append_right _ z)) fun z=>by
  obtain ⟨hb,e⟩:=zum z
  obtain ⟨f0,f1,f2,_⟩:=hf p.1 hb
  obtain ⟨o,e',d⟩:=ho p.1 hb
  rw[e] at e';cases e'
  exact ⟨e,f0,f1,f2,d⟩
theorem Inv.unpinned {pins pl:List (Addr × Obj)} {σ:St} {H:Hp} {s:Shared} (I:Inv X (pins++pl) σ H s):Inv X pins σ H s:=I.pins_of fun p hp=>I.pin p (List.mem_append_right _ (List.mem_append_left _ hp))
theorem ps_for {iter:Expr} {body:List Stmt} {wi:TI} {g:TG} {tb:TS} {pos:Pos} (hp:PassesOwn (model X.prog X.w) X.A X.env X.xe) (hc:X.calm=true) (hi:PI X tg iter wi) (hg:PG X tg g) (hb:PSs X body tb)
  (hs:∀x,foldedSetIterable iter X.env x=pure x:=by intro _;rfl):PS X (.For tg iter body [] pos) (tFor wi g tb):=by
 intro pins s σ H D I h
 refine wpAny_For (thn (hi pins s σ H _ I h) fun v s1 h1=>thn h1 fun itv s2 h2=>?_) hs
 obtain ⟨it,fp,tn,J,H2,e,I2,T,st2,f2,W,⟨m0,w0⟩,turn⟩:=h2
 subst e
 have stat:∀{H':Hp},(∀b∈fp,H' b=none)→∀b∈fp,FpOk X pins H' b:=fun hn b hb=>⟨hn b hb,(f2 b hb).2⟩
 refine codeAny_forLoop_any (fun n s'=>∃i σ' H',Inv X pins σ' H' s'∧tn i s'.heap∧(∀b∈fp,H' b=none)∧W i n σ' H') ?_ m0 ⟨0,σ,H2,I2,st2,fun b hb=>(f2 b hb).1,w0⟩
 rintro n s3 ⟨i,σ3,H3,I3,st3,fr3,w3⟩
 rcases turn i n σ3 H3 w3 with ⟨stop,qn⟩ | ⟨go,N,hN,step⟩
 ·refine wpAny_passesOwn hp (thn (T.done X rfl rfl rfl hc i pins s3 σ3 H3 X.xe I3 (stat fr3) st3 stop) fun r s4 hq0=>?_)
  obtain ⟨hr,I4⟩:=hq0
  subst hr
  exact wpAny_execs_nil ⟨σ3,H3,I4,qn⟩
 ·refine wpAny_passesOwn hp (thn (T.item X rfl rfl rfl hc i pins s3 σ3 H3 X.xe I3 (stat fr3) st3 go) fun r s4 hq0=>?_)
  obtain ⟨u,hr,h4⟩:=hq0
  subst hr
  refine wpAny_passesOwn hp (thn h4 fun _ s5 hq0=>?_)
  obtain ⟨x,H5,I5,r5,y5,st5,fr5⟩:=hq0
  have I5':=I5.pinned (stat fr5) (T.obj _ _ st5)
  refine wpAny_passesOwn hp (thn (hg _ s5 σ3 H5 x u _ I5' r5 (step x H5 y5)) fun _ s6 hq0=>?_)
  obtain ⟨σ6,H6,I6,q6⟩:=hq0
  refine wpAny_passesOwn hp (thn (hb _ s6 σ6 H6 _ I6 q6) fun f s7 q7=>?_)
  have again:∀{σ7:St} {H7:Hp},Inv X (pins++pinsAt fp s5.heap) σ7 H7 s7→N σ7 H7→∃m,m < n∧∃i σ' H',Inv X pins σ' H' s7∧tn i s7.heap∧(∀b∈fp,H' b=none)∧W i m σ' H':=fun {σ7 H7} I7 n7=>by
   obtain ⟨m',hm,w7⟩:=hN σ7 H7 n7
   refine ⟨m',hm,i+1,σ7,H7,I7.unpinned,T.keep _ _ _ st5 fun b hb o e=>(I7.pin (b,o) (List.mem_append_right _ (List.mem_append_right _ (zfk hb e)))).1,fun b hb=>?_,w7⟩
   obtain ⟨o,e,d⟩:=T.obj _ _ st5 b hb
   exact (I7.pin (b,o) (List.mem_append_right _ (List.mem_append_right _ (zfk hb e)))).2.1
  cases f with
  | next=>obtain ⟨σ7,H7,I7,n7⟩:=q7;exact again I7 n7
  | cont=>obtain ⟨σ7,H7,I7,n7⟩:=q7;exact again I7 n7
  | brk=>obtain ⟨σ7,H7,I7,q7⟩:=q7;exact ⟨σ7,H7,I7.unpinned,q7⟩
  | ret v=>obtain ⟨x7,σ7,H7,I7,r7,q7⟩:=q7;exact ⟨x7,σ7,H7,I7.unpinned,r7,q7⟩
end
end L2
namespace L2
open PySem PySem.Spec PyProof.Rows
noncomputable abbrev R2:=V→V→Hp→VK→Prop
noncomputable def OpR (X:Cx) (f:Value→Value→Sem Value) (r:R2):Prop :=
 ∀(pins:List (Addr × Obj)) (s:Shared) (σ:St) (H:Hp) (x y:V) (v u:Value) (Q:VK),Inv X pins σ H s→RelV x v→RelV y u→r x y H Q →
  wpAny (model X.prog X.w) X.A (f v u) (EP X pins σ Q) X.xe s
noncomputable def CallR (X:Cx) (f:Value) (r:List V→Hp→VK→Prop):Prop :=
 ∀(pins:List (Addr × Obj)) (s:Shared) (σ:St) (H:Hp) (xs:List V) (us:List Value) (Q:VK),Inv X pins σ H s→Vals xs us→r xs H Q →
  wpAny (model X.prog X.w) X.A (call f us) (EP X pins σ Q) X.xe s
noncomputable def TruR (X:Cx) (r:V→Hp→(Bool→Hp→Prop)→Prop):Prop :=
 ∀(pins:List (Addr × Obj)) (s:Shared) (σ:St) (H:Hp) (x:V) (v:Value) (Q:Bool→Hp→Prop),Inv X pins σ H s→RelV x v→r x H Q →
  wpAny (model X.prog X.w) X.A (truthy v) (TP X pins σ Q) X.xe s
noncomputable def tOp (r:R2) (ta tb:TE):TE:=fun σ H Q=>ta σ H fun x H1=>tb σ H1 fun y H2=>r x y H2 Q
noncomputable def rI (C:Int→Int→Prop) (g:Int→Int→V):R2:=fun x y H Q=>∃i j,x=.int i∧y=.int j∧C i j∧Q (g i j) H
noncomputable def rI0 (g:Int→Int→V):R2:=fun x y H Q=>∃i j,x=.int i∧y=.int j∧Q (g i j) H
section
variable {X:Cx} {a b c:Expr} {ta tb tc:TE} {pos:Pos}
theorem binT (ha:PE X a ta) (hb:PE X b tb) {pins:List (Addr × Obj)} {s:Shared} {σ:St} {H:Hp} {R:V→V→Hp→Prop} (I:Inv X pins σ H s)
  (h:ta σ H fun x H1=>tb σ H1 fun y H2=>R x y H2) {Q:Value→Shared→Prop} {f:Value→Value→Sem Value}
  (hf:∀v u s2 x y H2,Inv X pins σ H2 s2→RelV x v→RelV y u→R x y H2→wpAny (model X.prog X.w) X.A (f v u) Q X.xe s2) :
  wpAny (model X.prog X.w) X.A (eval a X.env) (fun v s₁=>wpAny (model X.prog X.w) X.A (eval b X.env) (fun u s₂=>wpAny (model X.prog X.w) X.A (f v u) Q X.xe s₂) X.xe s₁) X.xe s:=by
 refine thn (ha pins s σ H _ I h) fun v s1 hq0=>?_
 obtain ⟨x,H1,I1,r1,q1⟩:=hq0
 refine thn (hb pins s1 σ H1 _ I1 q1) fun u s2 hq0=>?_
 obtain ⟨y,H2,I2,r2,q2⟩:=hq0
 exact hf v u s2 x y H2 I2 r1 r2 q2
theorem pe_op {op:Operator} {r:R2} (ho:OpR X (binaryOp op) r) (ha:PE X a ta) (hb:PE X b tb):PE X (.BinOp a op b pos) (tOp r ta tb):=by
 intro pins s σ H Q I h
 exact wpAny_BinOp (binT ha hb I h fun v u s2 x y H2 I2 rx ry q=>ho pins s2 σ H2 x y v u Q I2 rx ry q)
theorem opI {f:Value→Value→Sem Value} {C:Int→Int→Prop} {g:Int→Int→Int}
  (rule:∀(i j:Int) (t u:Tok) (s:Shared) (Q:Value→Shared→Prop) (E:Value→Shared→Prop),C i j→Q (.int (g i j) s.toks) {s with toks:=s.toks+1}→wpAny (model X.prog X.w) X.A (f (.int i t) (.int j u)) Q E s) :
  OpR X f (rI C fun i j=>.int (g i j)):=by
 intro pins s σ H x y v u Q I rx ry h
 obtain ⟨i,j,rfl,rfl,hc,q⟩:=h
 obtain ⟨t,rfl⟩:=rx
 obtain ⟨t',rfl⟩:=ry
 exact rule i j t t' s _ _ hc ⟨.int (g i j),H,I.tok _,⟨_,rfl⟩,q⟩
theorem opI0 {f:Value→Value→Sem Value} {g:Int→Int→Int}
  (rule:∀(i j:Int) (t u:Tok) (s:Shared) (Q:Value→Shared→Prop) (E:Value→Shared→Prop),Q (.int (g i j) s.toks) {s with toks:=s.toks+1}→wpAny (model X.prog X.w) X.A (f (.int i t) (.int j u)) Q E s) :
  OpR X f (rI0 fun i j=>.int (g i j)):=by
 intro pins s σ H x y v u Q I rx ry h
 obtain ⟨i,j,rfl,rfl,q⟩:=h
 obtain ⟨t,rfl⟩:=rx
 obtain ⟨t',rfl⟩:=ry
 exact rule i j t t' s _ _ ⟨.int (g i j),H,I.tok _,⟨_,rfl⟩,q⟩
theorem opB0 {f:Value→Value→Sem Value} {g:Int→Int→Bool}
  (rule:∀(i j:Int) (t u:Tok) (s:Shared) (Q:Value→Shared→Prop) (E:Value→Shared→Prop),Q (.bool (g i j)) s→wpAny (model X.prog X.w) X.A (f (.int i t) (.int j u)) Q E s) :
  OpR X f (rI0 fun i j=>.bl (g i j)):=by
 intro pins s σ H x y v u Q I rx ry h
 obtain ⟨i,j,rfl,rfl,q⟩:=h
 obtain ⟨t,rfl⟩:=rx
 obtain ⟨t',rfl⟩:=ry
 exact rule i j t t' s _ _ ⟨.bl (g i j),H,I,rfl,q⟩
noncomputable def CPow (i j:Int):Prop:=0≤j∧j≤1000000∧i.natAbs < 2 ^ 64
noncomputable def CMul (i j:Int):Prop:=(-(2 ^ 64) < i∧i < 2 ^ 64)∨(-(2 ^ 64) < j∧j < 2 ^ 64)
theorem CMul.ok {i j:Int} (h:CMul i j):IntMulOk i j:=by
 rcases h with ⟨h1,h2⟩ | ⟨h1,h2⟩
 ·exact .of_left (intBits_le_64 h1 h2)
 ·exact .of_right (intBits_le_64 h1 h2)
theorem op_add:OpR X (binaryOp .Add) (rI0 fun i j=>.int (i+j)):=opI0 fun _ _ _ _ _ _ _ q=>add_int q
theorem op_sub:OpR X (binaryOp .Sub) (rI0 fun i j=>.int (i - j)):=opI0 fun _ _ _ _ _ _ _ q=>sub_int q
theorem op_mul:OpR X (binaryOp .Mult) (rI CMul fun i j=>.int (i * j)):=opI fun _ _ _ _ _ _ _ hc q=>mul_int q hc.ok
theorem op_mod:OpR X (binaryOp .Mod) (rI (fun _ j=>0 < j) fun i j=>.int (i % j)):=opI fun i j _ _ _ _ _ hc q=>by
 have h1:(0:Int) < j:=hc
 exact mod_int' (by (first|assumption|lia)) (by rw[Int.fmod_eq_emod_of_nonneg i (by (first|assumption|lia))];exact q)
theorem op_pow:OpR X (binaryOp .Pow) (rI CPow fun i j=>.int (i ^ j.toNat)):=opI fun _ _ _ _ _ _ _ hc q=>pow_int_small hc.1 hc.2.1 hc.2.2 q
theorem op_and:OpR X (binaryOp .BitAnd) (rI0 fun i j=>.int (Builtin.bitAnd i j)):=opI0 fun _ _ _ _ _ _ _ q=>and_int q
theorem fin_bl {pins:List (Addr × Obj)} {σ:St} {H:Hp} {s:Shared} {Q:VK} {k k':Bool} (I:Inv X pins σ H s) (q:Q (.bl k) H) (e:k=k'):EP X pins σ Q (.bool k') s:=by
 subst e
 exact ⟨.bl k,H,I,rfl,q⟩
theorem op_lt:OpR X (compareOp .Lt) (rI0 fun i j=>.bl (decide (i < j))):=opB0 fun _ _ _ _ _ _ _ q=>lt_int q
theorem op_le:OpR X (compareOp .LtE) (rI0 fun i j=>.bl (decide (i≤j))):=opB0 fun _ _ _ _ _ _ _ q=>le_int q
theorem op_gt:OpR X (compareOp .Gt) (rI0 fun i j=>.bl (decide (j < i))):=opB0 fun _ _ _ _ _ _ _ q=>gt_int q
theorem op_isN:OpR X (compareOp .Is) (fun x y H Q=>y=.non∧Q (.bl (decide (x=.non))) H):=by
 intro pins s σ H x y v u Q I rx ry h
 obtain ⟨rfl,q⟩:=h
 cases ry
 refine is_none_gen (fin_bl I q ?_)
 cases x<;>first
  | (cases rx;rfl)
  | (obtain ⟨t,rfl⟩:=rx;rfl)
theorem OpR.or {f:Value→Value→Sem Value} {r r':R2} (h:OpR X f r) (h':OpR X f r'):OpR X f (fun x y H Q=>r x y H Q∨r' x y H Q):=by
 intro pins s σ H x y v u Q I rx ry q
 rcases q with q | q
 ·exact h pins s σ H x y v u Q I rx ry q
 ·exact h' pins s σ H x y v u Q I rx ry q
theorem nomark (b:Expr) {op:CmpOp} (h:op≠.In:=by decide) (h2:op≠.NotIn:=by decide):behindInMarks op b=false:=by
 have e1:(op == CmpOp.In)=false:=by cases op<;>first | rfl | exact absurd rfl h
 have e2:(op == CmpOp.NotIn)=false:=by cases op<;>first | rfl | exact absurd rfl h2
 cases b<;>simp[behindInMarks,e1,e2]
theorem zbbt {op:CmpOp} {r:R2} (ho:OpR X (compareOp op) r) (ha:PE X a ta) (hb:PE X b tb) (hm:behindInMarks op b=false):PE X (.Compare a [op] [b] pos) (tOp r ta tb):=by
 intro pins s σ H Q I h
 exact wpAny_Compare1 (binT ha hb I h fun v u s2 x y H2 I2 rx ry q=>ho pins s2 σ H2 x y v u Q I2 rx ry q) hm
noncomputable def tTest (t:TE):TT:=fun σ H Q=>t σ H fun x H'=>∃k,x=.bl k∧Q k H'
theorem zbbd {op:CmpOp} {r:R2} (ho:OpR X (compareOp op) r) (ha:PE X a ta) (hb:PE X b tb) (hm:behindInMarks op b=false):PT X (.Compare a [op] [b] pos) (tTest (tOp r ta tb)):=by
 intro pins s σ H Q I h
 refine wpAny_isTrue_Compare1 (thn (ha pins s σ H _ I h) fun v s1 ⟨x,H1,I1,r1,q1⟩=>thn (hb pins s1 σ H1 _ I1 q1) fun u s2 ⟨y,H2,I2,r2,q2⟩ =>
  thn (ho pins s2 σ H2 x y v u _ I2 r1 r2 q2) fun c s3 ⟨z,H3,I3,r3,k,e,q3⟩=>?_) hm
 subst e
 cases r3
 exact wpAny_truthy_bool ⟨H3,I3,q3⟩
noncomputable def TruV (K:PySem.W.Frag) (x:V) (H:Hp) (k:Bool):Prop :=
 match x with
 | .non=>k=false
 | .bl b=>k=b
 | .int i=>k=(i != 0)
 | .str y=>y.length≤sizeLine∧k=((y.length:Int) != 0)
 | .byt y=>y.size≤sizeLine∧k=((y.size:Int) != 0)
 | .ref p=>(∃xs,SqL K H p xs∧k=!xs.isEmpty)∨(∃xs,SqT K H p xs∧k=!xs.isEmpty)∨∃kvs,H p=some (.dK kvs)∧k=!kvs.isEmpty
 | _=>False
theorem zsi {κ:Type} {kvs:List (κ × V)} {vs:List (κ × Value)} (r:KV kvs vs):(!vs.isEmpty)=!kvs.isEmpty:=by
 cases r<;>rfl
theorem zlt {xs:List V} {its:List Value} (r:Vals xs its):(!its.toArray.isEmpty)=!xs.isEmpty:=by
 cases r<;>simp
theorem line63:(sizeLine:Nat) < 2 ^ 63:=by rw[sizeLine_eq];decide
theorem tru_ok:TruR X (fun x H Q=>∃k,TruV X.K x H k∧Q k H):=by
 intro pins s σ H x v Q I rx h
 obtain ⟨k,e,q⟩:=h
 have hl:=line63
 have hs:sizeLine=16777216:=sizeLine_eq
 cases x with
 | non =>
  cases rx
  have e':k=false:=e
  subst e'
  exact truthy_none ⟨H,I,q⟩
 | bl b =>
  cases rx
  have e':k=b:=e
  subst e'
  exact wpAny_truthy_bool ⟨H,I,q⟩
 | int i =>
  obtain ⟨t,rfl⟩:=rx
  have e':k=(i != 0):=e
  subst e'
  exact PySem.P.truthy_int ⟨H,I,q⟩
 | str y =>
  obtain ⟨t,rfl⟩:=rx
  obtain ⟨hy,e'⟩:y.length≤sizeLine∧k=((y.length:Int) != 0):=e
  subst e'
  exact PySem.P.truthy_str (by (first|assumption|lia)) ⟨H,I.tok _,q⟩
 | byt y =>
  obtain ⟨t,rfl⟩:=rx
  obtain ⟨hy,e'⟩:y.size≤sizeLine∧k=((y.size:Int) != 0):=e
  subst e'
  exact PySem.W.truthy_bytes (by (first|assumption|lia)) ⟨H,I.tok _,q⟩
 | ref p =>
  cases rx
  have e':(∃xs,SqL X.K H p xs∧k=!xs.isEmpty)∨(∃xs,SqT X.K H p xs∧k=!xs.isEmpty)∨∃kvs,H p=some (.dK kvs)∧k=!kvs.isEmpty:=e
  rcases e' with ⟨xs,hx,e'⟩ | ⟨xs,hx,e'⟩ | ⟨kvs,hx,e'⟩
  ·subst e'
   obtain ⟨its,r,pl,hz⟩:=I.list hx
   have hlen:=r.length
   exact wpAny_truthy_list pl.isList (by simp only[List.size_toArray];(first|assumption|lia)) ⟨H,I.tok _,by rw[zlt r];exact q⟩
  ·subst e'
   obtain ⟨its,r,pl,hz⟩:=I.tuple hx
   have hlen:=r.length
   exact truthy_tuple pl (by simp only[List.size_toArray];(first|assumption|lia)) ⟨H,I.tok _,by rw[zlt r];exact q⟩
  ·subst e'
   obtain ⟨hz,hS,vs,r,m⟩:kvs.length≤sizeLine∧(p == sysModules)=false∧∃vs,KV kvs vs∧s.heap.DictOf (mixKind X.prog X.w) p vs:=I.hok p _ hx
   have hlen:kvs.length=vs.length:=Paired.length r
   exact wpAny_truthy_dict hS m (by (first|assumption|lia)) ⟨H,I.tok _,by rw[zsi r];exact q⟩
 | _=>exact (show False from e).elim
theorem zyg (ha:PE X a ta) (he:∀whole,isTrue a X.env whole=(do let v ← whole;standAt a.pos;holding [v] (truthy v))) :
  PT X a (fun σ H Q=>ta σ H fun x H'=>∃k,TruV X.K x H' k∧Q k H'):=by
 intro pins s σ H Q I h
 exact isTrue_plain (thn (ha pins s σ H _ I h) fun v s1 ⟨x,H1,I1,r1,q1⟩=>tru_ok pins s1 σ H1 x v Q I1 r1 q1) (he _)
theorem zrd:OpR X (binaryOp .Add) (fun x y H Q=>∃i j,x=.str i∧y=.str j∧i.length+j.length≤sizeLine∧Q (.str (i++j)) H):=by
 intro pins s σ H x y v u Q I rx ry h
 obtain ⟨i,j,rfl,rfl,hz,q⟩:=h
 obtain ⟨t,rfl⟩:=rx
 obtain ⟨t',rfl⟩:=ry
 exact add_str (fun t' tk=>⟨.str (i++j),H,I.tok _,⟨_,rfl⟩,q⟩) hz
theorem vals1 {x:V} {us:List Value} (r:Vals [x] us):∃u,us=[u]∧RelV x u:=by
 cases r with
 | cons r1 r2=>cases r2;exact ⟨_,rfl,r1⟩
theorem vals2 {x y:V} {us:List Value} (r:Vals [x,y] us):∃u w',us=[u,w']∧RelV x u∧RelV y w':=by
 cases r with
 | cons r1 r2 =>
  cases r2 with
  | cons r3 r4=>cases r4;exact ⟨_,_,rfl,r1,r3⟩
theorem zbag : CallR X (.builtin "abs") (fun xs H Q => ∃ i, xs = [.int i] ∧ Q (.int (if i < 0 then -i else i)) H) := by
 intro pins s σ H xs us Q I r h
 obtain ⟨i,rfl,q⟩:=h
 obtain ⟨u,rfl,t,rfl⟩:=vals1 r
 exact call_abs_int fun u tk=>⟨.int (if i < 0 then -i else i),H,I.tok _,⟨_,rfl⟩,q⟩
theorem zwc (hc : X.calm = true) : CallR X (.builtin "max") (fun xs H Q => ∃ i j, xs = [.int i, .int j] ∧ Q (.int (if j > i then j else i)) H) := by
 intro pins s σ H xs us Q I r h
 obtain ⟨i,j,rfl,q⟩:=h
 obtain ⟨u,w',rfl,⟨t,rfl⟩,⟨t',rfl⟩⟩:=vals2 r
 refine max_two_ints (I.ok.hd hc) fun h' tk k=>⟨_,H,I.kept k,?_,q⟩
 by_cases hj:j > i
 ·rw[if_pos hj,if_pos hj];exact ⟨_,rfl⟩
 ·rw[if_neg hj,if_neg hj];exact ⟨_,rfl⟩
theorem zen (hc : X.calm = true) : CallR X (.builtin "min") (fun xs H Q => ∃ i j, xs = [.int i, .int j] ∧ Q (.int (if j < i then j else i)) H) := by
 intro pins s σ H xs us Q I r h
 obtain ⟨i,j,rfl,q⟩:=h
 obtain ⟨u,w',rfl,⟨t,rfl⟩,⟨t',rfl⟩⟩:=vals2 r
 refine min_two_ints (I.ok.hd hc) fun h' tk k=>⟨_,H,I.kept k,?_,q⟩
 by_cases hj:j < i
 ·rw[if_pos hj,if_pos hj];exact ⟨_,rfl⟩
 ·rw[if_neg hj,if_neg hj];exact ⟨_,rfl⟩
theorem zkn : CallR X (.type "int") (fun xs H Q => (∃ i, xs = [.int i] ∧ Q (.int i) H) ∨ ∃ k, xs = [.bl k] ∧ Q (.int (if k then 1 else 0)) H) := by
 intro pins s σ H xs us Q I r h
 rcases h with ⟨i,rfl,q⟩ | ⟨k,rfl,q⟩
 ·obtain ⟨u,rfl,t,rfl⟩:=vals1 r
  exact call_int_int ⟨.int i,H,I,⟨_,rfl⟩,q⟩
 ·obtain ⟨u,rfl,r1⟩:=vals1 r
  cases r1
  exact call_int_bool ⟨.int (if k then 1 else 0),H,I.tok _,⟨_,rfl⟩,q⟩
end
end L2
namespace L2
open PySem PySem.Spec PyProof.Rows
structure ObjM (h:Heap) (x dx C:Addr) (mA:Str→Option Value):Prop where
 obj:h.get? x=some (PySem.W.instObj C dx)
 ns:h.Ns1 dx mA
 ne:dx≠x
theorem zuy {h:Heap} {dx:Addr} {mA:Str→Option Value} (n:h.Ns1 dx mA):∃od,h.get? dx=some od∧∀name,PySem.W.lookIn name od=some (mA name):=by
 obtain ⟨o,es,ep,ho,hd,hk,_,hm⟩:=n
 refine ⟨o,ho,fun name=>?_⟩
 have e:=hm name
 unfold nsFind findBy at e
 rw[← Array.find?_toList] at e
 unfold PySem.W.lookIn
 rw[hd]
 dsimp only
 split
 ·rename_i y q
  rw[q] at e
  exact congrArg some e
 ·rename_i q
  rw[q] at e
  have a:es.toList.any (·.refKey)=false:=by
   rw[List.any_eq_false]
   intro y hy
   obtain ⟨z,t,hkey⟩:=hk y (Array.mem_toList_iff.mp hy)
   simp[DictEntry.refKey,hkey]
  have a':¬ es.toList.any (·.refKey)=true:=by rw[a];exact Bool.false_ne_true
  rw[if_neg a']
  exact congrArg some e
theorem ObjM.look {h:Heap} {x dx C:Addr} {mA:Str→Option Value} (I:ObjM h x dx C mA):∃od,PySem.W.InstAt h x (PySem.W.instObj C dx) C (some od)∧∀name,PySem.W.lookIn name od=some (mA name) :=
 let ⟨od,ho,hl⟩:=zuy I.ns
 ⟨od,⟨I.obj,rfl,rfl,ho⟩,hl⟩
section
variable {prog:Program} {w:World} {A:Around} {E:Value→Shared→Prop} {s:Shared} {K:PySem.W.Frag} {x dx C f:Addr} {mA:Str→Option Value} {name:Str} {v:Value}
end
theorem RelO.some_of {v:V} {o:Option Value} (r:RelO (some v) o):∃u,o=some u∧RelV v u:=by
 cases o with
 | none=>exact (show False from r).elim
 | some u=>exact ⟨u,rfl,r⟩
section
variable {P:Program} {w:World} {H H':Hp} {h h':Heap} {a C dx:Addr} {fs fs':List (Str × V)}
theorem zbco (hok:HOk P w H h) (e:H a=some (.ins C dx fs)):∃mA,ObjM h a dx C mA∧(∀f,RelO (fs.lookup f) (mA f))∧PySem.Within mA (fs.map (·.1))∧fs.length≤1000∧H dx=some (.own a):=by
 obtain ⟨d,z,ne,ob,mA,n,r,q⟩:=(show ObjOk P w H h a (.ins C dx fs) from hok a _ e)
 exact ⟨mA,⟨ob,n,ne⟩,r,q,z,d⟩
end
structure Cls (K:PySem.W.Frag) (C:Addr):Prop where
 pg:PySem.W.plainGet K C Str.empty=true
 hd:PySem.W.hasDictIn K C=true
 po:PySem.W.plainOver K C=true
 sa : PySem.W.findIn K (.ref C) "__setattr__" = some (some (.builtin "object.__setattr__"))
theorem Cls.get {K:PySem.W.Frag} {C:Addr} (c:Cls K C) (f:Str):PySem.W.plainGet K C f=true:=c.pg
section
variable {X:Cx} {pins:List (Addr × Obj)} {σ:St} {H:Hp} {s:Shared} {a C dx:Addr} {fs:List (Str × V)} {f:Str} {v:V} {A:Around} {E:Value→Shared→Prop}
end
section
variable {X:Cx} {o e value:Expr} {f:Str} {pos pos' tpos:Pos} {ta tv:TE}
end
section
variable {X:Cx} {pins:List (Addr × Obj)} {σ:St} {H:Hp} {s:Shared} {A:Around} {E:Value→Shared→Prop} {Q:Value→Shared→Prop} {c:Value} {b:Bool}
inductive TyOf (K:PySem.W.Frag) (H:Hp):V→Value→Prop where
 | non : TyOf K H .non (.type "NoneType")
 | bl (x : Bool) : TyOf K H (.bl x) (.type "bool")
 | int (i : Int) : TyOf K H (.int i) (.type "int")
 | str (x : Str) : TyOf K H (.str x) (.type "str")
 | flt (x : UInt64) : TyOf K H (.flt x) (.type "float")
 | lst {a : Addr} {xs : List V} (e : H a = some (.lst xs)) : TyOf K H (.ref a) (.type "list")
 | frz {a : Addr} {o : Obj} {xs : List V} (e : H a = some (.frz o (.lst xs))) : TyOf K H (.ref a) (.type "list")
 | tup {a : Addr} {xs : List V} (e : H a = some (.tup xs)) : TyOf K H (.ref a) (.type "tuple")
 | dK {a : Addr} {kvs : List (Key × V)} (e : H a = some (.dK kvs)) : TyOf K H (.ref a) (.type "dict")
 | dT {a : Addr} {kvs : List (List Key × V)} (e : H a = some (.dT kvs)) : TyOf K H (.ref a) (.type "dict")
 | ins {a C dx : Addr} {fs : List (Str × V)} (e : H a = some (.ins C dx fs)) (cl : Cls K C) (ha : PySem.W.findIn K (.ref C) "__class__" = some (some (.builtin "object.__class__")))
  (hn : PySem.W.specialIn K (.builtin "object.__class__") "__get__" = some (some (.builtin "getset_descriptor.__get__"))) (htk : PySem.W.takesIn K (.builtin "object.__class__") = some true)
  (hm : PySem.W.mroIn K C (.type "object") = some true) : TyOf K H (.ref a) (.ref C)
theorem zvh {x:V} {u t:Value} (I:Inv X pins σ H s) (rx:RelV x u) (ty:TyOf X.K H x t) (e:PySem.W.kitOne X.K t c=some b) (h:∀tk,Q (.bool b) {s with toks:=tk}) :
  wpAny (model X.prog X.w) A (call (.builtin "isinstance") [u, c]) Q E s := by
 cases ty with
 | non=>cases (show u=Value.none from rx);exact PySem.W.kia_one PySem.W.kitx_none I.kIn True.intro e (fun z=>nomatch z) h
 | bl y=>cases (show u=Value.bool y from rx);exact PySem.W.kia_one PySem.W.kitx_bool I.kIn True.intro e (fun z=>nomatch z) h
 | int i=>obtain ⟨t,q⟩:=(show ∃t,u=Value.int i t from rx);cases q;exact PySem.W.kia_one PySem.W.kitx_int I.kIn True.intro e (fun z=>nomatch z) h
 | str y=>obtain ⟨t,q⟩:=(show ∃t,u=Value.str y t from rx);cases q;exact PySem.W.kia_one PySem.W.kitx_str I.kIn True.intro e (fun z=>nomatch z) h
 | flt y=>obtain ⟨t,q⟩:=(show ∃t,u=Value.float y t from rx);cases q;exact PySem.W.kia_one PySem.W.kitx_float I.kIn True.intro e (fun z=>nomatch z) h
 | @lst a xs ea =>
  cases (show u=Value.ref a from rx)
  obtain ⟨_,_,n,_,h1⟩:=(show ObjOk X.prog X.w H s.heap a (.lst xs) from I.hok a _ ea)
  exact PySem.W.kia_one PySem.W.kitx_list I.kIn ⟨_,h1,rfl⟩ e (fun z=>nomatch z) h
 | @frz a ob xs ea =>
  cases (show u=Value.ref a from rx)
  obtain ⟨_,_,_,n,_,h1⟩:=(show ObjOk X.prog X.w H s.heap a (.frz ob (.lst xs)) from I.hok a _ ea)
  exact PySem.W.kia_one PySem.W.kitx_list I.kIn ⟨_,h1,rfl⟩ e (fun z=>nomatch z) h
 | @tup a xs ea =>
  cases (show u=Value.ref a from rx)
  obtain ⟨_,_,_,p⟩:=(show ObjOk X.prog X.w H s.heap a (.tup xs) from I.hok a _ ea)
  obtain ⟨o,h1,h2,_⟩:=p
  exact PySem.W.kia_one PySem.W.kitx_tuple I.kIn ⟨o,h1,h2⟩ e (fun z=>nomatch z) h
 | @dK a kvs ea =>
  cases (show u=Value.ref a from rx)
  obtain ⟨_,_,vs,_,p⟩:=(show ObjOk X.prog X.w H s.heap a (.dK kvs) from I.hok a _ ea)
  obtain ⟨o,es,ep,h1,h2,_⟩:=p
  exact PySem.W.kia_one PySem.W.kitx_dict I.kIn ⟨o,h1,h2.1⟩ e (fun z=>nomatch z) h
 | @dT a kvs ea =>
  cases (show u=Value.ref a from rx)
  obtain ⟨_,_,xs,_,o,es,ep,h1,h2,_⟩:=(show ObjOk X.prog X.w H s.heap a (.dT kvs) from I.hok a _ ea)
  exact PySem.W.kia_one PySem.W.kitx_dict I.kIn ⟨o,h1,h2.1⟩ e (fun z=>nomatch z) h
 | @ins a C dx fs ea cl ha hn htk hm =>
  cases (show u=Value.ref a from rx)
  obtain ⟨mA,O,_⟩:=zbco I.hok ea
  obtain ⟨od,J,_⟩:=O.look
  exact PySem.W.kia_one (PySem.W.kitx_own (cl.get _) cl.hd ha hn htk hm) I.kIn J e (fun z=>nomatch z) h
end
end L2
namespace L2
open PySem PySem.Spec PyProof.Rows
structure Room (k:Nat) (A:Around):Prop where
 hd:A.handled=none
 dp:A.depth+3 * k+5 < recursionLimit
 un:A.units+16 * k+200 < cLine
theorem Room.mono {j k:Nat} {A:Around} (r:Room k A) (h:j≤k):Room j A:=⟨r.hd,by have:=r.dp;(first|assumption|lia),by have:=r.un;(first|assumption|lia)⟩
theorem Room.deeper {k:Nat} {A:Around} (r:Room (k+1) A) (env:Env):Room k (A.deeper env) :=
 ⟨r.hd,by have:=r.dp;show A.depth+1+3 * k+5 < _;(first|assumption|lia),by have:=r.un;show A.units+3+16 * k+200 < _;(first|assumption|lia)⟩
theorem Room.depth {k:Nat} {A:Around} (r:Room k A):A.depth < recursionLimit:=by have:=r.dp;(first|assumption|lia)
theorem Room.units {k:Nat} {A:Around} (r:Room k A):A.units+64 < cLine:=by have:=r.un;(first|assumption|lia)
theorem Room.units0 {k:Nat} {A:Around} (r:Room k A):A.units < cLine:=by have:=r.un;(first|assumption|lia)
noncomputable def tNil:TA:=fun _ H Q=>Q [] H
noncomputable def tCons (ta:TE) (tr:TA):TA:=fun σ H Q=>ta σ H fun x H1=>tr σ H1 fun xs H2=>Q (x::xs) H2
section
variable {X:Cx} {e:Expr} {es:List Expr} {te:TE} {t:TA} {pos:Pos}
theorem pa_nil:PA X [] tNil:=fun _ _ _ _ H Q I h=>Calls.spliced_nil ⟨[],H,I,.nil,h⟩
theorem zwp (ha:PE X e te) (hr:PA X es t) (hs:starEach (e::es) X.env=(false,eval e X.env)::starEach es X.env:=by rfl):PA X (e::es) (tCons te t):=by
 intro pos pins s σ H Q I h
 rw[hs]
 show wpAny _ _ (spliced ((false,eval e X.env)::backTo pos (starEach es X.env))) _ _ s
 refine Calls.spliced_cons (thn (ha pins s σ H _ I h) fun u s1 hq0=>?_)
 obtain ⟨x,H1,I1,r1,q1⟩:=hq0
 exact thn (hr pos pins s1 σ H1 _ I1 q1) fun us s2 ⟨xs,H2,I2,r2,q2⟩=>⟨x::xs,H2,I2,.cons r1 r2,q2⟩
noncomputable def tTup (t:TA):TE:=fun σ H Q=>t σ H fun xs H1=>xs.length≤sizeLine∧∀p,H1 p=none→Q (.ref p) (upd H1 p (.tup xs))
noncomputable def tLst (t:TA):TE:=fun σ H Q=>t σ H fun xs H1=>xs.length≤sizeLine∧∀p,H1 p=none→Q (.ref p) (upd H1 p (.lst xs))
theorem pe_tup {x1} (h:PA X es t):PE X (.Tuple es x1 pos) (tTup t):=by
 intro pins s σ H Q I hq
 refine wpAny_Tuple_spliced (thn (h pos pins s σ H _ I hq) fun us s1 ⟨xs,H1,I1,r,z,q⟩=>⟨by rw[← r.length];exact z,?_⟩)
 have hf:H1 s1.heap.objs.size=none:=I1.hok.fresh (Nat.le_refl _)
 refine ⟨.ref s1.heap.objs.size,upd H1 s1.heap.objs.size (.tup xs),I1.laid (t':=s1.toks) (fun b u e=>Heap.get?_push_of_some _ e) (Nat.le_refl _) ?_,rfl,q _ hf⟩
 exact ⟨z,us,r,⟨_,Heap.get?_push_size _ rfl,rfl,_,rfl⟩⟩
theorem pe_lst (h:PA X es t):PE X (.List es pos) (tLst t):=by
 intro pins s σ H Q I hq
 refine wpAny_List_spliced (thn (h pos pins s σ H _ I hq) fun us s1 ⟨xs,H1,I1,r,z,q⟩=>⟨by rw[← r.length];exact z,?_⟩)
 have hf:H1 s1.heap.objs.size=none:=I1.hok.fresh (Nat.le_refl _)
 refine ⟨.ref s1.heap.objs.size,upd H1 s1.heap.objs.size (.lst xs),I1.laid (t':=s1.toks) (fun b u e=>Heap.get?_push_of_some _ e) (Nat.le_refl _) ?_,rfl,q _ hf⟩
 exact ⟨z,us,0,r,Heap.get?_push_size _ rfl⟩
end
noncomputable abbrev Sp:=List V→Hp→VK→XK→Prop
noncomputable abbrev CXT:=List Env→Hp→Shared→XK→Value→Shared→Prop
structure Env0 (P:Program) (w:World) (K:PySem.W.Frag) (mg:Str→Option Value) (base:Heap) (A:Around) (outer:List Env) (s:Shared) (H:Hp):Prop where
 frames:A.frames=some outer
 mod:Mod K mg base
 bs:∀b o,base.get? b=some o→s.heap.get? b=some o∧H b=none
 bsz:base.objs.size≤s.heap.objs.size
 funs:s.heap.FunFrames base outer
 frf:∀b∈frs outer,H b=none
 hok:HOk P w H s.heap
 bare:AllBare s.gens
noncomputable def CE (outer:List Env) (P:Program) (w:World) (H:Hp) (s:Shared) (Q:VK) (u:Value) (s':Shared):Prop :=
 ∃v H',s'.os=s.os∧AllBare s'.gens∧Un (frs outer) [] H H' s.heap s'.heap∧HOk P w H' s'.heap∧RelV v u∧Q v H'
noncomputable def CR (CX:CXT) (outer:List Env) (P:Program) (w:World) (H:Hp) (s:Shared) (Q:VK) (E:XK) (r:Result) (s':Shared):Prop :=
 match r with
 | .ok (.ret u)=>CE outer P w H s Q u s'
 | .ok _=>False
 | .error e=>CX outer H s E e s'
structure FnOk (P:Program) (w:World) (K:PySem.W.Frag) (mg:Str→Option Value) (base:Heap) (CX:CXT) (k:Nat) (f:Addr) (fd:FuncData) (ps:List Str) (sp:Sp):Prop where
 len:∀vs H Q E,sp vs H Q E→vs.length=ps.length
 run:∀(A:Around) (outer:List Env) (s:Shared) (H:Hp) (args:Args) (us:List Value) (vs:List V) (Q:VK) (E:XK),Room k A→Env0 P w K mg base A outer s H→BindsTo s fd args (ps.zip us)→Vals vs us→sp vs H Q E →
  codeAny (model P w) A (.call (.ref f) args) (CR CX outer P w H s Q E) s
section
variable {X:Cx} {pins:List (Addr × Obj)} {σ:St} {H:Hp} {s s':Shared}
theorem Inv.env0 (I:Inv X pins σ H s):Env0 X.prog X.w X.K X.mg X.base X.A X.stack s H :=
 ⟨I.ok.frames,I.ok.mod,I.bs,Nat.le_trans I.ok.bsz I.sz,I.stack,I.stkFree,I.hok,I.bare⟩
theorem Inv.after {Q:VK} {u:Value} (I:Inv X pins σ H s) (h:CE X.stack X.prog X.w H s Q u s'):EP X pins σ Q u s':=by
 obtain ⟨v,H',os,bare,un,hok,r,q⟩:=h
 obtain ⟨hh,g,d,t,os'⟩:=s'
 obtain rfl:os'=s.os:=os
 exact ⟨v,H',I.call (h':=hh) (g':=g) (d':=d) (t':=t) (ch:=[]) un hok bare (fun b z=>absurd z (by simp)),r,q⟩
end
noncomputable def tCall (sp:Sp) (dvs:List V) (E:XK) (t:TA):TE:=fun σ H Q=>t σ H fun vs H1=>sp (vs++dvs) H1 Q E
noncomputable def Binds (K:PySem.W.Frag) (fd:FuncData) (ps:List Str) (ds:List Value):Prop :=
 ∀(s:Shared) (us:List Value),K.In s.heap→(us++ds).length=ps.length→BindsTo s fd ⟨us,[]⟩ (ps.zip (us++ds))
theorem Binds.all {K:PySem.W.Frag} {fd:FuncData} {ps:List Str} (h:∀us:List Value,us.length=ps.length→bindArgs fd ⟨us,[]⟩=pure (ps.zip us)):Binds K fd ps []:=fun s us _ hl=>by
 rw[List.append_nil] at hl ⊢
 exact .of_eq (h us hl)
noncomputable def Passes (CX:CXT) (X:Cx) (E:XK):Prop:=∀(pins:List (Addr × Obj)) (σ:St) (H:Hp) (s:Shared) (e:Value) (s':Shared),Inv X pins σ H s→CX X.stack H s E e s'→X.xe e s'
section
variable {X:Cx} {CX:CXT} {k:Nat} {f C:Addr} {fd:FuncData} {ps:List Str} {sp:Sp} {dvs:List V} {ds:List Value} {E:XK} {x m:Str} {p pos apos:Pos} {e o:Expr} {es:List Expr} {ta:TE} {t:TA}
theorem run_fn {pins:List (Addr × Obj)} {σ:St} {H:Hp} {s:Shared} {Q:VK} {us:List Value} {vs:List V} (F:FnOk X.prog X.w X.K X.mg X.base CX k f fd ps sp) (hr:Room k X.A) (hb:Binds X.K fd ps ds) (hd:Vals dvs ds) (hx:Passes CX X E)
  (I:Inv X pins σ H s) (r:Vals vs us) (h:sp (vs++dvs) H Q E):wpAny (model X.prog X.w) X.A (call (.ref f) us) (EP X pins σ Q) X.xe s:=by
 have r2:Vals (vs++dvs) (us++ds):=r.append hd
 have hl:(us++ds).length=ps.length:=by rw[← r2.length];exact F.len _ _ _ _ h
 refine wpAny_call (codeAny_mono (F.run X.A X.stack s H ⟨us,[]⟩ (us++ds) (vs++dvs) Q E hr I.env0 (hb s us I.kIn hl) r2 h) fun r s' hq=>?_)
 cases r with
 | error e=>exact hx pins σ H s e s' I hq
 | ok fl =>
  cases fl with
  | ret u=>exact I.after hq
  | next=>exact False.elim hq
  | brk=>exact False.elim hq
  | cont=>exact False.elim hq
theorem zbbu (F:FnOk X.prog X.w X.K X.mg X.base CX k f fd ps sp) (hr:Room k X.A) (hg:Gl X x) (hm:X.mg x=some (.ref f)) (hk:PySem.W.keepIn X.K (.ref f)=true) (hb:Binds X.K fd ps ds) (hd:Vals dvs ds) (hx:Passes CX X E)
  (ha : PA X (e :: es) t) (hdb : (x == ("__debug__" : Str)) = false := by decide) (he : starEach (e :: es) X.env = (false, eval e X.env) :: starEach es X.env := by rfl) (hpl : (backTo pos (starEach es X.env)).any (·.1) = false := by rfl) :
  PE X (.Call (.Name x p) (e::es) [] pos) (tCall sp dvs E t):=by
 intro pins s σ H Q I h
 refine wpAny_Call_Name_kw (zww I hg hm ?_ hdb)
 refine PySem.W.callWith_K (h₀:=X.base) I.ok.mod.kin hk (thn (ha pos pins s σ H _ I h) fun us s1 ⟨vs,H1,I1,r,q⟩=>⟨I1.kIn,?_⟩) he hpl
 exact run_fn F hr hb hd hx I1 r q
end
section
variable {X:Cx} {CX:CXT} {k:Nat} {f C:Addr} {fd:FuncData} {ps ks:List Str} {sp:Sp} {E:XK} {x m:Str} {p pos apos kpos:Pos} {e o:Expr} {es:List Expr} {kws:List Keyword} {te ta:TE} {t tk:TA} {nm:Option Str}
variable {g:List Value→List Value→List Value} {gV:List V→List V→List V}
end
structure FnScope (N P:List Str) (sc:Scope):Prop where
 kind:sc.kind=.function
 co:sc.isCoroutine=false
 gen:sc.isGenerator=false
 nd:N.Nodup
 pre:N.take P.length=P
 par:∀x∈P,sc.names.lookup x=some .local∨sc.names.lookup x=some .cell
 nofree:∀y∈sc.names,y.2≠.free
theorem zpb {kindOf:Str→Option NameKind} {x:Str}:∀{binds:List (Str × Value)} {m:Str→Option Value},(∀v,(x,v)∉binds)→bindL kindOf binds m x=m x
 | [],_,_=>rfl
 | (n,v)::r,m,h=>by
  unfold bindL
  rw[zpb fun w hw=>h w (List.mem_cons_of_mem _ hw)]
  split
  ·have:x≠n:=by rintro rfl;exact h v List.mem_cons_self
   simp[this]
  ·rfl
theorem zpd {kindOf:Str→Option NameKind} {x:Str}:∀{binds:List (Str × Value)} {m:Str→Option Value},(∀v,(x,v)∉binds)→bindC kindOf binds m x=m x
 | [],_,_=>rfl
 | (n,v)::r,m,h=>by
  unfold bindC
  rw[zpd fun w hw=>h w (List.mem_cons_of_mem _ hw)]
  split
  ·rfl
  ·have:x≠n:=by rintro rfl;exact h v List.mem_cons_self
   simp[this]
theorem zpc {kindOf:Str→Option NameKind} {x:Str} {v:Value}:∀{P:List Str} {vs:List Value} {i:Nat} {m:Str→Option Value},P.Nodup→P[i]?=some x→vs[i]?=some v→kindOf x=some .local →
  bindL kindOf (P.zip vs) m x=some v
 | [],_,_,_,_,h,_,_=>by simp at h
 | _::_,[],_,_,_,_,h,_=>by simp at h
 | p::P,w::vs,0,m,nd,h1,h2,hk=>by
  simp at h1 h2;subst h1;subst h2
  show bindL kindOf ((p,w)::P.zip vs) m p=_
  unfold bindL
  rw[zpb fun v hv=>(List.nodup_cons.mp nd).1 (List.of_mem_zip hv).1,if_pos hk]
  simp
 | p::P,w::vs,i+1,m,nd,h1,h2,hk=>by
  show bindL kindOf ((p,w)::P.zip vs) m x=_
  unfold bindL
  exact zpc (i:=i) (List.nodup_cons.mp nd).2 (by simpa using h1) (by simpa using h2) hk
theorem zpe {kindOf:Str→Option NameKind} {x:Str} {v:Value}:∀{P:List Str} {vs:List Value} {i:Nat} {m:Str→Option Value},P.Nodup→P[i]?=some x→vs[i]?=some v→kindOf x≠some .local →
  bindC kindOf (P.zip vs) m x=some v
 | [],_,_,_,_,h,_,_=>by simp at h
 | _::_,[],_,_,_,_,h,_=>by simp at h
 | p::P,w::vs,0,m,nd,h1,h2,hk=>by
  simp at h1 h2;subst h1;subst h2
  show bindC kindOf ((p,w)::P.zip vs) m p=_
  unfold bindC
  rw[zpd fun v hv=>(List.nodup_cons.mp nd).1 (List.of_mem_zip hv).1,if_neg hk]
  simp
 | p::P,w::vs,i+1,m,nd,h1,h2,hk=>by
  show bindC kindOf ((p,w)::P.zip vs) m x=_
  unfold bindC
  exact zpe (i:=i) (List.nodup_cons.mp nd).2 (by simpa using h1) (by simpa using h2) hk
noncomputable def start (N:List Str) (vs:List V):St:=vs.map some++List.replicate (N.length - vs.length) none
noncomputable def cxOf (CX:CXT) (P:Program) (w:World) (K:PySem.W.Frag) (mg:Str→Option Value) (base:Heap) (N:List Str) (qual:Str) (scope:Scope) (f:Addr) (cd:Value) (A:Around) (outer:List Env) (s:Shared) (H:Hp) (E:XK):Cx where
 prog:=P
 w:=w
 K:=K
 mg:=mg
 base:=base
 A:=A.deeper (envOfC qual scope s.heap.objs.size f cd)
 N:=N
 s₀:=s
 H₀:=H
 env:=envOfC qual scope s.heap.objs.size f cd
 outer:=outer
 stack:=envOfC qual scope s.heap.objs.size f cd::outer
 ex:=[]
 calm:=true
 fn:=fun _=>true
 pn:=[]
 xe:=fun e s'=>wpAny (model P w) (A.deeper (envOfC qual scope s.heap.objs.size f cd)) (leaving (envOfC qual scope s.heap.objs.size f cd) e) (fun _ s''=>CX outer H s E e s'') (fun e' s''=>CX outer H s E e' s'') s'
theorem zsx {sc:Scope} {n:Nat} {x:Str} (h:sc.names.lookup x=some .cell):∃c,(cellsFrom n sc.names []).lookup x=some c:=by
 have q:=PySem.W.cellsFrom_some sc.names n [] (.inl h)
 exact Option.isSome_iff_exists.mp q
theorem zvi {CX:CXT} {P:Program} {w:World} {K:PySem.W.Frag} {mg:Str→Option Value} {base:Heap} {N ps:List Str} {qual:Str} {scope:Scope} {f:Addr} {cd:Value} {A:Around} {outer:List Env} {s s1:Shared} {H:Hp} {E:XK} {us:List Value} {vs:List V}
  (S:FnScope N ps scope) (hd:A.handled=none) (e0:Env0 P w K mg base A outer s H) (hl:vs.length=ps.length) (r:Vals vs us)
  (x:InCallC s s.heap.objs.size (bindL (envOfC qual scope s.heap.objs.size f cd).kindOf (ps.zip us) fun _=>none) (cellsFrom (s.heap.objs.size+1) scope.names []) (bindC (envOfC qual scope s.heap.objs.size f cd).kindOf (ps.zip us) fun _=>none) s1) :
  Inv (cxOf CX P w K mg base N qual scope f cd A outer s H E) [] (start N vs) H s1:=by
 have hpl:ps.length≤N.length:=by have:=congrArg List.length S.pre;rw[List.length_take] at this;(first|assumption|lia)
 obtain ⟨h1,tk,rfl,hk⟩:=x.done
 have noA:∀b:Addr,b∉(cxOf CX P w K mg base N qual scope f cd A outer s H E).ex:=fun b z=>absurd (show b∈([]:List Addr) from z) (by simp)
 refine ⟨⟨e0.mod,S.kind,rfl,rfl,Nat.le_refl _,fun y z c h1 h2=>?_,fun y hy=>?_,fun y c _ h=>?_,fun _=>hd,Around.frames_deeper e0.frames,.inr ⟨rfl,rfl⟩,fun b z=>absurd z (noA b),e0.bs,e0.bsz,fun b _ _=>noA b,fun b z=>absurd z (noA b),e0.funs,e0.frf⟩,
  rfl,e0.bare,Un.kept hk,⟨_,x.toInCall.ns,fun i y v h1 h2 h3=>?_⟩,fun y c h=>⟨_,x.cell y c h⟩,e0.hok.fresh (Nat.le_refl _),fun y c h=>?_,fun p hp=>absurd (show p∈([]:List (Addr × Obj)) from hp) (by simp),e0.hok.kept hk,?_⟩
 ·exact name_of_addr x.apart (PySem.mem_of_lookup h1) (PySem.mem_of_lookup h2)
 ·have hy:scope.names.lookup y=some .cell∨scope.names.lookup y=some .free:=hy
  rcases hy with hy | hy
  ·exact zsx hy
  ·exact absurd rfl (S.nofree _ (PySem.mem_of_lookup hy))
 ·exact Nat.le_of_lt (x.above y c (PySem.mem_of_lookup h))
 ·have hi:i < vs.length:=by
   unfold start at h2
   by_cases hi:i < vs.length
   ·exact hi
   ·rw[List.getElem?_append_right (by simpa using hi)] at h2
    rw[List.getElem?_replicate] at h2
    split at h2<;>cases h2
  have ha:vs[i]?=some v:=by
   unfold start at h2
   rw[List.getElem?_append_left (by simpa using hi),List.getElem?_map] at h2
   cases e:vs[i]? with
   | none=>rw[e] at h2;cases h2
   | some a=>rw[e] at h2;cases h2;rfl
  obtain ⟨u,hu,rv⟩:=r.get ha
  have hp:ps[i]?=some y:=by
   rw[← S.pre,List.getElem?_take_of_lt (by (first|assumption|lia))];exact h1
  have ndP:ps.Nodup:=by rw[← S.pre];exact S.nd.sublist (List.take_sublist _ _)
  refine ⟨u,rv,?_⟩
  rcases S.par y (List.mem_of_getElem? hp) with k | k
  ·exact .inl ⟨k,zpc ndP hp hu k⟩
  ·obtain ⟨c,e⟩:=zsx (n:=s.heap.objs.size+1) k
   refine .inr ⟨.inl k,c,e,?_⟩
   have q:=x.cell y c e
   rw[zpe ndP hp hu (by show scope.names.lookup y≠_;rw[k];decide)] at q
   exact q
 ·exact e0.hok.fresh (Nat.le_of_lt (x.above y c (PySem.mem_of_lookup h)))
 ·unfold start
  show _=N.length
  rw[List.length_append,List.length_map,List.length_replicate]
  (first|assumption|lia)
theorem fn_of {CX:CXT} {P:Program} {w:World} {K:PySem.W.Frag} {mg:Str→Option Value} {base:Heap} {k:Nat} {f:Addr} {name qual:Str} {params:Arguments} {body:List Stmt} {scope:Scope} {dV kV doc pm cdv ct oc:Value} {an od:Option Addr}
  {osl:Array (Option Value)} {N ps:List Str} {sp:Sp} (lk:K.lookup f=some ⟨oc,od,.func (PySem.W.fnOf name qual params body scope dV kV doc pm an cdv ct),osl⟩) (hcd:PySem.W.codeIn K cdv qual=true) (S:FnScope N ps scope)
  (len:∀vs H Q E,sp vs H Q E→vs.length=ps.length)
  (hbody:∀(A:Around) (outer:List Env) (s:Shared) (H:Hp) (vs:List V) (Q:VK) (E:XK),Room k (A.deeper (envOfC qual scope s.heap.objs.size f cdv))→sp vs H Q E →
   ∃t,PSs (cxOf CX P w K mg base N qual scope f cdv A outer s H E) body t∧t {nx:=fun _ H'=>Q .non H',rt:=Q} (start N vs) H) :
  FnOk P w K mg base CX (k+1) f (PySem.W.fnOf name qual params body scope dV kV doc pm an cdv ct) ps sp:=by
 refine ⟨len,fun A outer s H args us vs Q E hr e0 hb r hsp=>?_⟩
 have hl:=len _ _ _ _ hsp
 have KX:K.In s.heap:=e0.mod.kin.keeps fun b o e=>(e0.bs b o e).1
 have lim:s.heap.NoLimit:=e0.mod.nolimit.keeps fun b o e=>(e0.bs b o e).1
 have hkind:∀y∈ps.zip us,scope.names.lookup y.1=some .local∨(scope.names.lookup y.1=some .cell∧((cellsFrom (s.heap.objs.size+1) scope.names []).lookup y.1).isSome=true):=fun hq0 hy=>by
  obtain ⟨n,v⟩:=hq0
  rcases S.par n (List.of_mem_zip hy).1 with q | q
  ·exact .inl q
  ·exact .inr ⟨q,PySem.W.cellsFrom_some _ _ _ (.inl q)⟩
 refine codeAny_call_function hr.depth (KX _ _ lk) rfl S.co S.gen rfl (PySem.W.codeRec_of KX hcd) (hb _ _ _ _ ?_)
 refine wpAny_newFunctionEnv_cells S.kind hkind fun env he s1 x=>?_
 subst he
 refine ⟨lim.keeps x.toInCall.keep,codeAny_func ?_⟩
 obtain ⟨t,ht,hq⟩:=hbody A outer s H vs Q E (hr.deeper _) hsp
 have I:Inv (cxOf CX P w K mg base N qual scope f cdv A outer s H E) [] (start N vs) H s1:=zvi S hr.hd e0 hl r x
 refine wpAny_mono (ht [] s1 (start N vs) H _ I hq) (fun fl s' hs=>?_) fun e s' hs=>hs
 have fin:∀{σ':St} {H':Hp} {v:V} {u:Value},Inv (cxOf CX P w K mg base N qual scope f cdv A outer s H E) [] σ' H' s'→RelV v u→Q v H'→CE outer P w H s Q u s' :=
  fun {σ' H' v u} J rv q=>⟨v,H',J.os,J.bare,J.base,J.hok,rv,q⟩
 cases fl with
 | ret u =>
  obtain ⟨v,σ',H',J,rv,q⟩:=hs
  exact fin J rv q
 | next =>
  obtain ⟨σ',H',J,q⟩:=hs
  exact fin (v:=V.non) (u:=Value.none) J rfl q
 | brk =>
  obtain ⟨_,_,_,q⟩:=hs
  exact False.elim q
 | cont =>
  obtain ⟨_,_,_,q⟩:=hs
  exact False.elim q
end L2
namespace L2
open PySem PySem.Spec PyProof.Rows
section
variable {X:Cx} {x:Str} {p pos:Pos} {e:Expr} {es:List Expr} {t:TA} {id T:String} {r:List V→Hp→VK→Prop}
noncomputable def tCB (r:List V→Hp→VK→Prop) (t:TA):TE:=fun σ H Q=>t σ H fun vs H1=>r vs H1 Q
theorem zra (hc : CallR X (.builtin id) r) (hg : Gl X x) (hm : X.mg x = none) (hv : bootBuiltins x = some (.builtin id)) (ha : PA X (e :: es) t) (hn : x ≠ "__name__" := by decide) (hdb : (x == ("__debug__" : Str)) = false := by decide)
  (he:starEach (e::es) X.env=(false,eval e X.env)::starEach es X.env:=by rfl) (hpl:(backTo pos (starEach es X.env)).any (·.1)=false:=by rfl):PE X (.Call (.Name x p) (e::es) [] pos) (tCB r t):=by
 intro pins s σ H Q I h
 refine wpAny_Call_Name_kw (ld_blt I hg hm hv ?_ hn hdb)
 exact PyProof.Rows.callWith_builtin1 (thn (ha pos pins s σ H _ I h) fun us s1 ⟨vs,H1,I1,r1,q1⟩=>hc pins s1 σ H1 vs us Q I1 r1 q1) he hpl
theorem zog (hc : CallR X (.type T) r) (hg : Gl X x) (hm : X.mg x = none) (hv : bootBuiltins x = some (.type T)) (ha : PA X (e :: es) t) (hn : x ≠ "__name__" := by decide) (hdb : (x == ("__debug__" : Str)) = false := by decide)
  (he:starEach (e::es) X.env=(false,eval e X.env)::starEach es X.env:=by rfl) (hpl:(backTo pos (starEach es X.env)).any (·.1)=false:=by rfl):PE X (.Call (.Name x p) (e::es) [] pos) (tCB r t):=by
 intro pins s σ H Q I h
 refine wpAny_Call_Name_kw (ld_blt I hg hm hv ?_ hn hdb)
 exact PyProof.Rows.callWith_type1 (thn (ha pos pins s σ H _ I h) fun us s1 ⟨vs,H1,I1,r1,q1⟩=>hc pins s1 σ H1 vs us Q I1 r1 q1) he hpl
end
end L2
namespace HT
open PySem PyProof.Rows
noncomputable def lexLt:List Int→List Int→Bool
 | [],[]=>false
 | [],_::_=>true
 | _::_,[]=>false
 | x::xs,y::ys=>if x=y then lexLt xs ys else decide (x < y)
theorem zcz (x y:Int) (xs ys:List Int):lexLt (x::xs) (y::ys)=if x=y then lexLt xs ys else decide (x < y):=rfl
theorem zdv:lexLt [] []=false:=rfl
theorem zce (y:Int) (ys:List Int):lexLt [] (y::ys)=true:=rfl
theorem zdg (x:Int) (xs:List Int):lexLt (x::xs) []=false:=rfl
theorem zzp (A:Around) (s:Shared) (a:Int) (t:Tok) (c:Int) (u:Tok):∃e,SeqAt.EqAt A s (.int a t) (.int c u) e∧(e=true↔a=c) :=
 ⟨(a == c),SeqAt.EqAt.int_int a t c u,by simp⟩
theorem zye (A:Around) (s:Shared) (a:Int) (t:Tok) (c:Int) (u:Tok) (prog:Program) (w:World) (E:Value→Shared→Prop) (Q:Value→Shared→Prop) (h:Q (.bool (decide (a < c))) s) :
  wpAny (model prog w) A (richCompare .Lt (.int a t) (.int c u)) Q E s :=
 (PyProof.Rows.lt_int h:wpAny (model prog w) A (compareOp .Lt (.int a t) (.int c u)) Q E s)
section
open PySem.SeqAt
open PySem.AutoSeq1 (wpAny_loadPart')
open PySem.MeetsSeq PySem.MeetsSeq2 PySem.MeetsSeq3
theorem zgh (l b:Addr) (items items2:Array Value) (n n2:Nat) (dd dd2:Option Addr) (sl sl2:Array (Option Value)) (ns ms:List Int) (hi:IntsAre items.toList ns) (hj:IntsAre items2.toList ms) :
  Meets (Builtin.«tuple.__lt__» ⟨[.ref l,.ref b],[]⟩)
   (fun _ R s => s.heap.get? l = some { cls := .type "tuple", dict := dd, data := .seq items n, slots := sl } ∧ s.heap.get? b = some { cls := .type "tuple", dict := dd2, data := .seq items2 n2, slots := sl2 } ∧
    R (.ok (.ret (.bool (lexLt ns ms)))) s) :=
 .of_wp fun prog w A R s h=>by
  obtain ⟨hp,g,d,tk,os⟩:=s;obtain ⟨hl,hb,h⟩:=h
  have f2:=AutoSeq1.sub_tuple_tuple
  have z1:items.size=ns.length:=by rw[← hi.length];simp
  have z2:items2.size=ms.length:=by rw[← hj.length];simp
  wp_walk using wpAny_loadPart' hl,wpAny_loadPart' hb,wpAny_forIn_list _ (fun rest b s'=>b.1=none∧s'=⟨hp,g,d,tk,os⟩∧∃(vs ws:List Value) (ns' ms':List Int),rest=vs.zip ws ∧
   IntsAre vs ns'∧IntsAre ws ms'∧ns'.length+items2.size=ms'.length+items.size∧R (.ok (.ret (.bool (lexLt ns' ms')))) ⟨hp,g,d,tk,os⟩) _
  case turn =>
   rintro ⟨y,x⟩ rest b s' ⟨hb',rfl,vs,ws,ns',ms',hz,hvi,hwi,hlen,hR⟩
   cases hvi with
   | nil=>rw[List.zip_nil_left] at hz;cases hz
   | cons a t hvi' =>
    cases hwi with
    | nil=>rw[List.zip_nil_right] at hz;cases hz
    | cons c u hwi' =>
     rw[List.zip_cons_cons] at hz
     injection hz with hyx hrest
     injection hyx with hy hx
     subst hy hx
     rw[zcz] at hR
     simp only[List.length_cons] at hlen
     obtain ⟨e,he,hiff⟩:=zzp A.in1 ⟨hp,g,d,tk,os⟩ a t c u
     refine wpAny_bind (he prog w _ _ ?_)
     cases e with
     | true =>
      rw[if_pos (hiff.mp rfl)] at hR
      wp_walk
      exact ⟨rfl,rfl,_,_,_,_,hrest,hvi',hwi',by (first|assumption|lia),hR⟩
     | false =>
      rw[if_neg (fun q=>absurd (hiff.mpr q) Bool.false_ne_true)] at hR
      have hri:=zye A.in1 ⟨hp,g,d,tk,os⟩ a t c u prog w
      wp_walk using hri
      exact ⟨_,rfl,by simpa using hR⟩
  case fin =>
   rintro ⟨b1,b2⟩ s' ⟨hb',rfl,vs,ws,ns',ms',hz,hvi,hwi,hlen,hR⟩
   simp only at hb'
   subst hb'
   have hv:lexLt ns' ms'=decide (items.size < items2.size):=by
    cases hvi with
    | nil =>
     cases hwi with
     | nil =>
      simp only[List.length_nil] at hlen
      rw[zdv]
      exact (decide_eq_false (by (first|assumption|lia))).symm
     | cons c u hw =>
      simp only[List.length_nil,List.length_cons] at hlen
      rw[zce]
      exact (decide_eq_true (by (first|assumption|lia))).symm
    | cons a t hv =>
     cases hwi with
     | nil =>
      simp only[List.length_nil,List.length_cons] at hlen
      rw[zdg]
      exact (decide_eq_false (by (first|assumption|lia))).symm
     | cons c u hw =>
      rw[List.zip_cons_cons] at hz
      cases hz
   rw[hv] at hR
   wp_walk
   exact ⟨_,rfl,by simpa [Builtin.Tuple.tupleCompareSizes] using hR⟩
  case h =>
   exact ⟨rfl,rfl,items.toList,items2.toList,ns,ms,rfl,hi,hj,by (first|assumption|lia),h⟩
end
section
variable {prog:Program} {w:World} {A:Around} {E:Value→Shared→Prop} {s:Shared}
theorem zlq {l b:Addr} {items items2:Array Value} {ns ms:List Int} {Q:Value→Shared→Prop} (hl:IsTup s.heap l items) (hb:IsTup s.heap b items2) (hi:IntsAre items.toList ns) (hj:IntsAre items2.toList ms)
  (hu:A.units < cLine) (h:Q (.bool (lexLt ns ms)) s):wpAny (model prog w) A (compareOp .Lt (.ref l) (.ref b)) Q E s:=by
 obtain ⟨⟨cls,dd,data,sl⟩,ho,hc,n,hd⟩:=id hl
 obtain ⟨⟨cls2,dd2,data2,sl2⟩,ho2,hc2,n2,hd2⟩:=id hb
 simp only at hc hd hc2 hd2
 subst hc hd hc2 hd2
 exact richCompare_meets_room (op:=.Lt) ⟨_,ho,rfl⟩ ⟨_,ho2,rfl⟩ PySem.F.slot_tuple_lt PySem.F.entry_tuple_lt (PySem.F.args_tuple_lt_2 _ _) (zgh l b items items2 n n2 dd dd2 sl sl2 ns ms hi hj)
  ⟨ho,ho2,show Value.bool (lexLt ns ms)≠Value.notImplemented∧Q (.bool (lexLt ns ms)) s from ⟨(fun x=>nomatch x),h⟩⟩ hu
theorem zbdr {t b:Addr} {vs ws:List Value} {Q:Value→Shared→Prop} (ht:IsTup s.heap t vs.toArray) (hb:IsTup s.heap b ws.toArray) (hv:vs≠[])
  (h1 : ws = [] → Q (.ref t) s) (h2 : ws ≠ [] → Q (.ref s.heap.objs.size) { s with heap := s.heap.push { cls := .type "tuple", data := .seq (vs ++ ws).toArray } })
  (hsz:vs.length+ws.length≤sizeLine):wpAny (model prog w) A (binaryOp .Add (.ref t) (.ref b)) Q E s:=by
 obtain ⟨⟨cls,dd,data,sl⟩,ho,hc,n,hd⟩:=id ht
 obtain ⟨⟨cls2,dd2,data2,sl2⟩,ho2,hc2,n2,hd2⟩:=id hb
 simp only at hc hd hc2 hd2
 subst hc hd hc2 hd2
 have e:vs.toArray++ws.toArray=(vs++ws).toArray:=by simp
 by_cases hw:ws=[]
 ·exact concat_meets ⟨_,ho,rfl⟩ ⟨_,ho2,rfl⟩ noFill_tuple_add seq_tuple_add PySem.F.slot_tuple_add PySem.F.entry_tuple_add (PySem.F.args_tuple_add_2 _ _)
   (tuple_addW1 t b vs.toArray ws.toArray n n2 dd dd2 sl sl2 (by simpa using hv) (by simp[hw])) ⟨ho,ho2,h1 hw⟩
 ·refine concat_meets ⟨_,ho,rfl⟩ ⟨_,ho2,rfl⟩ noFill_tuple_add seq_tuple_add PySem.F.slot_tuple_add PySem.F.entry_tuple_add (PySem.F.args_tuple_add_2 _ _)
   (tuple_addW2 t b vs.toArray ws.toArray n n2 dd dd2 sl sl2 (by simpa using hv) (by simpa using hw) (by rw[List.size_toArray,List.size_toArray];exact hsz)) ⟨ho,ho2,?_⟩
  rw[e]
  exact h2 hw
noncomputable def sIx (n d:Nat):Option Int→Nat
 | none=>d
 | some v=>if v < 0 then (v+(n:Int)).toNat else min v.toNat n
theorem zqr (n d:Nat):sIx n d none=d:=rfl
theorem zwl (n d k:Nat):sIx n d (some (k:Int))=min k n:=by
 show (if (k:Int) < 0 then ((k:Int)+(n:Int)).toNat else min (k:Int).toNat n)=min k n
 rw[if_neg (by (first|assumption|lia)),Int.toNat_natCast]
theorem sIx_le (n d:Nat) (hd:d≤n) (o:Option Int):sIx n d o≤n:=by
 cases o with
 | none=>exact hd
 | some v =>
  show (if v < 0 then (v+(n:Int)).toNat else min v.toNat n)≤n
  by_cases hv:v < 0
  ·rw[if_pos hv];(first|assumption|lia)
  ·rw[if_neg hv];exact Nat.min_le_right _ _
theorem zxm (v:Int) (n d:Nat):(if v < 0 then max (v+(n:Int)) 0 else min v (n:Int))=((sIx n d (some v):Nat):Int):=by
 show (if v < 0 then max (v+(n:Int)) 0 else min v (n:Int))=(((if v < 0 then (v+(n:Int)).toNat else min v.toNat n):Nat):Int)
 by_cases hv:v < 0
 ·simp only[if_pos hv];(first|assumption|lia)
 ·simp only[if_neg hv];(first|assumption|lia)
theorem zti (lo hi:Option Int) (n:Nat):Builtin.Slice.sliceAdjust lo hi 1 (n:Int)=(((sIx n 0 lo:Nat):Int),((sIx n n hi:Nat):Int)):=by
 have h1:¬ ((1:Int) < 0):=by (first|assumption|lia)
 unfold Builtin.Slice.sliceAdjust
 simp only[h1,if_false]
 refine Prod.ext ?_ ?_
 ·cases lo with
  | none=>rfl
  | some v=>exact zxm v n 0
 ·cases hi with
  | none=>rfl
  | some v=>exact zxm v n n
theorem zqy (i j:Nat):Builtin.Slice.slicePlaces (i:Int) (j:Int) 1=j - i:=by
 unfold Builtin.Slice.slicePlaces
 have h1:(1:Int) > 0:=by (first|assumption|lia)
 simp only[h1,if_true,Int.ediv_one]
 split<;>(first|assumption|lia)
theorem zky {v:Value} {o:Option Int} {Q:Option Int→Shared→Prop} (p:IsPart v o) (h:Q o s):wpAny (model prog w) A (Builtin.Slice.slicePartIndex v) Q E s:=by
 cases p with
 | none=>exact slicePart_none h
 | int i t=>exact slicePart_int h
theorem zdn {sl:Addr} {vl vu:Value} {lo hi:Option Int} {n:Nat} {Q:Int × Int × Nat→Shared→Prop} (hs:s.heap.IsSliceOf sl vl vu .none) (pl:IsPart vl lo) (pu:IsPart vu hi)
  (h:Q (((sIx n 0 lo:Nat):Int),1,sIx n n hi - sIx n 0 lo) s):wpAny (model prog w) A (Builtin.Slice.sliceApplied (.ref sl) (pure (n:Int))) Q E s:=by
 obtain ⟨os,hos,hcs,hds⟩:=id hs
 unfold Builtin.Slice.sliceApplied Builtin.Slice.sliceFields
 refine wpAny_bind (wpAny_bind (wpAny_field hos hds (x:=vl) rfl (wpAny_bind (wpAny_field hos hds (x:=vu) rfl (wpAny_bind (wpAny_field hos hds (x:=.none) rfl (wpAny_pure ?_)))))))
 refine wpAny_bind (slicePart_none ?_)
 show wpAny _ _ (if ((1:Int) == 0)=true then _ else _) _ _ s
 rw[if_neg (by decide)]
 refine wpAny_bind (zky pl (wpAny_bind (zky pu (wpAny_bind (wpAny_pure ?_)))))
 show wpAny _ _ (match Builtin.Slice.sliceAdjust lo hi 1 (n:Int) with | (lo,hi)=>pure (lo,(1:Int),Builtin.Slice.slicePlaces lo hi 1)) _ _ s
 rw[zti lo hi n]
 show wpAny _ _ (pure (((sIx n 0 lo:Nat):Int),(1:Int),Builtin.Slice.slicePlaces ((sIx n 0 lo:Nat):Int) ((sIx n n hi:Nat):Int) 1)) _ _ s
 rw[zqy]
 exact wpAny_pure h
theorem zyk (xs:Array Value) (i k:Nat):((List.range k).filterMap fun (m:Nat)=>xs[((i:Int)+(m:Int) * 1).toNat]?).toArray=((xs.toList.drop i).take k).toArray:=by
 have e:(fun (m:Nat)=>xs[((i:Int)+(m:Int) * 1).toNat]?)=fun m=>xs[i+m]?:=by
  funext m
  have:((i:Int)+(m:Int) * 1).toNat=i+m:=by (first|assumption|lia)
  rw[this]
 rw[e]
 have:=pick_run xs i k
 rw[List.filterMap_map] at this
 have e2:((fun x=>xs[x]?) ∘ fun x=>i+x)=fun m=>xs[i+m]?:=rfl
 rw[e2] at this
 rw[this]
theorem zgt {t sl:Addr} {items:Array Value} {vl vu:Value} {lo hi:Option Int} {Q:Value→Shared→Prop} (ht:IsTup s.heap t items) (hs:s.heap.IsSliceOf sl vl vu .none) (pl:IsPart vl lo) (pu:IsPart vu hi)
  (hw:¬ (sIx items.size 0 lo=0∧sIx items.size items.size hi=items.size))
  (h : Q (.ref s.heap.objs.size) { s with heap := s.heap.push { cls := .type "tuple", data := .seq ((items.toList.drop (sIx items.size 0 lo)).take (sIx items.size items.size hi - sIx items.size 0 lo)).toArray } })
  (hsz:items.size≤sizeLine):wpAny (model prog w) A (getItem (.ref t) (.ref sl)) Q E s:=by
 have htake:sizeOk (.seq ((items.toList.drop (sIx items.size 0 lo)).take (sIx items.size items.size hi - sIx items.size 0 lo)).toArray):=by
  show ((items.toList.drop (sIx items.size 0 lo)).take (sIx items.size items.size hi - sIx items.size 0 lo)).toArray.size≤sizeLine
  rw[List.size_toArray,List.length_take,List.length_drop,Array.length_toList]
  (first|assumption|lia)
 have hj:sIx items.size items.size hi≤items.size:=sIx_le _ _ (Nat.le_refl _) hi
 obtain ⟨os,hos,hcs,hds⟩:=id hs
 have hTs : s.TypeIs (.ref sl) "slice" := ⟨os, hos, hcs⟩
 unfold getItem
 try with_reducible refine wpAny_holding ?_
 first | refine wpAny_bind (wpAny_pure ?_) | skip
 refine wpAny_bind (wpAny_sequenceKey ht.typeIs (by decide) ?_)
 refine wpAny_bind (wpAny_callSpecial?_slot (name := Str.ofString "__getitem__") ht.typeIs PyProof.Rows.slot_tuple_getitem
  (wpAny_call_entry PyProof.Rows.slot_tuple_getitem ht.typeIs entry_tuple_getitem ?_ (args_tuple_getitem _ _)))
 show wpAny _ _ (Builtin.Tuple.tupleItemsOf (.ref t) >>= _) _ _ s
 refine wpAny_bind (tupleItemsOf_ ht ?_)
 refine wpAny_bind (wpAny_typeOf hTs ?_)
 rw[if_pos (by decide)]
 refine wpAny_bind (zdn hs pl pu ?_)
 have hno:¬ ((((sIx items.size 0 lo:Nat):Int) == 0 && (1:Int) == 1 && (sIx items.size items.size hi - sIx items.size 0 lo) == items.size)=true):=by
  intro q
  rw[Bool.and_eq_true,Bool.and_eq_true] at q
  have q1:((sIx items.size 0 lo:Nat):Int)=0:=eq_of_beq q.1.1
  have q2:sIx items.size items.size hi - sIx items.size 0 lo=items.size:=eq_of_beq q.2
  exact hw ⟨by (first|assumption|lia),by (first|assumption|lia)⟩
 show wpAny _ _ (if (((sIx items.size 0 lo:Nat):Int) == 0 && (1:Int) == 1 && (sIx items.size items.size hi - sIx items.size 0 lo) == items.size)=true then _ else _) _ _ s
 rw[if_neg hno,zyk]
 first
  | exact wpAny_bind (m:=Builtin.Tuple.tupleExact _) (wpAny_newObj_type (wpAny_pure ⟨_,rfl,wpAny_pure h⟩) htake)
  | exact wpAny_bind (m:=Builtin.Tuple.tupleExact _) (wpAny_newObj_type (wpAny_bind (wpAny_pure (wpAny_pure ⟨_,rfl,wpAny_pure h⟩))) htake)
  | exact wpAny_bind (wpAny_bind (m:=Builtin.Tuple.tupleExact _) (wpAny_newObj_type (wpAny_pure (wpAny_pure ⟨_,rfl,wpAny_pure h⟩)) htake))
  | exact wpAny_bind (wpAny_bind (m:=Builtin.Tuple.tupleExact _) (wpAny_newObj_type (wpAny_pure ⟨_,rfl,wpAny_pure h⟩) htake))
end
end HT
namespace L2
open PySem PySem.Spec PyProof.Rows
noncomputable abbrev TO:=St→Hp→(Option Int→Hp→Prop)→Prop
noncomputable def PO (X:Cx) (e:Option Expr) (t:TO):Prop :=
 ∀(pins:List (Addr × Obj)) (s:Shared) (σ:St) (H:Hp) (Q:Option Int→Hp→Prop),Inv X pins σ H s→t σ H Q →
  wpAny (model X.prog X.w) X.A (evalPart e X.env) (fun u s'=>∃o H',Inv X pins σ H' s'∧IsPart u o∧Q o H') X.xe s
noncomputable def tNoPart:TO:=fun _ H Q=>Q none H
noncomputable def tPart (t:TE):TO:=fun σ H Q=>t σ H fun x H1=>∃i,x=.int i∧Q (some i) H1
theorem zdw {ns:List Int}:∀{us:List Value},Vals (ns.map V.int) us→IntsAre us ns:=by
 induction ns with
 | nil=>intro us r;rw[List.map_nil] at r;cases r;exact .nil
 | cons n ns ih =>
  intro us r
  rw[List.map_cons] at r
  cases r with
  | cons r1 r2 =>
   obtain ⟨t,e⟩:=r1
   subst e
   exact .cons n t (ih r2)
section
variable {X:Cx} {e:Expr} {te:TE} {lo hi:Option Expr} {tl th:TO} {pos p2:Pos}
theorem zbbk:PO X none tNoPart:=by
 intro pins s σ H Q I h
 rw[evalPart_none]
 exact wpAny_pure ⟨none,H,I,.none,h⟩
theorem zbbj (h:PE X e te):PO X (some e) (tPart te):=by
 intro pins s σ H Q I hw
 rw[evalPart_some]
 refine thn (h pins s σ H _ I hw) fun u s1 hq0=>?_
 obtain ⟨x,H1,I1,r1,q1⟩:=hq0
 obtain ⟨i,rfl,q⟩:=q1
 obtain ⟨t,rfl⟩:=r1
 exact ⟨some i,H1,I1,.int i t,q⟩
noncomputable def SlR (X:Cx) (r:V→Option Int→Option Int→Hp→VK→Prop):Prop :=
 ∀(pins:List (Addr × Obj)) (s:Shared) (σ:St) (H:Hp) (x:V) (v vl vu:Value) (lo hi:Option Int) (sl:Addr) (Q:VK),Inv X pins σ H s→RelV x v→s.heap.IsSliceOf sl vl vu .none→IsPart vl lo→IsPart vu hi→r x lo hi H Q →
  ∃ T id, typeLookup (.type T) "__getitem__" = pure (some (.builtin id)) ∧ s.TypeIs v T ∧ wpAny (model X.prog X.w) X.A (getItem v (.ref sl)) (EP X pins σ Q) X.xe s
theorem SlR.or {r r':V→Option Int→Option Int→Hp→VK→Prop} (h:SlR X r) (h':SlR X r'):SlR X (fun x lo hi H Q=>r x lo hi H Q∨r' x lo hi H Q):=by
 intro pins s σ H x v vl vu lo hi sl Q I rx hs pl pu q
 rcases q with q | q
 ·exact h pins s σ H x v vl vu lo hi sl Q I rx hs pl pu q
 ·exact h' pins s σ H x v vl vu lo hi sl Q I rx hs pl pu q
noncomputable def tSl (r:V→Option Int→Option Int→Hp→VK→Prop) (te:TE) (tl th:TO):TE:=fun σ H Q=>te σ H fun x H1=>tl σ H1 fun l H2=>th σ H2 fun u H3=>r x l u H3 Q
theorem zym {r:V→Option Int→Option Int→Hp→VK→Prop} (hr:SlR X r) (he:PE X e te) (hl:PO X lo tl) (hu:PO X hi th):PE X (.Subscript e (.Slice lo hi none p2) pos) (tSl r te tl th):=by
 intro pins s σ H Q I h
 refine Subscript_ (thn (he pins s σ H _ I h) fun v s1 hq0=>?_)
 obtain ⟨x,H1,I1,r1,q1⟩:=hq0
 refine wpAny_Slice (thn (hl pins s1 σ H1 _ I1 q1) fun vl s2 ⟨l,H2,I2,pl,q2⟩=>thn (hu pins s2 σ H2 _ I2 q2) fun vu s3 hq0=>?_)
 obtain ⟨u,H3,I3,pu,q3⟩:=hq0
 rw[evalPart_none]
 refine wpAny_pure ?_
 have I4 : Inv X pins σ H3 { s3 with heap := s3.heap.push { cls := .type "slice", data := .fields #[vl, vu, .none] } } := I3.kept (t' := s3.toks) fun b ob q => Heap.get?_push_of_some _ q
 obtain ⟨T, id, hT, ht, hg⟩ := hr pins { s3 with heap := s3.heap.push { cls := .type "slice", data := .fields #[vl, vu, .none] } } σ H3 x v vl vu l u s3.heap.objs.size Q I4 r1 (Heap.IsSliceOf.new ..) pl pu q3
 show wpAny (model X.prog X.w) X.A (subscriptTail e (.Slice lo hi none p2) v (.ref s3.heap.objs.size)) (EP X pins σ Q) X.xe { s3 with heap := s3.heap.push { cls := .type "slice", data := .fields #[vl, vu, .none] } }
 exact tail_any (ops:=[.ref s3.heap.objs.size,v]) ht hT hg (by with_unfolding_all rfl)
noncomputable def cutV (xs:List V) (lo hi:Option Int):List V:=(xs.drop (HT.sIx xs.length 0 lo)).take (HT.sIx xs.length xs.length hi - HT.sIx xs.length 0 lo)
theorem ziy (xs:List V) (lo hi:Option Int):(cutV xs lo hi).length≤xs.length:=by
 unfold cutV
 rw[List.length_take,List.length_drop]
 (first|assumption|lia)
noncomputable def rSlT (K:PySem.W.Frag):V→Option Int→Option Int→Hp→VK→Prop:=fun x lo hi H Q=>∃a xs,x=.ref a∧SqT K H a xs ∧
 ¬ (HT.sIx xs.length 0 lo=0∧HT.sIx xs.length xs.length hi=xs.length)∧∀p,H p=none→Q (.ref p) (upd H p (.tup (cutV xs lo hi)))
theorem sl_tup:SlR X (rSlT X.K):=by
 intro pins s σ H x v vl vu lo hi sl Q I rx hs pl pu h
 obtain ⟨a,xs,rfl,hx,hw,q⟩:=h
 cases rx
 obtain ⟨its,r,ht,hz⟩:=I.tuple hx
 have hlen:its.toArray.size=xs.length:=by rw[List.size_toArray];exact r.length.symm
 refine ⟨"tuple", _, PyProof.Rows.slot_tuple_getitem.lookup, ht.typeIs, ?_⟩
 refine HT.zgt ht hs pl pu (by rw[hlen];exact hw) ?_ (by rw[hlen];exact hz)
 rw[hlen]
 refine ⟨.ref s.heap.objs.size,_,I.laid (t':=s.toks) (o:=.tup (cutV xs lo hi)) (fun b ob q=>Heap.get?_push_of_some _ q) (Nat.le_refl _) ?_,rfl,q _ (I.hok.fresh (Nat.le_refl _))⟩
 exact ⟨Nat.le_trans (ziy xs lo hi) hz,_,(r.drop (HT.sIx xs.length 0 lo)).take (HT.sIx xs.length xs.length hi - HT.sIx xs.length 0 lo),IsTup.new _ _⟩
noncomputable def rLtT (K:PySem.W.Frag):R2:=fun x y H Q=>∃a b ns ms,x=.ref a∧y=.ref b∧SqT K H a (ns.map V.int)∧SqT K H b (ms.map V.int)∧Q (.bl (HT.lexLt ns ms)) H
theorem op_ltT (hu:X.A.units < cLine):OpR X (compareOp .Lt) (rLtT X.K):=by
 intro pins s σ H x y v u Q I rx ry h
 obtain ⟨a,b,ns,ms,rfl,rfl,ha,hb,q⟩:=h
 cases rx
 cases ry
 obtain ⟨its,r1,p1,_⟩:=I.tuple ha
 obtain ⟨its2,r2,p2,_⟩:=I.tuple hb
 have i1:IntsAre its.toArray.toList ns:=zdw r1
 have i2:IntsAre its2.toArray.toList ms:=zdw r2
 exact HT.zlq p1 p2 i1 i2 hu ⟨.bl (HT.lexLt ns ms),H,I,rfl,q⟩
noncomputable def rCatT (K:PySem.W.Frag):R2:=fun x y H Q=>∃a b xs ys,x=.ref a∧y=.ref b∧SqT K H a xs∧SqT K H b ys∧xs≠[]∧xs.length+ys.length≤sizeLine ∧
 (ys=[]→Q (.ref a) H)∧(ys≠[]→∀p,H p=none→Q (.ref p) (upd H p (.tup (xs++ys))))
theorem Vals.nil_iff {xs:List V} {us:List Value} (r:Vals xs us):us=[]↔xs=[]:=by
 cases r with
 | nil=>simp
 | cons _ _=>simp
theorem zbby:OpR X (binaryOp .Add) (rCatT X.K):=by
 intro pins s σ H x y v u Q I rx ry h
 obtain ⟨a,b,xs,ys,rfl,rfl,ha,hb,hx,hz,q1,q2⟩:=h
 cases rx
 cases ry
 obtain ⟨its,r1,p1,_⟩:=I.tuple ha
 obtain ⟨its2,r2,p2,_⟩:=I.tuple hb
 refine HT.zbdr p1 p2 (fun z=>hx (r1.nil_iff.mp z)) (fun z=>⟨.ref a,H,I,rfl,q1 (r2.nil_iff.mp z)⟩) (fun z=>?_) (by rw[← r1.length,← r2.length];exact hz)
 refine ⟨.ref s.heap.objs.size,_,I.laid (t':=s.toks) (o:=.tup (xs++ys)) (fun b ob q=>Heap.get?_push_of_some _ q) (Nat.le_refl _) ?_,rfl,q2 (fun w=>z (r2.nil_iff.mpr w)) _ (I.hok.fresh (Nat.le_refl _))⟩
 exact ⟨by rw[List.length_append];exact hz,_,r1.append r2,IsTup.new _ _⟩
end
end L2
namespace L2
open PySem PySem.Spec PyProof.Rows
noncomputable def ixN (n:Nat) (i:Int):Option Nat:=if 0≤i then (if i < n then some i.toNat else none) else if -(n:Int)≤i then some (i+n).toNat else none
noncomputable def atI {α:Type} (xs:List α) (i:Int):Option α:=(ixN xs.length i).bind fun j=>xs[j]?
theorem zxa {n:Nat} {i:Int} {j:Nat} (h:ixN n i=some j):seqIndex? i n=some j∧j < n∧-(n:Int)≤i∧i < n:=by
 unfold ixN at h
 by_cases h0:0≤i
 ·rw[if_pos h0] at h
  by_cases h1:i < n
  ·rw[if_pos h1] at h
   have e:i.toNat=j:=Option.some.inj h
   exact ⟨by rw[seqIndex_of h0 h1,e],by (first|assumption|lia),by (first|assumption|lia),h1⟩
  ·rw[if_neg h1] at h;cases h
 ·rw[if_neg h0] at h
  by_cases h1:-(n:Int)≤i
  ·rw[if_pos h1] at h
   have e:(i+n).toNat=j:=Option.some.inj h
   exact ⟨by rw[seqIndex_neg (by (first|assumption|lia)) h1,e],by (first|assumption|lia),h1,by (first|assumption|lia)⟩
  ·rw[if_neg h1] at h;cases h
theorem ztg {α:Type} {xs:List α} {i:Int} {v:α} (h:atI xs i=some v):∃j,seqIndex? i xs.length=some j∧xs[j]?=some v∧j < xs.length∧-(xs.length:Int)≤i∧i < xs.length:=by
 unfold atI at h
 cases e:ixN xs.length i with
 | none=>rw[e] at h;cases h
 | some j =>
  rw[e] at h
  obtain ⟨h1,h2,h3,h4⟩:=zxa e
  exact ⟨j,h1,h,h2,h3,h4⟩
theorem zxo {α:Type} {xs:List α} {j:Nat} {v:α} (h:xs[j]?=some v):atI xs (j:Int)=some v:=by
 have hj:j < xs.length:=(List.getElem?_eq_some_iff.mp h).1
 have e:ixN xs.length (j:Int)=some j:=by
  unfold ixN
  rw[if_pos (by (first|assumption|lia)),if_pos (by (first|assumption|lia))];simp
 unfold atI;rw[e];exact h
noncomputable def PlainIx (b:Expr):Prop:=∀o i,subscripted b false o i=operate [o,i] (getItem o i)
noncomputable def IxR (X:Cx) (r:R2):Prop :=
 ∀(value slice:Expr) (pins:List (Addr × Obj)) (s:Shared) (σ:St) (H:Hp) (x y:V) (v u:Value) (Q:VK),Inv X pins σ H s→RelV x v→RelV y u→r x y H Q →
  subscripted slice false v u=operate [v,u] (getItem v u)→wpAny (model X.prog X.w) X.A (subscriptTail value slice v u) (EP X pins σ Q) X.xe s
noncomputable def MtR (X:Cx) (id:String) (r:V→List V→Hp→VK→Prop):Prop :=
 ∀(pins:List (Addr × Obj)) (s:Shared) (σ:St) (H:Hp) (x:V) (xs:List V) (v:Value) (us:List Value) (Q:VK),Inv X pins σ H s→RelV x v→Vals xs us→r x xs H Q →
  wpAny (model X.prog X.w) X.A (call (.builtin id) (v::us)) (EP X pins σ Q) X.xe s
section
variable {X:Cx} {a b:Expr} {ta tb:TE} {pos:Pos}
theorem IxR.or {r r':R2} (h:IxR X r) (h':IxR X r'):IxR X (fun x y H Q=>r x y H Q∨r' x y H Q):=by
 intro value slice pins s σ H x y v u Q I rx ry q hs
 rcases q with q | q
 ·exact h value slice pins s σ H x y v u Q I rx ry q hs
 ·exact h' value slice pins s σ H x y v u Q I rx ry q hs
theorem pe_ix {r:R2} (hr:IxR X r) (ha:PE X a ta) (hb:PE X b tb) (hs:PlainIx b):PE X (.Subscript a b pos) (tOp r ta tb):=by
 intro pins s σ H Q I h
 exact Subscript_ (binT ha hb I h fun v u s2 x y H2 I2 rx ry q=>hr a b pins s2 σ H2 x y v u Q I2 rx ry q (hs _ _))
noncomputable def rIxL (K:PySem.W.Frag):R2:=fun x y H Q=>∃p xs i v,x=.ref p∧y=.int i∧SqL K H p xs∧atI xs i=some v∧Q v H
noncomputable def rIxT (K:PySem.W.Frag):R2:=fun x y H Q=>∃p xs i v,x=.ref p∧y=.int i∧SqT K H p xs∧atI xs i=some v∧Q v H
noncomputable def rIxS:R2:=fun x y H Q=>∃z i c,x=.str z∧y=.int i∧z.length≤sizeLine∧atI z.cps.toList i=some c∧Q (.str ⟨#[c]⟩) H
theorem zbcl:IxR X (rIxL X.K):=by
 intro value slice pins s σ H x y v u Q I rx ry h hs
 obtain ⟨p,xs,i,z,rfl,rfl,hq,he,q⟩:=h
 cases rx
 obtain ⟨t,rfl⟩:=ry
 obtain ⟨its,r,pl,hz⟩:=I.list hq
 obtain ⟨j,h1,h2,h3,h4,h5⟩:=ztg he
 obtain ⟨w,ew,rw'⟩:=r.get h2
 have hl:=r.length
 have hn:=line63
 have fin:EP X pins σ Q w s:=⟨z,H,I,rw',q⟩
 by_cases h0:0≤i
 ·have hj:i.toNat=j:=by
   rw[seqIndex_of h0 h5] at h1
   exact Option.some.inj h1
  exact item_listR pl.isList h0 (by (first|assumption|lia)) (by rw[hj];simpa using ew) fin hs
 ·have hj:(i+(its.toArray.size:Int)).toNat=j:=by
   rw[seqIndex_neg (by (first|assumption|lia)) h4] at h1
   rw[List.size_toArray,← hl]
   exact Option.some.inj h1
  exact subscriptTail_builtinR (x:=w) pl.isList.typeIs slot_list_getitem.lookup
   (wpAny_getItem_list_neg (Q:=fun r s'=>r=w∧EP X pins σ Q r s') pl.isList (by (first|assumption|lia)) (by rw[List.size_toArray]<;>(first|assumption|lia)) (by (first|assumption|lia)) (by rw[hj];simpa using ew) ⟨rfl,fin⟩) hs
theorem ix_tup:IxR X (rIxT X.K):=by
 intro value slice pins s σ H x y v u Q I rx ry h hs
 obtain ⟨p,xs,i,z,rfl,rfl,hq,he,q⟩:=h
 cases rx
 obtain ⟨t,rfl⟩:=ry
 obtain ⟨its,r,pl,hz⟩:=I.tuple hq
 obtain ⟨j,h1,h2,h3,h4,h5⟩:=ztg he
 obtain ⟨w,ew,rw'⟩:=r.get h2
 have hl:=r.length
 have hn:=line63
 have fin:EP X pins σ Q w s:=⟨z,H,I,rw',q⟩
 exact subscriptTail_builtinR (x:=w) pl.typeIs slot_tuple_getitem.lookup
  (getItem_tuple (j:=j) (Q:=fun r s'=>r=w∧EP X pins σ Q r s') pl (by (first|assumption|lia)) (by (first|assumption|lia)) (by rw[List.size_toArray,← hl];exact h1) (by simpa using ew) ⟨rfl,fin⟩) hs
theorem ix_str:IxR X rIxS:=by
 intro value slice pins s σ H x y v u Q I rx ry h hs
 obtain ⟨z,i,c,rfl,rfl,hz,he,q⟩:=h
 obtain ⟨t,rfl⟩:=rx
 obtain ⟨t',rfl⟩:=ry
 obtain ⟨j,h1,h2,h3,h4,h5⟩:=ztg he
 have hl:z.cps.toList.length=z.length:=by simp[Str.length]
 rw[hl] at h1 h4 h5
 have hn:=line63
 exact tail_any (typeIs_str s z t) slot_str_getitem.lookup (getItem_str (c:=c) (by
  have e1:decide (i < -(2 ^ 63:Int))=false:=decide_eq_false (by (first|assumption|lia))
  have e2:decide (i ≥ 2 ^ 63)=false:=decide_eq_false (by (first|assumption|lia))
  rw[e1,e2,Bool.or_false]) (by rw[h1];simpa using h2) ⟨.str ⟨#[c]⟩,H,I.tok _,⟨_,rfl⟩,q⟩) hs
noncomputable def rIx (K:PySem.W.Frag):R2:=fun x y H Q=>rIxL K x y H Q∨rIxT K x y H Q∨rIxS x y H Q
theorem ix_seq:IxR X (rIx X.K):=zbcl.or (ix_tup.or ix_str)
theorem zro (its : List Value) (n j : Nat) (u : Value) : Obj.mapSeq (·.setIfInBounds j u) { cls := .type "list", data := .seq its.toArray n } = { cls := .type "list", data := .seq (its.set j u).toArray n } := by
 simp[Obj.mapSeq]
theorem Inv.lst {pins:List (Addr × Obj)} {σ:St} {H:Hp} {s:Shared} {p:Addr} {xs:List V} (I:Inv X pins σ H s) (h:H p=some (.lst xs)) :
  ∃ (its : List Value) (n : Nat), Vals xs its ∧ s.heap.get? p = some { cls := .type "list", data := .seq its.toArray n } ∧ xs.length ≤ sizeLine := by
 obtain ⟨z,its,n,r,e⟩:=I.hok p _ h
 exact ⟨its,n,r,e,z⟩
theorem Inv.lstUpd {pins:List (Addr × Obj)} {σ:St} {H:Hp} {s:Shared} {p:Addr} {xs ys:List V} {its its':List Value} {n n':Nat} {f:Obj→Obj} (I:Inv X pins σ H s) (h:H p=some (.lst xs))
  (ho : s.heap.get? p = some { cls := .type "list", data := .seq its.toArray n }) (hf : f { cls := .type "list", data := .seq its.toArray n } = { cls := .type "list", data := .seq its'.toArray n' }) (r : Vals ys its') (hz : ys.length ≤ sizeLine) (t : Nat) :
  Inv X pins σ (upd H p (.lst ys)) {s with heap:=s.heap.update p f,toks:=t}:=by
 have e : (s.heap.update p f).get? p = some { cls := .type "list", data := .seq its'.toArray n' } := by
  rw[Heap.get?_update_self f ho (by rw[hf]<;>rfl),hf]
 refine I.write (x:=p) (e:=p) (by rw[h];trivial) (.inl rfl) (fun b u hb q=>(Heap.get?_update_other _ _ (Ne.symm hb)).trans q) ⟨_,e⟩ ?_
 exact ⟨hz,its',n',r,e⟩
noncomputable def rSetL:V→V→V→Hp→(Hp→Prop)→Prop:=fun o i v H Q=>∃p xs k j,o=.ref p∧i=.int k∧H p=some (.lst xs)∧ixN xs.length k=some j∧Q (upd H p (.lst (xs.set j v)))
theorem zyc:PSet X rSetL:=by
 intro pins s σ H o i v ov iv u Q I ro ri rv h
 obtain ⟨p,xs,k,j,rfl,rfl,hp,hj,q⟩:=h
 cases ro
 obtain ⟨t,rfl⟩:=ri
 obtain ⟨its,n,r,ho,hz⟩:=I.lst hp
 obtain ⟨h1,h2,h3,h4⟩:=zxa hj
 have hl:=r.length
 have hn:=line63
 have I':Inv X pins σ (upd H p (.lst (xs.set j v))) {s with heap:=s.heap.update p (Obj.mapSeq (·.setIfInBounds j u))} :=
  I.lstUpd hp ho (zro its n j u) (r.set rv j) (by rw[List.length_set];exact hz) s.toks
 by_cases h0:0≤k
 ·have hk:k.toNat=j:=by
   rw[seqIndex_of h0 h4] at h1
   exact Option.some.inj h1
  exact PySem.W.ki_setAt ho h0 (by (first|assumption|lia)) (by rw[List.size_toArray,← hl];exact h4) (by rw[hk];exact ⟨_,I',q⟩)
 ·have hk:(k+(its.toArray.size:Int)).toNat=j:=by
   rw[seqIndex_neg (by (first|assumption|lia)) h3] at h1
   rw[List.size_toArray,← hl]
   exact Option.some.inj h1
  exact PySem.W.ki_setBack ho (by (first|assumption|lia)) (by rw[List.size_toArray,← hl];exact h3) (by (first|assumption|lia)) (by rw[hk];exact ⟨_,I',q⟩)
theorem zms (lo hi:Option Int) (n:Nat):(sliceBounds lo hi none n).1=((HT.sIx n 0 lo:Nat):Int)∧(sliceBounds lo hi none n).2.1=((HT.sIx n n hi:Nat):Int)∧(sliceBounds lo hi none n).2.2=1:=by
 refine ⟨?_,?_,rfl⟩
 ·cases lo with
  | none=>simp[sliceBounds,HT.sIx]
  | some i =>
   simp only[sliceBounds,HT.sIx,Option.getD_none,show (1:Int) > 0 by decide,if_true]
   by_cases h:i < 0
   ·simp only[h,if_true]<;>(first|assumption|lia)
   ·simp only[h,if_false]<;>(first|assumption|lia)
 ·cases hi with
  | none=>simp[sliceBounds,HT.sIx]
  | some i =>
   simp only[sliceBounds,HT.sIx,Option.getD_none,show (1:Int) > 0 by decide,if_true]
   by_cases h:i < 0
   ·simp only[h,if_true]<;>(first|assumption|lia)
   ·simp only[h,if_false]<;>(first|assumption|lia)
theorem zkx (its:List Value) (lo hi:Option Int):slicePick its.toArray lo hi none=((its.drop (HT.sIx its.length 0 lo)).take (HT.sIx its.length its.length hi - HT.sIx its.length 0 lo)).toArray:=by
 obtain ⟨h1,h2,h3⟩:=zms lo hi its.toArray.size
 unfold slicePick
 rw[h1,h2,h3]
 simp only[sliceRange_one,pick_run,List.size_toArray]<;>rfl
noncomputable def rSlL (K:PySem.W.Frag):V→Option Int→Option Int→Hp→VK→Prop:=fun x lo hi H Q=>∃a xs,x=.ref a∧SqL K H a xs∧∀p,H p=none→Q (.ref p) (upd H p (.lst (cutV xs lo hi)))
theorem zbaz:SlR X (rSlL X.K):=by
 intro pins s σ H x v vl vu lo hi sl Q I rx hs pl pu h
 obtain ⟨a,xs,rfl,hx,q⟩:=h
 cases rx
 obtain ⟨its,r,ht,hz⟩:=I.list hx
 have hlen:=r.length
 refine ⟨"list", _, slot_list_getitem.lookup, ht.isList.typeIs, ?_⟩
 refine wpAny_getItem_list_slice ht.isList hs pl pu .none (by simp) ?_ (by rw[List.size_toArray]<;>(first|assumption|lia))
 rw[zkx,← hlen]
 refine ⟨.ref s.heap.objs.size,_,I.laid (t':=s.toks) (o:=.lst (cutV xs lo hi)) (fun b ob q=>Heap.get?_push_of_some _ q) (Nat.le_refl _) ?_,rfl,q _ (I.hok.fresh (Nat.le_refl _))⟩
 exact ⟨Nat.le_trans (ziy xs lo hi) hz,_,0,(r.drop (HT.sIx xs.length 0 lo)).take (HT.sIx xs.length xs.length hi - HT.sIx xs.length 0 lo),Heap.get?_push_size _ rfl⟩
theorem zbv : CallR X (.builtin "len") (fun xs H Q => ∃ p ys, xs = [.ref p] ∧ (SqL X.K H p ys ∨ SqT X.K H p ys) ∧ Q (.int ys.length) H) := by
 intro pins s σ H xs us Q I r h
 obtain ⟨p,ys,rfl,hq,q⟩:=h
 obtain ⟨u,rfl,rx⟩:=vals1 r
 cases rx
 have hn:=line63
 rcases hq with hq | hq
 ·obtain ⟨its,r',pl,hz⟩:=I.list hq
  have hlen:=r'.length
  exact Calls.call_len_list pl.isList (by simp only[List.size_toArray]<;>(first|assumption|lia)) ⟨.int ys.length,H,I.tok _,⟨s.toks+1,by rw[List.size_toArray,hlen]⟩,q⟩
 ·obtain ⟨its,r',pl,hz⟩:=I.tuple hq
  have hlen:=r'.length
  exact len_tuple pl (by simp only[List.size_toArray]<;>(first|assumption|lia)) ⟨.int ys.length,H,I.tok _,⟨s.toks+1,by rw[List.size_toArray,hlen]⟩,q⟩
theorem CallR.or {f:Value} {r r':List V→Hp→VK→Prop} (h:CallR X f r) (h':CallR X f r'):CallR X f (fun xs H Q=>r xs H Q∨r' xs H Q):=by
 intro pins s σ H xs us Q I rs q
 rcases q with q | q
 ·exact h pins s σ H xs us Q I rs q
 ·exact h' pins s σ H xs us Q I rs q
theorem zcr : CallR X (.type "tuple") (fun xs H Q => ∃ p ys, xs = [.ref p] ∧ ((SqL X.K H p ys ∧ ∀ l, H l = none → Q (.ref l) (upd H l (.tup ys))) ∨ (SqT X.K H p ys ∧ Q (.ref p) H))) := by
 intro pins s σ H xs us Q I r h
 obtain ⟨p,ys,rfl,h⟩:=h
 obtain ⟨u,rfl,rx⟩:=vals1 r
 cases rx
 rcases h with ⟨hq,q⟩ | ⟨hq,q⟩
 ·obtain ⟨its,r',pl,hz⟩:=I.list hq
  have hlen:=r'.length
  refine call_tuple_list pl.isList (fun h' kp=>?_) (by simp only[List.size_toArray]<;>(first|assumption|lia))
  have I1:Inv X pins σ H {s with heap:=h'}:=I.kept (t':=s.toks) kp
  have I2 : Inv X pins σ (upd H h'.objs.size (.tup ys)) { s with heap := h'.push { cls := .type "tuple", data := .seq its.toArray } } :=
   I1.laid (t':=s.toks) (fun b o e=>Heap.get?_push_of_some _ e) (Nat.le_refl _) (show ObjOk X.prog X.w _ _ _ (.tup ys) from ⟨hz,its,r',IsTup.new _ _⟩)
  exact ⟨.ref h'.objs.size,_,I2,rfl,q _ (I1.hok.fresh (Nat.le_refl _))⟩
 ·obtain ⟨its,r',pl,hz⟩:=I.tuple hq
  exact call_tuple_same pl ⟨.ref p,H,I,rfl,q⟩
noncomputable def tyV (K:PySem.W.Frag) (T:String) (x:V) (H:Hp):Prop:=match x with
 | .str _ => T = "str"
 | .int _ => T = "int"
 | .ref p => (T = "list" ∧ ∃ xs, SqL K H p xs) ∨ (T = "tuple" ∧ ∃ o, K.lookup p = some o ∧ o.cls = .type "tuple" ∧ o.dict = none) ∨
  (T = "dict" ∧ ((∃ kvs, H p = some (.dK kvs)) ∨ ∃ kvs, H p = some (.dT kvs))) ∨ (T = "set" ∧ ∃ S n, H p = some (.set S n))
 | _=>False
theorem tyV_is {pins:List (Addr × Obj)} {σ:St} {H:Hp} {s:Shared} {T:String} {x:V} {v:Value} (I:Inv X pins σ H s) (r:RelV x v) (ty:tyV X.K T x H) :
  s.TypeIs v T∧∀a,v=.ref a→∃ob,s.heap.get? a=some ob∧ob.dict=none:=by
 cases x with
 | str z =>
  obtain ⟨t,rfl⟩:=r
  cases (show T = "str" from ty)
  exact ⟨typeIs_str s z t,fun _ e=>nomatch e⟩
 | int i =>
  obtain ⟨t,rfl⟩:=r
  cases (show T = "int" from ty)
  exact ⟨typeIs_int s i t,fun _ e=>nomatch e⟩
 | ref p =>
  cases r
  rcases ty with ⟨rfl,xs,hq⟩ | ⟨rfl,o,hk,hc,hd⟩ | ⟨rfl,hk⟩ | ⟨rfl,S,n,hk⟩
  ·obtain ⟨its,_,pl,_⟩:=I.list hq
   refine ⟨pl.isList.typeIs,fun a e=>?_⟩
   cases e
   obtain ⟨o,n,e,c,hd,_⟩:=pl
   exact ⟨o,e,hd⟩
  ·refine ⟨⟨o,I.kIn p o hk,hc⟩,fun a e=>?_⟩
   cases e
   exact ⟨o,I.kIn _ o hk,hd⟩
  ·have z:∃o,s.heap.get? p=some o∧o.ExactDict:=by
    rcases hk with ⟨kvs,hk⟩ | ⟨kvs,hk⟩
    ·obtain ⟨_,_,_,_,o,_,_,e,ex,_⟩:=I.hok p _ hk
     exact ⟨o,e,ex⟩
    ·obtain ⟨_,_,_,_,o,_,_,e,ex,_⟩:=I.hok p _ hk
     exact ⟨o,e,ex⟩
   obtain ⟨o,e,ex⟩:=z
   refine ⟨⟨o,e,ex.1⟩,fun a e2=>?_⟩
   cases e2
   exact ⟨o,e,ex.2.1⟩
  ·obtain ⟨o,_,_,_,e,ex,_⟩:=I.hok p _ hk
   refine ⟨⟨o,e,ex.1⟩,fun a e2=>?_⟩
   cases e2
   exact ⟨o,e,ex.2.1⟩
 | _=>exact False.elim ty
noncomputable def tBM (K:PySem.W.Frag) (T:String) (r:V→List V→Hp→VK→Prop) (to:TE) (t:TA):TE:=fun σ H Q=>to σ H fun x H1=>tyV K T x H1∧t σ H1 fun xs H2=>r x xs H2 Q
variable {o e:Expr} {es:List Expr} {to:TE} {t:TA} {name:Str} {apos cpos:Pos} {T id:String} {r:V→List V→Hp→VK→Prop}
theorem pe_bm (pa : PlainAttrs T) (slot : Slot T name id) (hty : typeOf (.builtin id) = pure (.type "method_descriptor")) (hm : MtR X id r) (ho : PE X o to) (ha : PA X (e :: es) t)
  (hbase:attributeBase o name X.env (eval o X.env)=eval o X.env:=by rfl)
  (hfew:((backTo cpos (starEach (e::es) X.env)).all (fun x=>!x.1) && (backToKw cpos (keywordEach [] X.env)).all (fun x=>x.1.isSome)
   && decide ((e::es).length+([]:List Keyword).length+(if ([]:List Keyword).isEmpty then 0 else 1) < 30))=true:=by rfl)
  (hline:(apos.endLine == cpos.line)=true:=by rfl) (hs:starEach (e::es) X.env=(false,eval e X.env)::starEach es X.env:=by rfl) (hplain:(backTo cpos (starEach es X.env)).any (·.1)=false:=by rfl) :
  PE X (.Call (.Attribute o name apos) (e::es) [] cpos) (tBM X.K T r to t):=by
 intro pins s σ H Q I h
 refine wpAny_Call_method_late hbase hfew hline rfl (thn (ho pins s σ H _ I h) fun v s1 hq0=>?_)
 obtain ⟨x,H1,I1,r1,ty,q1⟩:=hq0
 obtain ⟨h1,h2⟩:=tyV_is I1 r1 ty
 refine ⟨T,id,pa,slot,hty,h1,h2,?_⟩
 have hA:=ha cpos pins s1 σ H1 _ I1 q1
 rw[hs] at hA ⊢
 refine Calls.callWith_builtin (by show (false || (backTo cpos (starEach es X.env)).any (·.1))=false;rw[hplain]<;>rfl) (Calls.evalArgs_plain ?_)
 exact thn hA fun us s2 ⟨vs,H2,I2,r2,q2⟩=>hm pins s2 σ H2 x vs v us Q I2 r1 r2 q2
/- xs.append(e),list.index on a module's tuple .. are MtR facts of 06m -/
end
end L2
namespace L2
open PySem PySem.Spec PyProof.Rows
noncomputable def MtM (X:Cx) (id:String) (r:V→List V→Hp→VK→Prop):Prop :=
 ∀(pins:List (Addr × Obj)) (s:Shared) (σ:St) (H:Hp) (x:V) (xs:List V) (v:Value) (us:List Value) (Q:VK),Inv X pins σ H s→RelV x v→Vals xs us→r x xs H Q →
  wpAny (model X.prog X.w) X.A (call (.builtin id) (v::us)) (EP X pins σ Q) X.xe s
theorem Vals.one:∀{x:V} {us:List Value},Vals [x] us→∃u,us=[u]∧RelV x u
 | _,_,.cons r .nil=>⟨_,rfl,r⟩
section
variable {X:Cx} {pins:List (Addr × Obj)} {σ:St} {H:Hp} {s:Shared} {l b:Addr} {xs ys zs:List V}
theorem Inv.lset {its its':List Value} {n:Nat} {f:Array Value→Array Value} {t':Nat} (I:Inv X pins σ H s) (hH:H l=some (.lst xs))
  (e : s.heap.get? l = some { cls := .type "list", data := .seq its.toArray n }) (hf : f its.toArray = its'.toArray) (hv : Vals ys its') (hz : ys.length ≤ sizeLine) :
  Inv X pins σ (upd H l (.lst ys)) {s with heap:=s.heap.update l (Obj.mapSeq f),toks:=t'}:=by
 have q:=PySem.IsL.update e f
 rw[hf] at q
 refine I.write (x:=l) (e:=l) (by rw[hH];exact trivial) (.inl rfl) (fun b' u hb hu=>(Heap.get?_update_other s.heap (Obj.mapSeq f) (Ne.symm hb)).trans hu) ⟨_,q⟩ ?_
 exact ⟨hz,its',_,hv,q⟩
theorem Inv.lnew {its:List Value} {t':Nat} (I:Inv X pins σ H s) (hv:Vals ys its) (hz:ys.length≤sizeLine) :
  Inv X pins σ (upd H s.heap.objs.size (.lst ys)) { s with heap := s.heap.push { cls := .type "list", data := .seq its.toArray }, toks := t' } :=
 I.laid (fun _ _ q=>Heap.get?_push_of_some _ q) (Nat.le_refl _) ⟨hz,its,0,hv,Heap.get?_push_size _ rfl⟩
theorem Inv.fresh (I:Inv X pins σ H s):H s.heap.objs.size=none:=I.hok.fresh (Nat.le_refl _)
theorem Inv.lstM (I : Inv X pins σ H s) (hH : H l = some (.lst xs)) : xs.length ≤ sizeLine ∧ ∃ (its : List Value) (n : Nat), Vals xs its ∧ xs.length = its.length ∧ s.heap.get? l = some { cls := .type "list", data := .seq its.toArray n } := by
 obtain ⟨z,its,n,r,e⟩:=I.hok l _ hH
 exact ⟨z,its,n,r,r.length,e⟩
theorem notLongL {n:Nat} (h:n≤sizeLine):Builtin.List.listTooLong n=false:=by
 unfold Builtin.List.listTooLong
 exact decide_eq_false (by (first|assumption|lia))
end
section
variable {X:Cx}
noncomputable def rAppend:V→List V→Hp→VK→Prop:=fun x vs H Q=>∃l xs y,x=.ref l∧vs=[y]∧H l=some (.lst xs)∧xs.length < sizeLine∧Q .non (upd H l (.lst (xs++[y])))
theorem zoi : MtM X "list.append" rAppend := by
 intro pins s σ H x vs v us Q I rx rv h
 obtain ⟨l,xs,y,rfl,rfl,hH,hz,q⟩:=h
 cases rx
 obtain ⟨u,rfl,ru⟩:=rv.one
 obtain ⟨z,its,n,r,hl,e⟩:=I.lstM hH
 refine call_meets F.slot_list_append ⟨_,e,rfl⟩ F.entry_list_append (F.args_list_append_2 _ _) (PySem.list_append l its.toArray n u (by rw[List.size_toArray];(first|assumption|lia))) ⟨e,?_⟩
 refine ⟨.non,_,I.lset (its':=its++[u]) hH e (by simp) (r.append (.cons ru .nil)) ?_,rfl,q⟩
 rw[List.length_append,List.length_singleton]
 (first|assumption|lia)
noncomputable def rExtend:V→List V→Hp→VK→Prop:=fun x vs H Q=>∃l b xs zs,x=.ref l∧vs=[.ref b]∧H l=some (.lst xs)∧H b=some (.lst zs)∧xs.length+zs.length≤sizeLine∧Q .non (upd H l (.lst (xs++zs)))
theorem zuo : MtM X "list.extend" rExtend := by
 intro pins s σ H x vs v us Q I rx rv h
 obtain ⟨l,b,xs,zs,rfl,rfl,hH,hB,hz,q⟩:=h
 cases rx
 obtain ⟨u,rfl,ru⟩:=rv.one
 cases ru
 obtain ⟨z,its,n,r,hl,e⟩:=I.lstM hH
 obtain ⟨z2,its2,n2,r2,hl2,e2⟩:=I.lstM hB
 have hsz:its.toArray.size+its2.toArray.size≤sizeLine:=by rw[List.size_toArray,List.size_toArray];(first|assumption|lia)
 have hlong:¬ (!its.toArray.isEmpty && Builtin.List.listTooLong (its.toArray.size+its2.toArray.size))=true:=by
  rw[notLongL hsz,Bool.and_false]
  exact Bool.false_ne_true
 refine call_meets F.slot_list_extend ⟨_,e,rfl⟩ F.entry_list_extend (F.args_list_extend_2 _ _)
  (AutoSeq1.list_extend_list_list_0 l its.toArray n b its2.toArray n2 hlong (by rw[List.size_toArray];(first|assumption|lia)) (by (first|assumption|lia))) ⟨e,e2,?_⟩
 refine ⟨.non,_,I.lset (its':=its++its2) hH e (by simp) (r.append r2) ?_,rfl,q⟩
 rw[List.length_append]
 (first|assumption|lia)
noncomputable def rCat:R2:=fun x y H Q=>∃l b xs zs,x=.ref l∧y=.ref b∧H l=some (.lst xs)∧H b=some (.lst zs)∧xs.length+zs.length≤sizeLine∧∀p,H p=none→Q (.ref p) (upd H p (.lst (xs++zs)))
theorem op_cat:OpR X (binaryOp .Add) rCat:=by
 intro pins s σ H x y v u Q I rx ry h
 obtain ⟨l,b,xs,zs,rfl,rfl,hH,hB,hz,q⟩:=h
 cases rx
 cases ry
 obtain ⟨z,its,n,r,hl,e⟩:=I.lstM hH
 obtain ⟨z2,its2,n2,r2,hl2,e2⟩:=I.lstM hB
 refine PySem.P.add_list e e2 ?_ (by rw[List.size_toArray,List.size_toArray];(first|assumption|lia))
 have ea:its.toArray++its2.toArray=(its++its2).toArray:=by simp
 rw[ea]
 exact ⟨.ref _,_,I.lnew (t':=s.toks) (r.append r2) (by rw[List.length_append];(first|assumption|lia)),rfl,q _ I.fresh⟩
end
section
variable {prog:Program} {w:World} {A:Around} {E:Value→Shared→Prop} {s:Shared}
end
section
variable {X:Cx}
end
end L2
namespace L2
open PySem PySem.Spec PyProof.Rows
section
variable {κ:Type} [DecidableEq κ]
noncomputable def valV (kvs:List (κ × V)) (k:κ):Option V:=(kvs.find? fun kv=>decide (kv.1=k)).map (·.2)
noncomputable def putK (kvs:List (κ × V)) (k:κ) (v:V):List (κ × V) :=
 if (kvs.any fun kv=>decide (kv.1=k))=true then kvs.map (fun kv=>if kv.1=k then (kv.1,v) else kv) else kvs++[(k,v)]
noncomputable def dropK (kvs:List (κ × V)) (k:κ):List (κ × V):=kvs.filter fun kv=>decide (kv.1≠k)
theorem zjd {p:κ × V} {r:List (κ × V)} {k:κ} (e:p.1=k):valV (p::r) k=some p.2:=by simp[valV,List.find?_cons,e]
theorem zje {p:κ × V} {r:List (κ × V)} {k:κ} (e:¬ p.1=k):valV (p::r) k=valV r k:=by simp[valV,List.find?_cons,e]
theorem zqe (k:κ):∀kvs:List (κ × V),(kvs.any fun kv=>decide (kv.1=k))=(valV kvs k).isSome
 | []=>rfl
 | p::r=>by
  rw[List.any_cons]
  by_cases e:p.1=k
  ·simp only[zjd e,decide_eq_true e,Bool.true_or,Option.isSome_some]
  ·rw[zje e,decide_eq_false e,Bool.false_or];exact zqe k r
theorem ziu (kvs:List (κ × V)) (k:κ) (v:V):(putK kvs k v).length≤kvs.length+1:=by
 unfold putK
 split
 ·rw[List.length_map];(first|assumption|lia)
 ·rw[List.length_append,List.length_cons,List.length_nil];(first|assumption|lia)
theorem RelO.isSome_eq {o:Option V} {u:Option Value} (r:RelO o u):o.isSome=u.isSome:=by
 cases o with
 | none=>cases u with
  | none=>rfl
  | some _=>exact (show False from r).elim
 | some _=>cases u with
  | none=>exact (show False from r).elim
  | some _=>rfl
theorem RelO.getD {o:Option V} {u:Option Value} {d:V} {d':Value} (r:RelO o u) (rd:RelV d d'):RelV (o.getD d) (u.getD d'):=by
 cases o with
 | none=>cases u with
  | none=>exact rd
  | some _=>exact (show False from r).elim
 | some _=>cases u with
  | none=>exact (show False from r).elim
  | some _=>exact r
theorem KV.val {kvs:List (κ × V)} {vs:List (κ × Value)} (r:KV kvs vs) (k:κ):RelO (valV kvs k) (valueAt vs k):=by
 unfold KV at r
 induction r with
 | nil=>exact True.intro
 | @cons p q ps qs h t ih =>
  obtain ⟨h1,h2⟩:=h
  by_cases e:p.1=k
  ·have e':q.1=k:=h1.symm.trans e
   have b:valueAt (q::qs) k=some q.2:=by simp[valueAt,List.find?_cons,e']
   rw[zjd e,b];exact h2
  ·have e':¬ q.1=k:=fun z=>e (h1.trans z)
   have b:valueAt (q::qs) k=valueAt qs k:=by simp[valueAt,List.find?_cons,e']
   rw[zje e,b];exact ih
theorem KV.any {kvs:List (κ × V)} {vs:List (κ × Value)} (r:KV kvs vs) (k:κ):(kvs.any fun kv=>decide (kv.1=k))=vs.any fun kv=>decide (kv.1=k):=by
 unfold KV at r
 induction r with
 | nil=>rfl
 | cons h t ih=>rw[List.any_cons,List.any_cons,ih,h.1]
theorem KV.repl {kvs:List (κ × V)} {vs:List (κ × Value)} (r:KV kvs vs) (k:κ) {y:V} {u:Value} (ry:RelV y u) :
  KV (kvs.map fun kv=>if kv.1=k then (kv.1,y) else kv) (vs.map fun kv=>if kv.1=k then (kv.1,u) else kv):=by
 unfold KV at r ⊢
 induction r with
 | nil=>exact .nil
 | @cons p q ps qs h t ih =>
  rw[List.map_cons,List.map_cons]
  refine .cons ?_ ih
  obtain ⟨h1,h2⟩:=h
  by_cases e:p.1=k
  ·rw[if_pos e,if_pos (h1.symm.trans e)];exact ⟨h1,ry⟩
  ·rw[if_neg e,if_neg (fun z=>e (h1.trans z))];exact ⟨h1,h2⟩
theorem KV.put {kvs:List (κ × V)} {vs:List (κ × Value)} (r:KV kvs vs) (k:κ) {y:V} {u:Value} (ry:RelV y u):KV (putK kvs k y) (stored vs k u):=by
 unfold putK stored
 rw[r.any k]
 by_cases e:(vs.any fun kv=>decide (kv.1=k))=true
 ·rw[if_pos e,if_pos e];exact r.repl k ry
 ·rw[if_neg e,if_neg e];exact Paired.snoc r ⟨rfl,ry⟩
theorem KV.length {kvs:List (κ × V)} {vs:List (κ × Value)} (r:KV kvs vs):kvs.length=vs.length:=Paired.length r
end
theorem kV_is {P:Program} {w:World} {k:Key} {u:Value} (r:RelV (kV k) u):(mixKind P w).is k u=true:=by
 cases k with
 | inl i=>obtain ⟨t,e⟩:=(show ∃t,u=Value.int i t from r);subst e;exact zpu P w i t
 | inr x=>obtain ⟨t,e⟩:=(show ∃t,u=Value.str x t from r);subst e;exact zpt P w x t
theorem zon {P:Program} {w:World}:∀{ks:List Key} {us:List Value},Vals (ks.map kV) us→ItemsAre (mixKind P w) ks us
 | [],_,r=>by rw[List.map_nil] at r;cases r;exact .nil
 | k::ks,_,r=>by
  rw[List.map_cons] at r
  cases r with
  | cons h t=>exact .cons (kV_is h) (zon t)
noncomputable abbrev KT (H:Hp):List (List Key × V)→List (List Key × Addr × Value)→Prop:=Paired fun p q=>p.1=q.1∧H q.2.1=some (.tup (p.1.map kV))∧RelV p.2 q.2.2
theorem KT.val {H:Hp} {kvs:List (List Key × V)} {xs:List (List Key × Addr × Value)} (r:KT H kvs xs) (k:List Key):RelO (valV kvs k) ((atKey xs k).map (·.2)):=by
 induction r with
 | nil=>exact True.intro
 | @cons p q ps qs h t ih =>
  obtain ⟨h1,_,h2⟩:=h
  by_cases e:p.1=k
  ·have e':q.1=k:=h1.symm.trans e
   have b:atKey (q::qs) k=some q.2:=by simp[atKey,List.find?_cons,e']
   rw[zjd e,b];exact h2
  ·have e':¬ q.1=k:=fun z=>e (h1.trans z)
   have b:atKey (q::qs) k=atKey qs k:=by simp[atKey,List.find?_cons,e']
   rw[zje e,b];exact ih
theorem KT.repl {H:Hp} {kvs:List (List Key × V)} {xs:List (List Key × Addr × Value)} (r:KT H kvs xs) (k:List Key) {y:V} {u:Value} (ry:RelV y u) :
  KT H (kvs.map fun kv=>if kv.1=k then (kv.1,y) else kv) (xs.map (putAt k u)):=by
 induction r with
 | nil=>exact .nil
 | @cons p q ps qs h t ih =>
  rw[List.map_cons,List.map_cons]
  refine .cons ?_ ih
  obtain ⟨h1,h2,h3⟩:=h
  unfold putAt
  by_cases e:p.1=k
  ·rw[if_pos e,if_pos (h1.symm.trans e)];exact ⟨h1,h2,ry⟩
  ·rw[if_neg e,if_neg (fun z=>e (h1.trans z))];exact ⟨h1,h2,h3⟩
theorem KT.put {H:Hp} {kvs:List (List Key × V)} {xs:List (List Key × Addr × Value)} (r:KT H kvs xs) (k:List Key) {b:Addr} {y:V} {u:Value} (hb:H b=some (.tup (k.map kV))) (ry:RelV y u) :
  KT H (putK kvs k y) (storedH xs k b u):=by
 have e:(kvs.any fun kv=>decide (kv.1=k))=(atKey xs k).isSome:=by
  rw[zqe,(r.val k).isSome_eq,Option.isSome_map]
 unfold putK storedH
 rw[e]
 by_cases q:(atKey xs k).isSome=true
 ·rw[if_pos q,if_pos q];exact r.repl k ry
 ·rw[if_neg q,if_neg q];exact Paired.snoc r ⟨rfl,hb,ry⟩
theorem KT.keeps {H H':Hp} {kvs:List (List Key × V)} {xs:List (List Key × Addr × Value)} (r:KT H kvs xs) (ht:∀b ys,H b=some (.tup ys)→H' b=some (.tup ys)):KT H' kvs xs :=
 Paired.mapP r fun _ _ z=>⟨z.1,ht _ _ z.2.1,z.2.2⟩
section
variable {P:Program} {w:World} {H:Hp} {h:Heap} {a:Addr}
theorem rd_of {u:HO} (ok:HOk P w H h) (e:Rd H a u):ObjOk P w H h a u:=e.ok ok
theorem dk_rd {kvs:List (Key × V)} (ok:HOk P w H h) (e:Rd H a (.dK kvs)):kvs.length≤sizeLine∧(a == sysModules)=false∧∃vs,KV kvs vs∧h.DictOf (mixKind P w) a vs :=
 show ObjOk P w H h a (.dK kvs) from rd_of ok e
theorem dk_of {kvs:List (Key × V)} (ok:HOk P w H h) (e:H a=some (.dK kvs)):kvs.length≤sizeLine∧(a == sysModules)=false∧∃vs,KV kvs vs∧h.DictOf (mixKind P w) a vs:=dk_rd ok (.inl e)
theorem key_of {ks:List Key} (ok:HOk P w H h) (e:H a=some (.tup (ks.map kV))):(tupleKind (mixKind P w)).is h ks a:=by
 obtain ⟨_,its,r,o,h1,h2,n,h3⟩:=(show ObjOk P w H h a (.tup (ks.map kV)) from ok a _ e)
 exact ⟨o,its.toArray,n,h1,h2,h3,by simpa using zon r⟩
theorem dt_rd {kvs:List (List Key × V)} (ok:HOk P w H h) (e:Rd H a (.dT kvs)):kvs.length≤sizeLine∧(a == sysModules)=false ∧
  ∃xs,KT H kvs xs∧h.DictOfH (tupleKind (mixKind P w)) a xs:=by
 obtain ⟨z,y,xs,r,o,es,ep,h1,h2,h3,h4,h5⟩:=(show ObjOk P w H h a (.dT kvs) from rd_of ok e)
 refine ⟨z,y,xs,r,o,es,ep,h1,h2,h3,h4,fun x hx=>?_,h5⟩
 have all:∀{l:List (List Key × V)} {m:List (List Key × Addr × Value)},KT H l m→∀x∈m,(tupleKind (mixKind P w)).is h x.1 x.2.1:=by
  intro l m q
  induction q with
  | nil=>intro x hx;exact nomatch hx
  | @cons p q ps qs hq t ih =>
   intro x hx
   rcases List.mem_cons.mp hx with e | hx
   ·subst e
    exact key_of ok (by rw[← hq.1];exact hq.2.1)
   ·exact ih x hx
 exact all r x hx
theorem dt_of {kvs:List (List Key × V)} (ok:HOk P w H h) (e:H a=some (.dT kvs)):kvs.length≤sizeLine∧(a == sysModules)=false ∧
 ∃xs,KT H kvs xs∧h.DictOfH (tupleKind (mixKind P w)) a xs:=dt_rd ok (.inl e)
end
noncomputable def DGet (H:Hp) (a:Addr) (y:V) (r:Option V):Prop :=
 (∃kvs k,Rd H a (.dK kvs)∧y=kV k∧r=valV kvs k)∨∃kvs k b,Rd H a (.dT kvs)∧y=.ref b∧H b=some (.tup (k.map kV))∧r=valV kvs k
noncomputable def DPut (H:Hp) (a:Addr) (y v:V) (H':Hp):Prop :=
 (∃kvs k,H a=some (.dK kvs)∧y=kV k∧kvs.length < sizeLine∧H'=upd H a (.dK (putK kvs k v))) ∨
 ∃kvs k b,H a=some (.dT kvs)∧y=.ref b∧H b=some (.tup (k.map kV))∧kvs.length < sizeLine∧H'=upd H a (.dT (putK kvs k v))
theorem DPut.t {H:Hp} {a b:Addr} {kvs:List (List Key × V)} {k:List Key} {v:V} (e:H a=some (.dT kvs)) (eb:H b=some (.tup (k.map kV))) (hl:kvs.length < sizeLine) :
 DPut H a (.ref b) v (upd H a (.dT (putK kvs k v))):=.inr ⟨kvs,k,b,e,rfl,eb,hl,rfl⟩
section
variable {X:Cx} {pins:List (Addr × Obj)} {σ:St} {H:Hp} {s:Shared} {a:Addr} {y v:V} {u r:Value} {o:Option V} {A:Around} {E:Value→Shared→Prop}
theorem Inv.big (I:Inv X pins σ H s):sysModules < s.heap.objs.size:=by
 have h:mainGlobals < s.heap.objs.size:=(I.mod.glob.keeps I.bk).lt
 exact Nat.lt_trans (by decide) h
theorem zvu {Q:Value→Shared→Prop} (hu:A.units+1 < cLine) (I:Inv X pins σ H s) (g:DGet H a y (some v)) (ry:RelV y u) (h:∀w' s',Inv X pins σ H s'→RelV v w'→Q w' s') :
  wpAny (model X.prog X.w) A (getItem (.ref a) u) Q E s:=by
 rcases g with ⟨kvs,k,e,ey,l⟩ | ⟨kvs,k,b,e,ey,eb,l⟩
 ·subst ey
  obtain ⟨z,hd,vs,rel,dd⟩:=dk_rd I.hok e
  obtain ⟨w',hw,rw'⟩:=RelO.some_of (v:=v) (o:=valueAt vs k) (by rw[l];exact rel.val k)
  exact wpAny_getItem_of (kV_is ry) dd.mapOf hw (h w' _ (I.tok _) rw')
 ·subst ey
  cases (show u=Value.ref b from ry)
  obtain ⟨z,hd,xs,rel,dd⟩:=dt_rd I.hok e
  obtain ⟨w',hw,rw'⟩:=RelO.some_of (v:=v) (o:=(atKey xs k).map (·.2)) (by rw[l];exact rel.val k)
  obtain ⟨p,hp,hp2⟩:=Option.map_eq_some_iff.mp hw
  refine wpAny_getItem_heap (tupleKind_room_in1 hu) (key_of I.hok eb) dd hp ?_
  rw[hp2]
  exact h w' _ (I.tok _) rw'
theorem d_in {Q:Value→Shared→Prop} (hu:A.units+1 < cLine) (I:Inv X pins σ H s) (g:DGet H a y o) (ry:RelV y u) (h:∀s',Inv X pins σ H s'→Q (.bool o.isSome) s') :
  wpAny (model X.prog X.w) A (compareOp .In u (.ref a)) Q E s:=by
 rcases g with ⟨kvs,k,e,ey,l⟩ | ⟨kvs,k,b,e,ey,eb,l⟩
 ·subst ey
  obtain ⟨z,hd,vs,rel,dd⟩:=dk_rd I.hok e
  refine wpAny_in_of (kV_is ry) hd dd.mapOf ?_
  rw[← (rel.val k).isSome_eq,← l]
  exact h _ (I.tok _)
 ·subst ey
  cases (show u=Value.ref b from ry)
  obtain ⟨z,hd,xs,rel,dd⟩:=dt_rd I.hok e
  refine wpAny_in_heap (tupleKind_room_in1 hu) (key_of I.hok eb) hd dd ?_
  have q:=(rel.val k).isSome_eq
  rw[Option.isSome_map] at q
  rw[← q,← l]
  exact h _ (I.tok _)
theorem zsq {h':Heap} {t':Nat} {ob:HO} (I:Inv X pins σ H s) (mu:Mut (H a)) (hs:Heap.SameBut a s.heap h') (he:∃q,h'.get? a=some q) (new:ObjOk X.prog X.w (upd H a ob) h' a ob) :
  Inv X pins σ (upd H a ob) {s with heap:=h',toks:=t'} :=
 I.write (x:=a) (e:=a) mu (.inl rfl) (fun b q hb z=>(hs.2 b hb).trans z) he new
theorem dk_new {P:Program} {w:World} {H':Hp} {h':Heap} {kvs:List (Key × V)} {vs:List (Key × Value)} (z:kvs.length≤sizeLine) (hd:(a == sysModules)=false) (rel:KV kvs vs) (dd:h'.DictOf (mixKind P w) a vs) :
 ObjOk P w H' h' a (.dK kvs):=⟨z,hd,vs,rel,dd⟩
theorem zvt {H':Hp} {Q:Unit→Shared→Prop} (hu:A.units+1 < cLine) (I:Inv X pins σ H s) (g:DPut H a y v H') (ry:RelV y u) (rv:RelV v r) (h:∀s',Inv X pins σ H' s'→Q () s') :
  wpAny (model X.prog X.w) A (setItem (.ref a) u r) Q E s:=by
 rcases g with ⟨kvs,k,e,ey,l,eH⟩ | ⟨kvs,k,b,e,ey,eb,l,eH⟩
 ·subst ey eH
  obtain ⟨z,hd,vs,rel,dd⟩:=dk_of I.hok e
  have hz:vs.length≤sizeLine:=by rw[← rel.length];exact z
  have hl:(putK kvs k v).length≤sizeLine:=by have:=ziu kvs k v;(first|assumption|lia)
  refine wpAny_setItem_pairs (hsz:=hz) (kV_is ry) dd fun h' dd' hs=>h _ ?_
  have he:∃q,h'.get? a=some q:=let ⟨q,_,_,hq,_⟩:=dd';⟨q,hq⟩
  exact zsq I (by rw[e];exact True.intro) hs he (dk_new hl hd (rel.put k rv) dd')
 ·subst ey eH
  cases (show u=Value.ref b from ry)
  obtain ⟨z,hd,xs,rel,dd⟩:=dt_of I.hok e
  have hz:xs.length≤sizeLine:=by rw[← Paired.length rel];exact z
  have hl:(putK kvs k v).length≤sizeLine:=by have:=ziu kvs k v;(first|assumption|lia)
  refine wpAny_setItem_heap (hsz:=hz) (tupleKind_room_in1 hu) (key_of I.hok eb) dd fun h' dd' hs=>h _ ?_
  obtain ⟨q,es,ep,hq,h2,h3,h4,_,h5⟩:=dd'
  refine zsq I (by rw[e];exact True.intro) hs ⟨q,hq⟩ ⟨hl,hd,_,(rel.put k eb rv).keeps fun c ys ec=>?_,q,es,ep,hq,h2,h3,h4,h5⟩
  rw[upd_ne (ne_of ec e (fun z=>nomatch z))]
  exact ec
end
section
variable {X:Cx} {pins:List (Addr × Obj)} {σ:St} {H:Hp} {s:Shared} {a:Addr} {kvs:List (Key × V)} {k:Key} {u:Value} {A:Around} {E:Value→Shared→Prop}
end
noncomputable def NoSl (i:Expr):Prop:=∀ov iv,subscripted i false ov iv=operate [ov,iv] (getItem ov iv)
theorem zbax {prog:Program} {w:World} {A:Around} {E:Value→Shared→Prop} {s:Shared} {env:Env} {value slice:Expr} {pos:Pos} {T id:String} {Q:Value→Shared→Prop}
  (hl : typeLookup (.type T) "__getitem__" = pure (some (.builtin id))) (hs : NoSl slice)
  (h:wpAny (model prog w) A (eval value env) (fun o s₁=>wpAny (model prog w) A (eval slice env) (fun i s₂=>s₂.TypeIs o T∧wpAny (model prog w) A (getItem o i) Q E s₂) E s₁) E s) :
  wpAny (model prog w) A (eval (.Subscript value slice pos) env) Q E s:=by
 refine Subscript_ (wpAny_mono h (fun o s₁ h₁=>wpAny_mono h₁ (fun i s₂ h₂=>?_) fun _ _ x=>x) fun _ _ x=>x)
 obtain ⟨hT,h₂⟩:=h₂
 unfold subscriptTail
 refine wpAny_bind ?_
 rw[getitemInPython_of_ne hT.not_modules]
 refine wpAny_bind (wpAny_specialOf hT hl ?_)
 have fin:wpAny (model prog w) A (subscripted slice false o i) (fun r s₃=>wpAny (model prog w) A (letTemporaryGo value o r >>= fun _=>pure r) Q E s₃) E s₂:=by
  rw[hs o i]
  exact wpAny_operating (wpAny_mono h₂ (fun r s₃ h₃=>wpAny_bind (wpAny_letTemporaryGo (wpAny_pure h₃))) fun _ _ x=>x)
 first
  | exact wpAny_pure (wpAny_bind fin)
  | exact wpAny_bind (wpAny_pure (wpAny_bind fin))
  | exact wpAny_bind fin
theorem zpz {X : Cx} {pins : List (Addr × Obj)} {σ : St} {H : Hp} {s : Shared} {a : Addr} {y : V} {o : Option V} (I : Inv X pins σ H s) (g : DGet H a y o) : s.TypeIs (.ref a) "dict" := by
 rcases g with ⟨kvs,k,e,_,_⟩ | ⟨kvs,k,b,e,_,_,_⟩
 ·obtain ⟨_,_,vs,_,dd⟩:=dk_rd I.hok e
  exact dd.typeIs
 ·obtain ⟨_,_,xs,_,dd⟩:=dt_rd I.hok e
  exact dd.typeIs
noncomputable def tDGet (td ty:TE):TE:=fun σ H Q=>td σ H fun x H1=>ty σ H1 fun y H2=>∃a v,x=.ref a∧DGet H2 a y (some v)∧Q v H2
noncomputable def tDIn (ty td:TE):TE:=fun σ H Q=>ty σ H fun y H1=>td σ H1 fun x H2=>∃a o,x=.ref a∧DGet H2 a y o∧Q (.bl o.isSome) H2
noncomputable def sDPut (td ty tv:TE):TS:=fun D σ H=>tv σ H fun v H1=>td σ H1 fun x H2=>ty σ H2 fun y H3=>∃a H4,x=.ref a∧DPut H3 a y v H4∧D.nx σ H4
section
variable {X:Cx} {o i e value:Expr} {pos pos' tpos:Pos} {td ty tv:TE}
theorem zbbr (hu:X.A.units+1 < cLine) (ho:PE X o td) (hi:PE X i ty) (hs:NoSl i):PE X (.Subscript o i pos) (tDGet td ty):=by
 intro pins s σ H Q I h
 refine zbax PySem.F.slot_dict_getitem.lookup hs (thn (ho pins s σ H _ I h) fun u s1 ⟨x,H1,I1,rx,q1⟩=>thn (hi pins s1 σ H1 _ I1 q1) fun iv s2 hq0=>?_)
 obtain ⟨y,H2,I2,ry,a,v,ex,g,q2⟩:=hq0
 subst ex
 obtain rfl:u=Value.ref a:=rx
 exact ⟨zpz I2 g,zvu hu I2 g ry fun w' s3 I3 rw'=>⟨v,H2,I3,rw',q2⟩⟩
theorem pc_din (hu:X.A.units+1 < cLine) (hi:PE X i ty) (ho:PE X o td):PC X .In i o (tDIn ty td):=by
 intro pins s σ H Q I h
 refine thn (hi pins s σ H _ I h) fun iv s1 ⟨y,H1,I1,ry,q1⟩=>thn (ho pins s1 σ H1 _ I1 q1) fun u s2 hq0=>?_
 obtain ⟨x,H2,I2,rx,a,ov,ex,g,q2⟩:=hq0
 subst ex
 obtain rfl:u=Value.ref a:=rx
 exact d_in hu I2 g ry fun s3 I3=>⟨.bl ov.isSome,H2,I3,rfl,q2⟩
theorem zbbi (hu:X.A.units+1 < cLine) (ho:PE X o td) (hi:PE X i ty) (hv:PE X value tv) (hs:swapsWith value (some (.Subscript o i pos')) pos.line X.env=pure false) :
  PS X (.Assign [.Subscript o i pos'] value pos) (sDPut td ty tv):=by
 intro pins s σ H D I h
 refine wpAny_Assign_Subscript (thn (hv pins s σ H _ I h) fun r s1 ⟨v,H1,I1,rv,q1⟩=>thn (ho pins s1 σ H1 _ I1 q1) fun u s2 ⟨x,H2,I2,rx,q2⟩=>thn (hi pins s2 σ H2 _ I2 q2) fun iv s3 hq0=>?_) hs
 obtain ⟨y,H3,I3,ry,a,H4,ex,g,q3⟩:=hq0
 subst ex
 obtain rfl:u=Value.ref a:=rx
 exact zvt hu I3 g ry rv fun s4 I4=>⟨σ,H4,I4,q3⟩
end
theorem zzr {P : Program} {w : World} {H : Hp} (h : Heap) (hb : sysModules < h.objs.size) : ObjOk P w H (h.push { cls := .type "dict", data := .dict #[] }) h.objs.size (.dT []) :=
 ⟨Nat.zero_le _,beq_eq_false_iff_ne.mpr (Ne.symm (Nat.ne_of_lt hb)),[],.nil,_,#[],0,Heap.get?_push_size _ rfl,⟨rfl,rfl,rfl⟩,rfl,rfl,List.nodup_nil⟩
noncomputable def tDNewT:TE:=fun _ H Q=>∀p,H p=none→Q (.ref p) (upd H p (.dT []))
section
variable {X:Cx} {pos:Pos}
theorem zyp:PE X (.Dict [] [] pos) tDNewT:=fun pins s σ H Q I h =>
 wpAny_Dict_empty ⟨.ref s.heap.objs.size,_,I.laid (a:=s.heap.objs.size) (o:=.dT []) (t':=s.toks) (fun _ _ q=>Heap.get?_push_of_some _ q) (Nat.le_refl _) (zzr s.heap I.big),rfl,h _ (I.hok.fresh (Nat.le_refl _))⟩
end
structure M1 (X:Cx) (o:Expr) (m:Str) (apos:Pos) (e:Expr) (cpos:Pos):Prop where
 base:attributeBase o m X.env (eval o X.env)=eval o X.env
 few:((backTo cpos (starEach [e] X.env)).all (fun x=>!x.1) && (backToKw cpos (keywordEach [] X.env)).all (fun x=>x.1.isSome)
  && decide (([e]:List Expr).length+([]:List Keyword).length+(if ([]:List Keyword).isEmpty then 0 else 1) < 30))=true
 line:(apos.endLine == cpos.line)=true
 trees:backTo cpos (starEach [e] X.env)=[(false,eval e X.env)]
structure M2 (X:Cx) (o:Expr) (m:Str) (apos:Pos) (e f:Expr) (cpos:Pos):Prop where
 base:attributeBase o m X.env (eval o X.env)=eval o X.env
 few:((backTo cpos (starEach [e,f] X.env)).all (fun x=>!x.1) && (backToKw cpos (keywordEach [] X.env)).all (fun x=>x.1.isSome)
  && decide (([e,f]:List Expr).length+([]:List Keyword).length+(if ([]:List Keyword).isEmpty then 0 else 1) < 30))=true
 line:(apos.endLine == cpos.line)=true
 trees:backTo cpos (starEach [e,f] X.env)=[(false,eval e X.env),(false,eval f X.env)]
noncomputable def IsD (H:Hp) (a:Addr):Prop:=(∃kvs,Rd H a (.dK kvs))∨∃kvs,Rd H a (.dT kvs)
theorem isD_at {X:Cx} {pins:List (Addr × Obj)} {σ:St} {H:Hp} {s:Shared} {a:Addr} (I:Inv X pins σ H s) (d:IsD H a) :
  s.TypeIs (.ref a) "dict" ∧ (∀ b, Value.ref a = .ref b → ∃ ob, s.heap.get? b = some ob ∧ ob.dict = none) ∧ (a == sysModules) = false := by
 rcases d with ⟨kvs,e⟩ | ⟨kvs,e⟩
 ·obtain ⟨_,hd,vs,_,dd⟩:=dk_rd I.hok e
  refine ⟨dd.typeIs,fun b q=>?_,hd⟩
  cases q
  obtain ⟨ob,_,_,h1,h2,_⟩:=dd
  exact ⟨ob,h1,h2.2.1⟩
 ·obtain ⟨_,hd,xs,_,dd⟩:=dt_rd I.hok e
  refine ⟨dd.typeIs,fun b q=>?_,hd⟩
  cases q
  obtain ⟨ob,_,_,h1,h2,_⟩:=dd
  exact ⟨ob,h1,h2.2.1⟩
section
variable {X:Cx} {pins:List (Addr × Obj)} {σ:St} {H:Hp} {s:Shared} {a:Addr} {y d:V} {u r:Value} {o:Option V} {A:Around} {E:Value→Shared→Prop}
theorem d_get2 {Q:Value→Shared→Prop} (hu:A.units+1 < cLine) (I:Inv X pins σ H s) (g:DGet H a y o) (ry:RelV y u) (rd:RelV d r) (h:∀w' s',Inv X pins σ H s'→RelV (o.getD d) w'→Q w' s') :
  wpAny (model X.prog X.w) A (call (.builtin "dict.get") [.ref a, u, r]) Q E s := by
 rcases g with ⟨kvs,k,e,ey,l⟩ | ⟨kvs,k,b,e,ey,eb,l⟩
 ·subst ey
  obtain ⟨z,hd,vs,rel,dd⟩:=dk_rd I.hok e
  refine call_meetsIn PySem.F.slot_dict_get dd.typeIs PySem.F.entry_dict_get (PySem.F.args_dict_get_3 _ _ _) (meets_dict_get_default (mixKind X.prog X.w) a (kV_is ry) hd r) ⟨_,dd.mapOf,h _ _ (I.tok _) ?_⟩
  rw[l]
  exact (rel.val k).getD rd
 ·subst ey
  cases (show u=Value.ref b from ry)
  obtain ⟨z,hd,xs,rel,dd⟩:=dt_rd I.hok e
  refine call_meetsIn PySem.F.slot_dict_get dd.typeIs PySem.F.entry_dict_get (PySem.F.args_dict_get_3 _ _ _) (meetsH_dict_get_default (tupleKind (mixKind X.prog X.w)) a b hd r) ⟨tupleKind_room_in1 hu,k,xs,key_of I.hok eb,dd,h _ _ (I.tok _) ?_⟩
  rw[l]
  exact (rel.val k).getD rd
end
noncomputable def tDGet2 (td ty tx:TE):TE:=fun σ H Q=>td σ H fun x H1=>∃a,x=.ref a∧IsD H1 a∧ty σ H1 fun y H2=>tx σ H2 fun z H3=>∃o,DGet H3 a y o∧Q (o.getD z) H3
section
variable {X:Cx} {o e f:Expr} {apos cpos:Pos} {td ty tx:TE}
theorem zyq (hu : X.A.units + 1 < cLine) (ho : PE X o td) (he : PE X e ty) (hf : PE X f tx) (m : M2 X o "get" apos e f cpos) : PE X (.Call (.Attribute o "get" apos) [e, f] [] cpos) (tDGet2 td ty tx) := by
 intro pins s σ H Q I h
 refine wpAny_Call_method m.base m.few m.line PySem.F.plainAttrs_dict PySem.F.slot_dict_get PySem.F.type_dict_get (thn (ho pins s σ H _ I h) fun u s1 hq0=>?_)
 obtain ⟨x,H1,I1,rx,a,ex,d,q1⟩:=hq0
 subst ex
 obtain rfl:u=Value.ref a:=rx
 obtain ⟨t1,t2,_⟩:=isD_at I1 d
 refine ⟨t1,t2,?_⟩
 rw[m.trees]
 refine Calls.callWith_builtin rfl (Calls.evalArgs_plain (Calls.spliced_cons (thn (he pins s1 σ H1 _ I1 q1) fun iv s2 ⟨y,H2,I2,ry,q2⟩ =>
  Calls.spliced_cons (thn (hf pins s2 σ H2 _ I2 q2) fun fv s3 ⟨z,H3,I3,rz,ov,g,q3⟩=>Calls.spliced_nil ?_))))
 exact d_get2 hu I3 g ry rz fun w' s4 I4 rw'=>⟨_,H3,I4,rw',q3⟩
end
section
variable {X:Cx} {pins:List (Addr × Obj)} {σ:St} {H:Hp} {s:Shared} {a:Addr} {kvs:List (Key × V)} {A:Around} {E:Value→Shared→Prop}
end
section
variable {X:Cx} {pins:List (Addr × Obj)} {σ:St} {H:Hp} {s:Shared} {a:Addr} {y:V} {u:Value} {A:Around} {E:Value→Shared→Prop}
end
end L2
namespace Att
open PySem PySem.W PySem.Calls PyProof.Rows
theorem zid {P:Params} {h:Heap}:∀(ns:List Int) (vs:List Value),WellAll P h vs (ns.map WData.int)→IntsAre vs ns:=by
 intro ns
 induction ns with
 | nil =>
  intro vs w
  rw[List.map_nil] at w
  cases w
  exact .nil
 | cons n ns ih =>
  intro vs w
  rw[List.map_cons] at w
  cases w with
  | cons a b =>
   cases a
   exact .cons _ _ (ih _ b)
theorem zua {l:OpenLaw} {n:Nat} (hn:l.most=some n) {P:Params} {h:Heap} {args:List WData} {vals:List Value}
  (hpre:l.row.toRowW.claim.pre args=true) (hwl:WellAll P h vals args) :
  ∃ a vs ns, vals = [Value.ref a] ∧ args = [WData.list (ns.map WData.int)] ∧ h.get? a = some { cls := .type "list", data := .seq vs.toArray } ∧ IntsAre vs ns ∧ ns.length ≤ n := by
 have hsh:WShape.hasAll [] args [.list .int]=true:=(pre_splitW hpre).1
 have hc:l.pre.holds [] {args:=args}=true:=(pre_splitW hpre).2
 obtain ⟨d,r,rfl,h1,h2⟩:=hasAllW_cons hsh
 obtain rfl:=hasAllW_nil h2
 obtain ⟨xs,rfl,h3⟩:=hasW_list h1
 obtain ⟨ns,rfl⟩:=items_int h3
 have hlen:ns.length≤n:=by
  unfold OpenLaw.pre at hc
  have h4:(WTm.not (.lt (.lit (.int (n:Int))) (.len (.arg 0)))).holds [] {args:=[.list (ns.map .int)]}=true:=by
   have h4:=(holds_andW hc).1
   rw[hn] at h4
   exact h4
  have h5:=condW_of h4 (w_not (w_lt w_lit (w_len_list (w_arg rfl))))
  rw[List.length_map] at h5
  refine Nat.le_of_not_lt fun q=>?_
  have q':(n:Int) < ((ns.length:Nat):Int):=by (first|assumption|lia)
  first
   | (rw[decide_eq_true q'] at h5;exact absurd h5 (by decide))
   | (simp at h5;(first|assumption|lia))
 cases hwl with
 | cons w1 w2 =>
  cases w2
  cases w1 with
  | list ho hall=>exact ⟨_,_,ns,rfl,rfl,ho,zid ns _ hall,hlen⟩
theorem zui (l:OpenLaw) (args:List WData):l.row.toRowW.claim.post args (.bool true) args=true :=
 postW_of (r:=l.row.toRowW) (X:=(true == true))
  (show WShape.has [] (.bool true) .bool=true by first | rfl | decide | simp[WShape.has,WShape.arms,WShape.armsAll])
  (show (WTm.eq .res (.lit (.bool true))).value [] {args:=args,res:=some (.bool true),after:=args}=some (.bool (true == true)) from w_eq_bool (w_res rfl) w_lit) rfl
theorem attach_call {l:OpenLaw} {n:Nat} {q:Program} {loose:List Str} {XP:(Str→Option Value)→Heap→Prop} {YP:World→Heap→Prop} {d:DefRec}
  (hn:l.most=some n) (hdf:d.params.defaults=[])
  (call:∀(w:World) (s₀ s₁:Shared) (mg mb:Str→Option Value) (fa:Addr) (o:Obj) (pm cd doc:Value) (a:Addr) (vs:List Value) (ns:List Int),
   Ground q loose [] XP w s₀ mg mb s₁.heap→YP w s₁.heap →
   s₁.heap.get? fa=some o→o.data=.func (docDef d.name d.params d.body d.scope pm cd doc)→s₁.heap.CodeRec cd d.name→mg d.name=some (.ref fa) →
   s₁.heap.get? a = some { cls := .type "list", data := .seq vs.toArray } → IntsAre vs ns → ns.length ≤ n → s₁.gens = #[] →
   codeAny (model l.prog w) callerA (.call (.ref fa) ⟨[.ref a],[]⟩) (fun r s'=>r=.ok (.ret (.bool true))∧OldK s₁.heap s'.heap∧s'.os=s₁.os∧AllBare s'.gens) s₁) :
  WalkO q loose XP YP l.row.toRowW d [] (fun f vs=>PySem.call f vs):=by
 intro w s₀ s₁ mg mb G Y fa o pm cd doc dV kV ho hd hcd hD hmg hg args vals as hpre hlay hrd hwl hlo
 obtain rfl:dV=.none:=Dflts.none hD hdf
 obtain rfl:kV=.none:=Dflts.noKw hD
 obtain ⟨a,vs,ns,rfl,rfl,hobj,hints,hlen⟩:=zua hn hpre hwl
 refine enter_call (codeAny_mono (call w s₀ s₁ mg mb fa o pm cd doc a vs ns G Y ho (fd_plain hd) hcd hmg hobj hints hlen hg) fun r s' hq=>?_)
 obtain ⟨rfl,h2,h3,h4⟩:=hq
 exact ⟨.inl ⟨.bool true,.bool true,[],rfl,fun _=>rfl,.bool true,zui l _,fun _=>⟨List.Pairwise.nil,fun _ hm=>(nomatch hm)⟩⟩,h2,h3,h4⟩
section
variable {prog:Program} {w:World} {A:Around} {E:Value→Shared→Prop} {s:Shared} {K:Frag}
end
end Att
namespace L2
open PySem PySem.Spec PyProof.Rows
theorem znw:∀{vs:List Value} {ns:List Int},IntsAre vs ns→Vals (ns.map V.int) vs
 | _,_,.nil=>.nil
 | _,_,.cons n t h=>.cons ⟨t,rfl⟩ (znw h)
noncomputable def Only (H:Hp):Prop:=∀b,H b=none∨∃o xs,H b=some (.frz o (.lst xs))
theorem zzh {P:Program} {w:World} {K:PySem.W.Frag} {mg mb:Str→Option Value} {CX:CXT} {k:Nat} {fa a:Addr} {fd:FuncData} {x:Str} {sp:Sp} {s₁:Shared} {vs:List Value} {ns:List Int}
  (KX : K.In s₁.heap) (hns : s₁.heap.Ns mainGlobals mg) (hb : s₁.heap.Ns builtinsNs mb) (hbb : ∀ x : Str, x ≠ "__name__" → mb x = bootBuiltins x) (hlim : s₁.heap.NoLimit) (hg : s₁.gens = #[])
  (ha : s₁.heap.get? a = some { cls := .type "list", data := .seq vs.toArray }) (hi : IntsAre vs ns) (hl : ns.length ≤ sizeLine) (hr : Room k callerA)
  (F:∀base:Heap,K.In base→base.Ns mainGlobals mg→FnOk P w K mg base CX k fa fd [x] sp) (hbind:∀(s:Shared) (u:Value),BindsTo s fd ⟨[u],[]⟩ [(x,u)])
  (hsp:∀H:Hp,Only H→SqL K H a (ns.map V.int)→sp [.ref a] H (fun v _=>v=.bl true) fun _ _ _=>False)
  (hCX:∀H e s',CX [] H s₁ (fun _ _ _=>False) e s'→False) :
  codeAny (model P w) callerA (.call (.ref fa) ⟨[.ref a],[]⟩) (fun r s'=>r=.ok (.ret (.bool true))∧OldK s₁.heap s'.heap∧s'.os=s₁.os∧AllBare s'.gens) s₁:=by
 have rv:=znw hi
 have lenV:=hi.length
 have core:∀H:Hp,Only H→SqL K H a (ns.map V.int)→HOk P w H s₁.heap→(∀b,H b≠none→b=a)→(H a≠none→K.lookup a=none) →
   codeAny (model P w) callerA (.call (.ref fa) ⟨[.ref a],[]⟩) (fun r s'=>r=.ok (.ret (.bool true))∧OldK s₁.heap s'.heap∧s'.os=s₁.os∧AllBare s'.gens) s₁:=by
  intro H hO hS hok hA hK
  have base_of:∀{b:Addr} {o:Obj},s₁.heap.get? b=some o→H b=none→(hidT s₁.heap H).get? b=some o:=fun e n=>zzo e n
  have noA:∀{b:Addr} {o:Obj} {es:Array DictEntry} {ep:Nat},s₁.heap.get? b=some o→o.data=.dict es ep→H b=none:=fun {b o es ep} e d=>by
   cases q:H b with
   | none=>rfl
   | some u =>
    have e':b=a:=hA b (by rw[q];simp)
    subst e'
    rw[ha] at e;cases e
    have d':Data.seq vs.toArray _=Data.dict es ep:=d
    cases d'
  have nsK:∀{b:Addr} {m:Str→Option Value},s₁.heap.Ns b m→(hidT s₁.heap H).Ns b m:=fun {b m} ⟨o,es,ep,e,d,r⟩=>⟨o,es,ep,base_of e (noA e d),d,r⟩
  have hKb:K.In (hidT s₁.heap H):=fun b o e=>base_of (KX b o e) (by
   cases q:H b with
   | none=>rfl
   | some u =>
    have e':b=a:=hA b (by rw[q];simp)
    subst e'
    rw[hK (by rw[q];simp)] at e;cases e)
  have hM:Mod K mg (hidT s₁.heap H):=⟨hKb,nsK hns,⟨mb,nsK hb,hbb⟩,let ⟨mc,h1,h2⟩:=hlim;⟨mc,nsK h1,h2⟩⟩
  have e0:Env0 P w K mg (hidT s₁.heap H) callerA [] s₁ H:=⟨rfl,hM,fun b o e=>zbcb e,Nat.le_of_eq (zvj _ _),trivial,fun b hb=>absurd (show b∈([]:List Addr) from hb) (by simp),hok,.of_eq hg⟩
  refine codeAny_mono ((F _ hKb (nsK hns)).run callerA [] s₁ H ⟨[.ref a],[]⟩ [.ref a] [.ref a] _ _ hr e0 (hbind s₁ (.ref a)) (.cons rfl .nil) (hsp H hO hS)) fun r s' h=>?_
  cases r with
  | error e=>exact (hCX H e s' h).elim
  | ok fl =>
   cases fl with
   | next=>exact False.elim h
   | brk=>exact False.elim h
   | cont=>exact False.elim h
   | ret u =>
    obtain ⟨v,H',os,bare,un,hok',r',q⟩:=h
    have q':v=.bl true:=q
    subst q'
    obtain rfl:u=Value.bool true:=r'
    refine ⟨rfl,OldK.of_keep fun b o e=>?_,os,bare⟩
    cases q:H b with
    | none=>exact un.keep b o e q (by intro z;exact absurd (show b∈([]:List Addr) from z) (by simp)) (by simp)
    | some u =>
     rcases hO b with z | ⟨ob,xs,z⟩
     ·rw[q] at z;cases z
     ·have z2:=un.frzs b ob _ z
      obtain ⟨e1,_⟩:=hok b _ z
      obtain ⟨e2,_⟩:=hok' b _ z2
      rw[e] at e1;cases e1
      exact e2
 cases hk:K.lookup a with
 | some o =>
  have e:=KX a o hk
  rw[ha] at e
  cases e
  refine core (fun _=>none) (fun _=>.inl rfl) (.inr ⟨_,vs.toArray,_,hk,rfl,rfl,rfl,by rw[List.size_toArray,lenV];exact hl,by simpa using rv⟩) (fun b u z=>by have z':(none:Option HO)=some u:=z;cases z') (fun b z=>absurd rfl z) fun z=>absurd rfl z
 | none =>
  refine core (fun b => if b = a then some (.frz { cls := .type "list", data := .seq vs.toArray } (.lst (ns.map V.int))) else none) (fun b => ?_) (.inl (.inr ⟨{ cls := .type "list", data := .seq vs.toArray }, if_pos rfl⟩)) (fun b u z => ?_) (fun b z => ?_) fun _ => hk
  ·by_cases hb:b=a
   ·exact .inr ⟨_,_,if_pos hb⟩
   ·exact .inl (if_neg hb)
  ·by_cases hb:b=a
   ·have z':=(if_pos hb).symm.trans z
    cases z'
    subst hb
    exact ⟨ha,by rw[List.length_map];exact hl,vs,_,rv,ha⟩
   ·have z':=(if_neg hb).symm.trans z
    cases z'
  ·by_cases hb:b=a
   ·exact hb
   ·exact absurd (if_neg hb) z
end L2
namespace L2
open PySem PySem.Spec PyProof.Rows
theorem zbat {l:PySem.W.OpenLaw} {n k:Nat} {q:Program} {loose:List Str} {XP:(Str→Option Value)→Heap→Prop} {YP:World→Heap→Prop} {d:DefRec} {K:Params→PySem.W.Frag} {CX:World→CXT} {sp:World→Sp} {x:Str}
  (hn:l.most=some n) (hn2:n≤sizeLine) (hdf:d.params.defaults=[]) (hr:Room k callerA)
  (hY:∀(w:World) (h:Heap),YP w h→(K w.params).In h)
  (F:∀(w:World) (mg:Str→Option Value) (fa:Addr) (h:Heap),(K w.params).In h→h.Ns mainGlobals mg→mg d.name=some (.ref fa) →
   ∃fd:FuncData,(∀(s:Shared) (u:Value),BindsTo s fd ⟨[u],[]⟩ [(x,u)]) ∧
    ∀base:Heap,(K w.params).In base→base.Ns mainGlobals mg→FnOk l.prog w (K w.params) mg base (CX w) k fa fd [x] (sp w))
  (hsp:∀(w:World) (H:Hp) (a:Addr) (ns:List Int),ns.length≤n→Only H→SqL (K w.params) H a (ns.map V.int)→sp w [.ref a] H (fun v _=>v=.bl true) fun _ _ _=>False)
  (hCX:∀(w:World) (H:Hp) (s:Shared) (e:Value) (s':Shared),CX w [] H s (fun _ _ _=>False) e s'→False) :
  PySem.W.WalkO q loose XP YP l.row.toRowW d [] (fun f vs=>PySem.call f vs):=by
 refine Att.attach_call hn hdf fun w s₀ s₁ mg mb fa o pm cd doc a vs ns G Y ho hd hcd hmg hobj hints hlen hg=>?_
 have KX:=hY w _ Y
 obtain ⟨fd,hb,hF⟩:=F w mg fa _ KX G.T.g hmg
 exact zzh KX G.T.g G.T.b G.T.builtins G.T.nolimit hg hobj hints (Nat.le_trans hlen hn2) hr hF hb (fun H hO hS=>hsp w H a ns hlen hO hS) fun H e s'=>hCX w H s₁ e s'
end L2
/- THE LAST THEOREM (shape;LID,My.* are yours):
 My.Adr: a structure of the addresses that your layer names (classes,functions);My.Txt K t: a structure (Prop) of the equations over K;
 My.txt_mk : {K} {implicit addresses ..} (e1 : nsIn K mainGlobals "law" = some (some (.ref f))) (e2 : K.lookup f = some ⟨oc, od, .func (fnOf "law" "law" params body scope dV kV doc pm an cdv ct), sl⟩) (e3 : codeIn K cdv "law" = true) .. : ∃ t, My.Txt K t
(the tactic k_is has no namespace: write k_is) -/
namespace L2
open PySem PySem.Spec PyProof.Rows
noncomputable def defArgs (s:Stmt):Arguments:=match s with
 | .FunctionDef _ a _ _ _ _ _ _ _ _=>a
 | _=>{posonlyargs:=[],args:=[],vararg:=none,kwonlyargs:=[],kw_defaults:=[],kwarg:=none,defaults:=[]}
noncomputable def defBody (s:Stmt):List Stmt:=match s with
 | .FunctionDef _ _ b _ _ _ _ _ _ _=>b
 | _=>[]
noncomputable def defScope (s:Stmt):Scope:=match s with
 | .FunctionDef _ _ _ _ _ _ sc _ _ _=>sc
 | _=>{kind:=.function,names:=[],isGenerator:=false,isCoroutine:=false}
noncomputable abbrev CX0:CXT:=fun _ _ _ _ _ _=>False
noncomputable abbrev E0:XK:=fun _ _ _=>False
theorem pass0 {X:Cx}:Passes CX0 X E0:=fun _ _ _ _ _ _ _ h=>h.elim
structure Fun (K:PySem.W.Frag) (x qual:Str) (st:Stmt) (f:Addr) (fd:FuncData):Prop where
 ex:∃(oc:Value) (od:Option Addr) (kV doc pm:Value) (an:Option Addr) (cdv ct:Value) (osl:Array (Option Value)),
  fd=PySem.W.fnOf x qual (defArgs st) (defBody st) (defScope st) .none kV doc pm an cdv ct∧K.lookup f=some ⟨oc,od,.func fd,osl⟩∧PySem.W.codeIn K cdv qual=true
 kp:PySem.W.keepIn K (.ref f)=true
section
variable {P:Program} {w:World} {K:PySem.W.Frag} {mg:Str→Option Value} {base:Heap}
theorem Fun.ok {x qual:Str} {st:Stmt} {f:Addr} {fd:FuncData} {N ps:List Str} {k:Nat} {sp:Sp} (F:Fun K x qual st f fd) (S:FnScope N ps (defScope st)) (len:∀vs H Q E,sp vs H Q E→vs.length=ps.length)
  (hbody:∀(cdv:Value) (A:Around) (outer:List Env) (s:Shared) (H:Hp) (vs:List V) (Q:VK) (E:XK),Room k (A.deeper (envOfC qual (defScope st) s.heap.objs.size f cdv))→sp vs H Q E →
   ∃t,PSs (cxOf CX0 P w K mg base N qual (defScope st) f cdv A outer s H E).nox (defBody st) t∧t {nx:=fun _ H'=>Q .non H',rt:=Q} (start N vs) H):FnOk P w K mg base CX0 (k+1) f fd ps sp:=by
 obtain ⟨oc,od,kV,doc,pm,an,cdv,ct,osl,rfl,lk,hcd⟩:=F.ex
 refine fn_of lk hcd S len fun A outer s H vs Q E hr hsp=>?_
 obtain ⟨t,h,q⟩:=hbody cdv A outer s H vs Q E hr hsp
 exact ⟨t,h.nox,q⟩
theorem Fun.binds {x qual:Str} {st:Stmt} {f:Addr} {fd:FuncData} {ps:List Str} (F:Fun K x qual st f fd)
  (h:∀(kV doc pm:Value) (an:Option Addr) (cdv ct:Value) (us:List Value),us.length=ps.length→bindArgs (PySem.W.fnOf x qual (defArgs st) (defBody st) (defScope st) .none kV doc pm an cdv ct) ⟨us,[]⟩=pure (ps.zip us)):Binds K fd ps []:=by
 obtain ⟨oc,od,kV,doc,pm,an,cdv,ct,osl,rfl,lk,hcd⟩:=F.ex
 exact .all (h kV doc pm an cdv ct)
theorem fun_mk {x qual:Str} {st:Stmt} {f:Addr} {oc:Value} {od an:Option Addr} {osl:Array (Option Value)} {kV doc pm cdv ct:Value} (l:K.lookup f=some ⟨oc,od,.func (PySem.W.fnOf x qual (defArgs st) (defBody st) (defScope st) .none kV doc pm an cdv ct),osl⟩)
 (c:PySem.W.codeIn K cdv qual=true) (k:PySem.W.keepIn K (.ref f)=true):Fun K x qual st f (PySem.W.fnOf x qual (defArgs st) (defBody st) (defScope st) .none kV doc pm an cdv ct):=⟨⟨oc,od,kV,doc,pm,an,cdv,ct,osl,rfl,l,c⟩,k⟩
end
theorem hu_of {A:Around} {k:Nat} (hr:Room k A):A.units+1 < cLine:=Nat.lt_of_le_of_lt (Nat.add_le_add_left (by decide:1≤64) _) hr.units
section
variable {X:Cx}
theorem pv (i : Nat) {x : Str} {pos : Pos} (hN : X.N[i]? = some x := by rfl) (hv : Vis X.env.scope x := by first | exact Or.inl rfl | exact Or.inr (Or.inl rfl) | exact Or.inr (Or.inr rfl)) (hd : (x == ("__debug__" : Str)) = false := by decide)
 (hcd : (x == ("__classdict__" : Str)) = false := by decide) : PE X (.Name x pos) (tVar i) := pe_var hN hv hd hcd
end
theorem iteF {A B:Prop} (h:B):if false=true then A else B:=by
 rw[if_neg Bool.false_ne_true]
 exact h
theorem iteT {A B:Prop} (h:A):if true=true then A else B:=by
 rw[if_pos rfl]
 exact h
end L2
namespace L2
open PySem PySem.Spec PyProof.Rows
section
variable {X:Cx}
end
section
variable {κ:Type} [DecidableEq κ]
end
end L2
namespace L2
open PySem PySem.Spec PyProof.Rows
section
variable {P:Program} {w:World} {B:Around} {R:Result→Shared→Prop} {sh:Shared}
noncomputable abbrev NoX:Value→Shared→Prop:=fun _ _=>False
noncomputable abbrev testsOf (cs:List Expr) (ev:Env):Sem Bool :=
 forIn cs true fun d b=>if b=true then do let z ← isTrue d ev (eval d ev);pure (ForInStep.yield z) else pure (ForInStep.yield b)
noncomputable def CompStep (P:Program) (w:World) (B:Around) (tg x:Expr) (cs:List Expr) (ev:Env) (i l:Value) (K:Shared→Prop) (v:Value) (sa:Shared):Prop :=
 wpAny (model P w) B (letOwnedTupleGo tg i v) (fun _ sb=>wpAny (model P w) B (assign tg ev v) (fun _ sc=>wpAny (model P w) B (testsOf cs ev) (fun ok sd =>
  if ok = true then wpAny (model P w) B (eval x ev) (fun y se => wpAny (model P w) B (call (.builtin "list.append") [l, y]) (fun _ sf => K sf) NoX se) NoX sd else K sd) NoX sc) NoX sb) NoX sa
theorem zvy {tg it x:Expr} {cs:List Expr} {sc:Scope} {ps:Pos} {i l:Value} {ev:Env} (J:Nat→Shared→Prop)
  (go:∀k sk,J k sk→wpAny (model P w) B (pyNext i) (fun o sa=>match o with
   | none=>R (.ok .next) sa
   | some v=>CompStep P w B tg x cs ev i l (fun sf=>∃k',k' < k∧J k' sf) v sa) NoX sk)
  (k:Nat) (hJ:J k sh):codeAny (model P w) B (.compLoop (.ListComp x [⟨tg,it,cs,0⟩] sc ps) 0 i l ev) R sh:=by
 have none_:∀{E:Value→Shared→Prop} (e:Value) (z:Shared),NoX e z→E e z:=fun _ _ z=>z.elim
 refine codeAny_loop rfl J (fun k sk hk=>wpAny_noted (by
  rw[compTurn_list]
  refine wpAny_bind (wpAny_standAt (wpAny_bind (wpAny_mono (go k sk hk) (fun o sa ho=>?_) none_)))
  match o,ho with
  | none,ho=>exact wpAny_pure ho
  | some v,ho =>
   refine wpAny_bind (wpAny_mono ho (fun _ sb hb=>wpAny_bind (wpAny_mono hb (fun _ sc' hc=>wpAny_bind (wpAny_mono hc (fun ok sd hd=>?_) none_)) none_)) none_)
   match ok,hd with
   | false,hd=>exact wpAny_pure (And.intro rfl hd)
   | true,hd=>exact wpAny_bind (wpAny_bind (wpAny_mono hd (fun y se he=>wpAny_bind (wpAny_mono he (fun _ sf hf=>wpAny_pure (wpAny_pure (And.intro rfl hf))) none_)) none_)))) k hJ
end
theorem znm {env:Env}:∀(names:List (Str × NameKind)) (acc:List (Str × Addr)),(∀y∈names,y.2=.free→∃c,env.cells.lookup y.1=some c)→(∀x c,acc.lookup x=some c→env.cells.lookup x=some c) →
  ∃cl:List (Str × Addr),(forIn names acc (fun x r=>if (x.2 == NameKind.free)=true then do let a ← cellOf env x.1;pure (ForInStep.yield ((x.1,a)::r)) else pure (ForInStep.yield r)):Sem (List (Str × Addr)))=pure cl ∧
   (∀x c,cl.lookup x=some c→env.cells.lookup x=some c)∧(∀x c,acc.lookup x=some c→∃c',cl.lookup x=some c')∧∀x,(x,NameKind.free)∈names→∃c,cl.lookup x=some c:=by
 intro names
 induction names with
 | nil=>intro acc _ ha;exact ⟨acc,rfl,ha,fun x c e=>⟨c,e⟩,fun x z=>(nomatch z)⟩
 | cons y r ih =>
  intro acc hf ha
  obtain ⟨n,k⟩:=y
  by_cases hk:k=.free
  ·subst hk
   obtain ⟨c,hc⟩:=hf (n,.free) List.mem_cons_self rfl
   obtain ⟨cl,e,h1,h2,h3⟩:=ih ((n,c)::acc) (fun y hy=>hf y (List.mem_cons_of_mem _ hy)) (fun x c' e=>by
    rw[List.lookup_cons] at e
    by_cases hx:x=n
    ·subst hx
     rw[beq_self_eq_true] at e
     cases e
     exact hc
    ·rw[beq_eq_false_iff_ne.mpr hx] at e
     exact ha x c' e)
   refine ⟨cl,?_,h1,fun x c' e'=>?_,fun x hx=>?_⟩
   ·rw[List.forIn_cons]
    simp only[beq_self_eq_true,ite_true]
    have q:cellOf env n=pure c:=by unfold cellOf;rw[hc]
    rw[q]
    simp only[pure_bind]
    exact e
   ·by_cases hx:x=n
    ·subst hx
     exact h2 x c (by rw[List.lookup_cons,beq_self_eq_true])
    ·exact h2 x c' (by rw[List.lookup_cons,beq_eq_false_iff_ne.mpr hx];exact e')
   ·rcases List.mem_cons.mp hx with z | z
    ·cases z
     exact h2 n c (by rw[List.lookup_cons,beq_self_eq_true])
    ·exact h3 x z
  ·obtain ⟨cl,e,h1,h2,h3⟩:=ih acc (fun y hy=>hf y (List.mem_cons_of_mem _ hy)) ha
   refine ⟨cl,?_,h1,h2,fun x hx=>?_⟩
   ·rw[List.forIn_cons]
    have hb:(k == NameKind.free)=false:=by simpa using hk
    simp only[hb,Bool.false_eq_true,if_false,pure_bind]
    exact e
   ·rcases List.mem_cons.mp hx with z | z
    ·cases z;exact absurd rfl hk
    ·exact h3 x z
theorem zsw {scope:Scope} {env:Env} (h:∀y∈scope.names,y.2=.free→∃c,env.cells.lookup y.1=some c) :
  ∃cl,closureFor scope env=pure cl∧(∀x c,cl.lookup x=some c→env.cells.lookup x=some c)∧∀x,(x,NameKind.free)∈scope.names→∃c,cl.lookup x=some c:=by
 obtain ⟨cl,e,h1,_,h3⟩:=znm (env:=env) scope.names [] h (fun x c e=>(nomatch e))
 refine ⟨cl,?_,h1,h3⟩
 unfold closureFor
 have e':=congrArg (fun m=>m >>= fun r=>(pure r:Sem (List (Str × Addr)))) e
 simp only[pure_bind] at e'
 exact e'
theorem zbf {env:Env}:∀{names:List (Str × NameKind)} {x:Str} {k:NameKind},(names.map fun (n,k)=>if (k == NameKind.free && env.scope.kind == .function && env.kindOf n == some .cell) then (n,NameKind.cell) else (n,k)).lookup x=some k →
  names.lookup x=some k∨(k=.cell∧names.lookup x=some .free)
 | [],_,_,h=>by simp at h
 | (n,k')::r,x,k,h=>by
  have ih:=@zbf env r x k
  have h':List.lookup x ((if (k' == NameKind.free && env.scope.kind == .function && env.kindOf n == some .cell)=true then (n,NameKind.cell) else (n,k'))::_)=_:=h
  cases hx:x == n with
  | true =>
   by_cases hc:(k' == NameKind.free && env.scope.kind == .function && env.kindOf n == some .cell)=true
   ·rw[if_pos hc] at h'
    simp only[List.lookup_cons,hx] at h' ⊢
    cases h'
    rw[Bool.and_eq_true,Bool.and_eq_true] at hc
    exact .inr ⟨rfl,by rw[eq_of_beq hc.1.1]⟩
   ·rw[if_neg hc] at h'
    simp only[List.lookup_cons,hx] at h' ⊢
    exact .inl h'
  | false =>
   have h2:(r.map fun (n,k)=>if (k == NameKind.free && env.scope.kind == .function && env.kindOf n == some .cell) then (n,NameKind.cell) else (n,k)).lookup x=some k:=by
    by_cases hc:(k' == NameKind.free && env.scope.kind == .function && env.kindOf n == some .cell)=true
    ·rw[if_pos hc] at h'
     simp only[List.lookup_cons,hx] at h'
     exact h'
    ·rw[if_neg hc] at h'
     simp only[List.lookup_cons,hx] at h'
     exact h'
   simp only[List.lookup_cons,hx]
   exact ih h2
noncomputable def cxC (X:Cx) (N:List Str) (scope:Scope) (cl:List (Str × Addr)) (C:Addr) (fp:List Addr) (s:Shared) (H:Hp):Cx :=
 {X with N:=N,s₀:=s,H₀:=H,env:=compEnvC scope cl C X.env,outer:=X.stack,ex:=fp,fn:=fun _=>false,pn:=[],xe:=fun _ _=>False}
noncomputable def startC (k:Nat) (is:List Nat) (σ:St):St:=List.replicate k none++is.map fun i=>(σ[i]?).getD none
structure CompScope (X:Cx) (N:List Str) (k:Nat) (is:List Nat) (scope:Scope):Prop where
 kind:scope.kind=.function
 nocell:∀y∈scope.names,y.2≠.cell
 names:∀y∈scope.names,y.2=.local→scope.names.lookup y.1=some .local
 frees:∀y∈scope.names,y.2=.free→X.env.kindOf y.1=some .cell∨X.env.kindOf y.1=some .free
 len:N.length=k+is.length
 own:∀j i,is[j]?=some i→∃x,N[k+j]?=some x∧X.N[i]?=some x∧scope.names.lookup x=some .free
theorem zfm {x:Str} {k:NameKind} {l:List (Str × NameKind)} (h:l.lookup x=some k):(x,k)∈l:=PySem.mem_of_lookup h
section
variable {X:Cx} {pins:List (Addr × Obj)} {σ:St} {H:Hp} {s:Shared}
theorem zzm {N:List Str} {k:Nat} {is:List Nat} {scope:Scope} {cl:List (Str × Addr)} {fp:List Addr} {h1:Heap} {tk:Nat} (S:CompScope X N k is scope) (I:Inv X pins σ H s)
  (c1:∀x c,cl.lookup x=some c→X.env.cells.lookup x=some c) (c2:∀x,(x,NameKind.free)∈scope.names→∃c,cl.lookup x=some c)
  (hf:∀b∈fp,FpOk X pins H b) (hfo:∀b∈fp,∃o,s.heap.get? b=some o) (hn:h1.Ns s.heap.objs.size (fun _=>none)) (hk:∀b o,s.heap.get? b=some o→h1.get? b=some o) :
  Inv (cxC X N scope cl s.heap.objs.size fp s H) [] (startC k is σ) H {s with heap:=h1,toks:=tk}:=by
 have hC:∀b o,s.heap.get? b=some o→b≠s.heap.objs.size:=fun b o e=>Nat.ne_of_lt (Heap.lt_size e)
 have nfs:∀b∈fp,b∉frs X.stack:=fun b hb z=>by
  rcases List.mem_cons.mp (I.stkSub b z) with e | e
  ·exact (hf b hb).2.1 e
  ·exact (hf b hb).2.2.1 e
 refine ⟨⟨I.ok.mod,S.kind,I.ok.glob,I.ok.blt,Nat.le_refl _,fun x y c e1 e2=>I.ok.inj x y c (c1 x c e1) (c1 y c e2),fun x hx=>?_,fun x c z=>?_,I.ok.hd,I.ok.frames,.inl rfl,fun b hb=>⟨?_,fun x c e=>?_⟩,I.bs,Nat.le_trans I.ok.bsz I.sz,fun b o e hb=>?_,nfs,I.stack,I.stkFree⟩,
  rfl,I.bare,Un.kept hk,⟨_,hn,fun i x v e1 e2 e3=>?_⟩,fun x c e=>?_,I.hok.fresh (Nat.le_refl _),fun x c e=>I.freeC x c (c1 x c e),fun p hp=>(nomatch hp),I.hok.kept hk,?_⟩
 ·have hx':(scope.names.map fun (n,k)=>if (k == NameKind.free && X.env.scope.kind == .function && X.env.kindOf n == some .cell) then (n,NameKind.cell) else (n,k)).lookup x=some .cell∨(scope.names.map fun (n,k)=>if (k == NameKind.free && X.env.scope.kind == .function && X.env.kindOf n == some .cell) then (n,NameKind.cell) else (n,k)).lookup x=some .free:=hx
  have q:scope.names.lookup x=some .free:=by
   rcases hx' with z | z
   ·rcases zbf z with q | ⟨_,q⟩
    ·exact absurd rfl (S.nocell _ (zfm q))
    ·exact q
   ·rcases zbf z with q | ⟨q,_⟩
    ·exact q
    ·cases q
  exact c2 x (zfm q)
 ·cases z
 ·obtain ⟨o,e⟩:=hfo b hb
  exact hC b o e
 ·exact (hf b hb).2.2.2.2.1 x c (c1 x c e)
 ·rcases (hf b hb).2.2.2.1 with z | z
  ·exact I.ok.noex b o e z
  ·exact absurd (Nat.lt_of_lt_of_le (Heap.lt_size (I.ok.bs b o e).1) z) (Nat.lt_irrefl _)
 ·-- a name of the def around
  unfold startC at e2
  have hi:k≤i:=by
   rcases Nat.lt_or_ge i k with z | z
   ·rw[List.getElem?_append_left (by rw[List.length_replicate];exact z),List.getElem?_replicate,if_pos z] at e2
    cases e2
   ·exact z
  rw[List.getElem?_append_right (by rw[List.length_replicate];exact hi),List.length_replicate,List.getElem?_map] at e2
  cases ej:is[i - k]? with
  | none=>rw[ej] at e2;cases e2
  | some j =>
   rw[ej] at e2
   have e2':(σ[j]?).getD none=some v:=Option.some.inj e2
   obtain ⟨y,y1,y2,y3⟩:=S.own (i - k) j ej
   have ey:y=x:=by
    have z:N[i]?=some y:=by rw[← y1];congr 1;(first|assumption|lia)
    have e1':N[i]?=some x:=e1
    rw[z] at e1'
    exact Option.some.inj e1'
   subst ey
   have e4:σ[j]?=some (some v):=by
    cases q:σ[j]? with
    | none=>rw[q] at e2';cases e2'
    | some o=>rw[q] at e2';exact congrArg some e2'
   have kd:=S.frees _ (zfm y3) rfl
   have vis:Vis X.env.scope y:=.inr kd
   obtain ⟨m,_,hl⟩:=I.loc
   obtain ⟨u,r,lk⟩:=hl j y v y2 e4 vis
   refine ⟨u,r,?_⟩
   rcases lk with ⟨z,_⟩ | ⟨_,c,e5,cc⟩
   ·rcases kd with q | q<;>(rw[q] at z;cases z)
   ·obtain ⟨c',e6⟩:=c2 y (zfm y3)
    have:c'=c:=by
     have z:=c1 y c' e6
     rw[e5] at z
     exact (Option.some.inj z).symm
    subst this
    refine .inr ⟨?_,c',e6,?_⟩
    ·rcases e3 with z | z | z
     ·exact absurd (zbf z) (by
       rw[y3]
       rintro (q | ⟨q,_⟩)
       ·cases q
       ·cases q)
     ·exact .inl z
     ·exact .inr z
    ·obtain ⟨o,ho,hd⟩:=cc
     exact ⟨o,hk _ o ho,hd⟩
 ·obtain ⟨v,o,ho,hd⟩:=I.cell x c (c1 x c e)
  exact ⟨v,o,hk _ o ho,hd⟩
 ·unfold startC
  rw[List.length_append,List.length_replicate,List.length_map]
  exact S.len.symm
theorem zzn {N:List Str} {scope:Scope} {cl:List (Str × Addr)} {fp:List Addr} {σ':St} {H':Hp} {s':Shared} {h':Heap} (I:Inv X pins σ H s) (hf:∀b∈fp,FpOk X pins H b) (J:Inv (cxC X N scope cl s.heap.objs.size fp s H) [] σ' H' s')
  (hs:Heap.SameBut s.heap.objs.size s'.heap h'):Inv X pins σ H' {s' with heap:=h'}:=by
 have hC:∀b o,s.heap.get? b=some o→b≠s.heap.objs.size:=fun b o e=>Nat.ne_of_lt (Heap.lt_size e)
 have hH:H' s.heap.objs.size=none:=J.free
 have B:Un (frs X.stack) fp H H' s.heap s'.heap:=J.base
 have U:Un (frs X.stack) fp H H' s.heap h':=⟨fun b o e n h1 h2=>hs.extBut b o (hC b o e) (B.keep b o e n h1 h2),fun b o e n h1 h2=>by
   obtain ⟨sl,q⟩:=B.slot b o e n h1 h2
   exact ⟨sl,hs.extBut b _ (hC b o e) q⟩,B.free,fun b o e hx=>by
   obtain ⟨o',q⟩:=B.there b o e hx
   exact ⟨o',hs.extBut b o' (hC b o e) q⟩,B.tups,B.frzs,B.tbls⟩
 refine I.call' (s':={s' with heap:=h'}) J.os U (fun a o e=>?_) J.bare (fun b hb=>⟨(hf b hb).2.2.2.1,(hf b hb).2.1,(hf b hb).2.2.2.2.1,(hf b hb).2.2.2.2.2⟩)
 refine (J.hok a o e).stay (fun b u hb q=>hs.extBut b u ?_ q) (fun _ q=>q) fun _ _ q=>q
 rcases hb with z | z
 ·intro y;rw[z] at y;rw[y,hH] at e;cases e
 ·intro y;rw[y,hH] at z;cases z
end
structure OffC (X:Cx) (pins:List (Addr × Obj)) (H:Hp) (C:Addr):Prop where
 free:H C=none
 loc:C≠X.env.locals
 young:X.s₀.heap.objs.size≤C
 cell:∀x c,X.env.cells.lookup x=some c→c≠C
 pin:∀p∈X.pn++pins,p.1≠C
theorem OffC.back {X:Cx} {pins:List (Addr × Obj)} {σ:St} {H:Hp} {C:Addr} {s:Shared} {h':Heap} (o:OffC X pins H C) (I:Inv X pins σ H s) (hs:Heap.SameBut C s.heap h'):Inv X pins σ H {s with heap:=h'} :=
 I.turned (t':=s.toks) (fun b u hb e=>hs.extBut b u hb e) o.free o.loc (.inr o.young) o.cell o.pin
noncomputable def nxC (p:Addr) (te:TE) (tc:TT) (N:St→Hp→Prop):St→Hp→Prop:=fun σ2 H3=>tc σ2 H3 fun b H4 =>
 if b=true then te σ2 H4 fun y H5=>∃xs,H5 p=some (.lst xs)∧xs.length < sizeLine∧N σ2 (upd H5 p (.lst (xs++[y]))) else N σ2 H4
noncomputable def CompG (J:It) (g:TG) (tc:TT) (te:TE) (Q:VK) (p:Addr) (σ:St) (H:Hp):Prop:=∃W:Nat→Nat→St→Hp→Prop,(∃m,W 0 m σ H) ∧
 ∀i m σ' H',W i m σ' H'→(J.stop i H'∧Q (.ref p) H')∨(J.go i H'∧∃N:St→Hp→Prop,(∀σ2 H2,N σ2 H2→∃m',m' < m∧W (i+1) m' σ2 H2)∧∀x H2,J.yld i H' x H2→g x σ' H2 (nxC p te tc N))
noncomputable def tComp (wi:TI) (k:Nat) (is:List Nat) (g:TG) (tc:TT) (te:TE):TE:=fun σ H Q=>wi σ H fun J H1=>∀p,H1 p=none→CompG J g tc te Q p (startC k is σ) (upd H1 p (.lst []))
noncomputable def tYes:TT:=fun _ H Q=>Q true H
section
variable {X:Cx} {tg iter elt:Expr} {ifs:List Expr} {wi:TI} {g:TG} {tc:TT} {te:TE} {N:List Str} {k:Nat} {is:List Nat} {scope:Scope} {pos:Pos}
noncomputable def PIf (X:Cx) (ifs:List Expr) (t:TT):Prop :=
 ∀(pins:List (Addr × Obj)) (s:Shared) (σ:St) (H:Hp) (Q:Bool→Hp→Prop),Inv X pins σ H s→t σ H Q →
  wpAny (model X.prog X.w) X.A (forIn ifs true fun c r=>if r=true then do let ok ← isTrue c X.env (eval c X.env);pure (ForInStep.yield ok) else pure (ForInStep.yield r)) (TP X pins σ Q) X.xe s
theorem zbbm:PIf X [] tYes:=fun pins s σ H Q I h=>wpAny_tests_nil ⟨H,I,h⟩
theorem zbbl {c:Expr} {t:TT} (h:PT X c t):PIf X [c] t:=fun pins s σ H Q I hq=>wpAny_tests_one (h pins s σ H Q I hq)
theorem zmd (hcalm:X.calm=true) (hg:∀cl C fp s H,PG (cxC X N scope cl C fp s H) tg g) (hc:∀cl C fp s H,PIf (cxC X N scope cl C fp s H) ifs tc) (he:∀cl C fp s H,PE (cxC X N scope cl C fp s H) elt te)
  (S:CompScope X N k is scope) {pins:List (Addr × Obj)} {σ:St} {H2:Hp} {s2:Shared} {cl:List (Str × Addr)} {it:Addr} {fp:List Addr} {tn:Nat→Heap→Prop} {J:It} {Q:VK} {E:Value→Shared→Prop} {RR:Value→Addr→Result→Shared→Prop}
  (I2:Inv X pins σ H2 s2) (T:Turn X.prog X.w X.K tg J fp it tn) (st2:tn 0 s2.heap) (f2:∀b∈fp,FpOk X pins H2 b)
  (c1:∀x c,cl.lookup x=some c→X.env.cells.lookup x=some c) (c2:∀x,(x,NameKind.free)∈scope.names→∃c,cl.lookup x=some c)
  (h:∀p,H2 p=none→∃W:Nat→Nat→St→Hp→Prop,(∃m,W 0 m (startC k is σ) (upd H2 p (.lst []))) ∧
   ∀i m σ' H',W i m σ' H'→(J.stop i H'∧Q (.ref p) H')∨(J.go i H'∧∃N:St→Hp→Prop,(∀σ2 H2,N σ2 H2→∃m',m' < m∧W (i+1) m' σ2 H2)∧∀x H2,J.yld i H' x H2→g x σ' H2 (nxC p te tc N)))
  (hR:∀(p C:Addr) (s':Shared) (H':Hp) (m:Str→Option Value),OffC X pins H' C→s'.heap.Ns C m→Inv X pins σ H' s'→Q (.ref p) H'→RR (.ref p) C (.ok .next) s') :
  wpAny (model X.prog X.w) X.A (newList []) (fun acc s₃=>wpAny (model X.prog X.w) X.A (newFunctionEnv scope X.env.globals cl [] X.env.qual none .none (some X.env)) (fun cenv s₄ =>
   codeAny (model X.prog X.w) X.A (.compStart (.ListComp elt [⟨tg,iter,ifs,0⟩] scope pos) 0 (.ref it) acc {cenv with scope:=relabel scope X.env}) (RR acc cenv.locals) s₄) E s₃) E s2:=by
 refine wpAny_newObj_type ?_
 have fresh:H2 s2.heap.objs.size=none:=I2.fresh
 have I3 : Inv X pins σ (upd H2 s2.heap.objs.size (.lst [])) { s2 with heap := s2.heap.push { cls := .type "list", dict := none, data := .seq ([] : List Value).toArray } } := I2.lnew (t' := s2.toks) (.nil) (by decide)
 generalize hs3 : ({ s2 with heap := s2.heap.push { cls := .type "list", dict := none, data := .seq ([] : List Value).toArray } } : Shared) = s3 at I3
 have k3:∀b o,s2.heap.get? b=some o→s3.heap.get? b=some o:=fun b o e=>by rw[← hs3];exact Heap.get?_push_of_some _ e
 refine wpAny_newFunctionEnv S.nocell (by intro y hy;simp at hy) (fun h₁ hns₁ hsb₁=>?_) S.kind
 have st3:tn 0 s3.heap:=T.keep _ _ _ st2 fun b _ o e=>k3 b o e
 have f3:∀b∈fp,FpOk X pins (upd H2 s2.heap.objs.size (.lst [])) b:=fun b hb=>by
  obtain ⟨o,e,_⟩:=T.obj _ _ st2 b hb
  exact ⟨by rw[upd_ne (Nat.ne_of_lt (Heap.lt_size e))];exact (f2 b hb).1,(f2 b hb).2⟩
 have k4:∀b o,s3.heap.get? b=some o→h₁.get? b=some o:=fun b o e=>hsb₁.extBut b o (Nat.ne_of_lt (Heap.lt_size e)) (Heap.get?_push_of_some _ e)
 have J4:=zzm (tk:=s3.toks+([]:List (Str × Value)).length) S I3 c1 c2 f3 (fun b hb=>let ⟨o,e,_⟩:=T.obj _ _ st3 b hb;⟨o,e⟩) hns₁ k4
 obtain ⟨W,⟨m0,w0⟩,turn⟩:=h s2.heap.objs.size fresh
 have st4:tn 0 h₁:=T.keep _ _ _ st3 fun b _ o e=>k4 b o e
 have loop:codeAny (model X.prog X.w) X.A (.compLoop (.ListComp elt [⟨tg,iter,ifs,0⟩] scope pos) 0 (.ref it) (.ref s2.heap.objs.size) (compEnvC scope cl s3.heap.objs.size X.env)) (RR (.ref s2.heap.objs.size) s3.heap.objs.size) {s3 with heap:=h₁,toks:=s3.toks+([]:List (Str × Value)).length}:=by
  have stat:∀{H':Hp},(∀b∈fp,H' b=none)→∀b∈fp,FpOk (cxC X N scope cl s3.heap.objs.size fp s3 (upd H2 s2.heap.objs.size (.lst []))) [] H' b:=fun {H'} hn b hb=>by
   obtain ⟨o,e,_⟩:=T.obj _ _ st3 b hb
   refine ⟨hn b hb,Nat.ne_of_lt (Heap.lt_size e),J4.ok.exfs b hb,.inl hb,fun x c e'=>(f3 b hb).2.2.2.2.1 x c (c1 x c e'),fun p hp=>(nomatch hp)⟩
  refine zvy (fun n s'=>∃i σ' H',Inv (cxC X N scope cl s3.heap.objs.size fp s3 (upd H2 s2.heap.objs.size (.lst []))) [] σ' H' s'∧tn i s'.heap∧(∀b∈fp,H' b=none)∧W i n σ' H') ?_ m0
   ⟨0,_,_,J4,st4,fun b hb=>(f3 b hb).1,w0⟩
  rintro n s5 ⟨i,σ5,H5,I5,st5,fr5,w5⟩
  rcases turn i n σ5 H5 w5 with ⟨stop,q⟩ | ⟨go,N',hN',step⟩
  ·refine thn (T.done (cxC X N scope cl s3.heap.objs.size fp s3 (upd H2 s2.heap.objs.size (.lst []))) rfl rfl rfl hcalm i [] s5 σ5 H5 _ I5 (stat fr5) st5 stop) fun r s6 hq0=>?_
   obtain ⟨hr,I6⟩:=hq0
   subst hr
   obtain ⟨m,hm,_⟩:=I6.loc
   refine hR _ _ s6 H5 m ⟨I6.free,Nat.ne_of_gt I3.lt,I3.sz,fun x c e=>?_,fun p hp=>Nat.ne_of_lt (Heap.lt_size (I3.pin p hp).1)⟩ hm (zzn (h':=s6.heap) I3 f3 I6 (.refl ..)) q
   obtain ⟨v,o,ho,_⟩:=I3.cell x c e
   exact Nat.ne_of_lt (Heap.lt_size ho)
  ·refine thn (T.item (cxC X N scope cl s3.heap.objs.size fp s3 (upd H2 s2.heap.objs.size (.lst []))) rfl rfl rfl hcalm i [] s5 σ5 H5 _ I5 (stat fr5) st5 go) fun r s6 hq0=>?_
   obtain ⟨u,hr,h6⟩:=hq0
   subst hr
   refine thn h6 fun _ s7 hq0=>?_
   obtain ⟨x,H7,I7,r7,y7,st7,fr7⟩:=hq0
   have I7':=I7.pinned (stat fr7) (T.obj _ _ st7)
   refine thn (hg cl s3.heap.objs.size fp s3 _ _ s7 σ5 H7 x u _ I7' r7 (step x H7 y7)) fun _ s8 hq0=>?_
   obtain ⟨σ8,H8,I8,q8⟩:=hq0
   refine thn (hc cl s3.heap.objs.size fp s3 _ _ s8 σ8 H8 _ I8 q8) fun b s9 hq0=>?_
   obtain ⟨H9,I9,q9⟩:=hq0
   have again:∀{σ':St} {H':Hp} {s':Shared} {m':Nat},Inv (cxC X N scope cl s3.heap.objs.size fp s3 (upd H2 s2.heap.objs.size (.lst []))) ([]++pinsAt fp s7.heap) σ' H' s'→m' < n→W (i+1) m' σ' H' →
     ∃m,m < n∧∃i σ' H',Inv (cxC X N scope cl s3.heap.objs.size fp s3 (upd H2 s2.heap.objs.size (.lst []))) [] σ' H' s'∧tn i s'.heap∧(∀b∈fp,H' b=none)∧W i m σ' H':=fun {σ' H' s' m'} I' hm w'=>by
    refine ⟨m',hm,i+1,σ',H',I'.unpinned,T.keep _ _ _ st7 fun b hb o e=>(I'.pin (b,o) (List.mem_append_right _ (List.mem_append_right _ (zfk hb e)))).1,fun b hb=>?_,w'⟩
    obtain ⟨o,e,d⟩:=T.obj _ _ st7 b hb
    exact (I'.pin (b,o) (List.mem_append_right _ (List.mem_append_right _ (zfk hb e)))).2.1
   cases b with
   | false =>
    obtain ⟨m',hm,w'⟩:=hN' _ _ q9
    exact again I9 hm w'
   | true =>
    refine thn (he cl s3.heap.objs.size fp s3 _ _ s9 σ8 H9 _ I9 q9) fun v s10 hq0=>?_
    obtain ⟨y,H10,I10,r10,xs,hxs,hz,n10⟩:=hq0
    obtain ⟨m',hm,w'⟩:=hN' _ _ n10
    refine thn (zoi (X:=cxC X N scope cl s3.heap.objs.size fp s3 (upd H2 s2.heap.objs.size (.lst []))) _ s10 σ8 H10 (.ref s2.heap.objs.size) [y] _ [v] (fun _ H'=>H'=upd H10 s2.heap.objs.size (.lst (xs++[y]))) I10 rfl (.cons r10 .nil) ⟨_,xs,y,rfl,rfl,hxs,hz,rfl⟩) fun _ s11 hq0=>?_
    obtain ⟨_,H11,I11,_,e11⟩:=hq0
    subst e11
    exact again I11 hm w'
 have hs3' : s2.heap.push { cls := .type "list", dict := none, data := .seq ([] : List Value).toArray } = s3.heap := by rw [← hs3]
 have fin:=codeAny_compStart_list (elt:=elt) (target:=tg) (iter:=iter) (ifs:=ifs) (rest:=[]) (scope:=scope) (pos:=pos) loop (T.self X.A 0 _ _ _ st4 loop)
 exact fin
theorem zhx (S:CompScope X N k is scope) {pins:List (Addr × Obj)} {σ:St} {H:Hp} {s:Shared} (I:Inv X pins σ H s) :
  ∃cl,closureFor scope X.env=pure cl∧(∀x c,cl.lookup x=some c→X.env.cells.lookup x=some c)∧∀x,(x,NameKind.free)∈scope.names→∃c,cl.lookup x=some c :=
 zsw fun y hy hf=>I.ok.has y.1 (S.frees y hy hf)
theorem zbbs (hcalm:X.calm=true) (hi:PI X tg iter wi) (hg:∀cl C fp s H,PG (cxC X N scope cl C fp s H) tg g) (hc:∀cl C fp s H,PIf (cxC X N scope cl C fp s H) ifs tc) (he:∀cl C fp s H,PE (cxC X N scope cl C fp s H) elt te)
  (S:CompScope X N k is scope) (hs:∀x,foldedSetIterable iter X.env x=pure x:=by intro _;rfl):PE X (.ListComp elt [⟨tg,iter,ifs,0⟩] scope pos) (tComp wi k is g tc te):=by
 intro pins s σ H Q I h
 obtain ⟨cl,e,c1,c2⟩:=zhx S I
 rw[eval_ListComp]
 refine wpAny_comprehension_free (use:=none) rfl hs e S.kind S.names (thn (hi pins s σ H _ I h) fun xv s1 h1=>thn h1 fun itv s2 h2=>?_)
 obtain ⟨it,fp,tn,J,H2,e2,I2,T,st2,f2,h3⟩:=h2
 subst e2
 refine zmd (Q:=Q) (RR:=fun acc C=>compPost (model X.prog X.w) X.A X.xe none (EP X pins σ Q) acc C) hcalm hg hc he S I2 T st2 f2 c1 c2 h3 ?_
 intro p C s' H' m off hm I' q
 exact ⟨m,hm,fun h' hs'=>⟨.ref p,H',off.back I' hs',rfl,q⟩⟩
theorem zbbg {i:Nat} {x:Str} {pos':Pos} (hcalm:X.calm=true) (hN:X.N.Nodup) (hxi:X.N[i]?=some x) (hx:Loc X.env.scope x) (hi:PI X tg iter wi) (hg:∀cl C fp s H,PG (cxC X N scope cl C fp s H) tg g) (hc:∀cl C fp s H,PIf (cxC X N scope cl C fp s H) ifs tc)
  (he:∀cl C fp s H,PE (cxC X N scope cl C fp s H) elt te) (S:CompScope X N k is scope) {spos:Pos} (hsw:swapsWith (.ListComp elt [⟨tg,iter,ifs,0⟩] scope pos) (some (.Name x pos')) spos.line X.env=pure true:=by rfl)
  (hf:X.fn x=true∨X.env.scope.names.lookup x=some .local:=by first | exact .inl rfl | exact .inr rfl | assumption)
  (hs:∀x,foldedSetIterable iter X.env x=pure x:=by intro _;rfl):PS X (.Assign [.Name x pos'] (.ListComp elt [⟨tg,iter,ifs,0⟩] scope pos) spos) (tAsg (tComp wi k is g tc te) (gName i)):=by
 intro pins s σ H D I h
 obtain ⟨cl,e,c1,c2⟩:=zhx S I
 rw[exec_Assign_Name_used (hs:=hsw)]
 refine wpAny_bind (wpAny_standAt (wpAny_bind (?_:wpAny _ X.A _ _ _ s)))
 show wpAny _ X.A (do let _ ← comprehension (.ListComp elt [⟨tg,iter,ifs,0⟩] scope pos) scope X.env _ (newList []) false (eval iter X.env) (some (assign (.Name x pos') X.env))) _ _ s
 refine wpAny_bind (wpAny_mono (wpAny_comprehension_free (use:=some (assign (.Name x pos') X.env)) (Q:=fun _ s'=>SP X pins D .next s') rfl hs e S.kind S.names
  (thn (hi pins s σ H _ I h) fun xv s1 h1=>thn h1 fun itv s2 h2=>?_)) (fun _ s' hq=>wpAny_pure (wpAny_pure hq)) fun _ _ e=>e)
 obtain ⟨it,fp,tn,J,H2,e2,I2,T,st2,f2,h3⟩:=h2
 subst e2
 refine zmd (Q:=fun v H'=>gName i v σ H' D.nx) (RR:=fun acc C=>compPost (model X.prog X.w) X.A X.xe (some (assign (.Name x pos') X.env)) (fun _ s'=>SP X pins D .next s') acc C) hcalm hg hc he S I2 T st2 f2 c1 c2 h3 ?_
 intro p C s' H' m off hm I' q
 show wpAny _ X.A (assign (.Name x pos') X.env (.ref p)) _ _ _
 refine wpAny_assign_Name (zoa (v:=.ref p) I' hN hxi hx rfl (fun s'' I'' hq0=>?_) hf)
 obtain ⟨a,hsb,ha⟩:=hq0
 have hCa:C≠a:=by
  rcases ha with z | z
  ·rw[z];exact off.loc
  ·exact (off.cell x a z).symm
 exact ⟨m,hm.sameBut hsb hCa,fun h' hs'=>⟨_,H',off.back I'' hs',q⟩⟩
end
section
variable {g:TG} {tc:TT} {te:TE} {Q:VK} {σ:St} {H:Hp} {p:Addr}
end
end L2
namespace L2
open PySem PySem.Spec PyProof.Rows
noncomputable def Callee (P:Program) (w:World) (K:PySem.W.Frag) (mg:Str→Option Value) (base:Heap) (x:Str) (k:Nat) (ps:List Str) (sp:Sp):Prop :=
 ∃f fd,FnOk P w K mg base CX0 k f fd ps sp∧Binds K fd ps []∧PySem.W.keepIn K (.ref f)=true∧mg x=some (.ref f)
section
variable {X:Cx} {x:Str} {k:Nat} {ps:List Str} {sp:Sp} {p pos:Pos} {e:Expr} {es:List Expr} {t:TA}
theorem zyr (c : Callee X.prog X.w X.K X.mg X.base x k ps sp) (hr : Room k X.A) (hg : Gl X x) (ha : PA X (e :: es) t) (hdb : (x == ("__debug__" : Str)) = false := by decide)
  (he:starEach (e::es) X.env=(false,eval e X.env)::starEach es X.env:=by rfl) (hpl:(backTo pos (starEach es X.env)).any (·.1)=false:=by rfl) :
  PE X (.Call (.Name x p) (e::es) [] pos) (tCall sp [] E0 t):=by
 obtain ⟨f,fd,F,b,kp,m⟩:=c
 exact zbbu F hr hg m kp b .nil pass0 ha hdb he hpl
end
noncomputable def TopF (K:PySem.W.Frag) (x:Str) (st:Stmt):Prop :=
 ∃f fd,PySem.W.nsIn K mainGlobals x=some (some (.ref f))∧Fun K x x st f fd
theorem top_mk {K:PySem.W.Frag} {x:Str} {st:Stmt} {f:Addr} {od an:Option Addr} {sl:Array (Option Value)} {oc kV dc pm cd ct:Value}
  (a:PySem.W.nsIn K mainGlobals x=some (some (.ref f))) (l:K.lookup f=some ⟨oc,od,.func (PySem.W.fnOf x x (defArgs st) (defBody st) (defScope st) .none kV dc pm an cd ct),sl⟩) (c:PySem.W.codeIn K cd x=true) (k:PySem.W.keepIn K (.ref f)=true):TopF K x st :=
 ⟨f,_,a,fun_mk l c k⟩
theorem zvz {P:Program} {w:World} {K:PySem.W.Frag} {mg:Str→Option Value} {base h:Heap} {x:Str} {st:Stmt} {N ps:List Str} {k:Nat} {sp:Sp} (T:TopF K x st) (X:K.In h) (G:h.Ns mainGlobals mg) (S:FnScope N ps (defScope st))
  (bd:∀(kV doc pm:Value) (an:Option Addr) (cdv ct:Value) (us:List Value),us.length=ps.length→bindArgs (PySem.W.fnOf x x (defArgs st) (defBody st) (defScope st) .none kV doc pm an cdv ct) ⟨us,[]⟩=pure (ps.zip us))
  (len:∀vs H Q E,sp vs H Q E→vs.length=ps.length)
  (hbody:∀(f:Addr) (cdv:Value) (A:Around) (outer:List Env) (s:Shared) (H:Hp) (vs:List V) (Q:VK) (E:XK),Room k (A.deeper (envOfC x (defScope st) s.heap.objs.size f cdv))→sp vs H Q E →
   ∃t,PSs (cxOf CX0 P w K mg base N x (defScope st) f cdv A outer s H E).nox (defBody st) t∧t {nx:=fun _ H'=>Q .non H',rt:=Q} (start N vs) H):Callee P w K mg base x (k+1) ps sp:=by
 obtain ⟨f,fd,a,F⟩:=T
 exact ⟨f,fd,F.ok S len (hbody f),F.binds bd,F.kp,PySem.W.mg_of X G a⟩
section
variable {X:Cx}
theorem zdc : CallR X (.builtin "isinstance") (fun xs H Q => ∃ x T t b, xs = [x, .ty T] ∧ TyOf X.K H x t ∧ PySem.W.kitOne X.K t (.type T) = some b ∧ Q (.bl b) H) := by
 intro pins s σ H xs us Q I r h
 obtain ⟨x,T,t,b,rfl,ty,e,q⟩:=h
 obtain ⟨u,w',rfl,ru,rw'⟩:=vals2 r
 cases (show w'=Value.type T from rw')
 exact zvh I ru ty e fun tk=>⟨.bl b,H,I.tok tk,rfl,q⟩
noncomputable def CDivP (i j:Int):Prop:=0 < j∧j < 2 ^ 1000
theorem zdu:OpR X (binaryOp .FloorDiv) (rI CDivP fun i j=>.int (i / j)):=opI fun i j _ _ _ _ _ hc q=>by
 have e:i.fdiv j=i / j:=Int.fdiv_eq_ediv_of_nonneg i (by have:=hc.1;(first|assumption|lia))
 refine floordiv_int (by have:=hc.1;(first|assumption|lia)) (by rw[e];exact q) (.inl (PyProof.noPylong_of_log2 ?_))
 have h1:j.natAbs < 2 ^ 1000:=by
  have h2:=hc.1
  have h3:=hc.2
  have h4:(j.natAbs:Int)=j:=by (first|assumption|lia)
  have h5:(j.natAbs:Int) < ((2 ^ 1000:Nat):Int):=by
   rw[h4];exact_mod_cast h3
  exact_mod_cast h5
 have h0:j.natAbs≠0:=by have:=hc.1;(first|assumption|lia)
 have:=(Nat.log2_lt h0).mpr h1
 (first|assumption|lia)
end
end L2
namespace L2
open PySem PySem.Spec PyProof.Rows
section
variable {X:Cx} {st:Stmt} {t:TS}
end
noncomputable def compLook (XN:List Str) (xs:List (Str × NameKind)) (N:List Str) (k:Nat) (is:List Nat) (scope:Scope):Bool :=
 (scope.kind == .function) && scope.names.all (fun y=>y.2 != .cell) && scope.names.all (fun y=>y.2 != .local || scope.names.lookup y.1 == some .local) &&
 scope.names.all (fun y=>y.2 != .free || (xs.lookup y.1 == some .cell || xs.lookup y.1 == some .free)) && (N.length == k+is.length) &&
 (List.range is.length).all (fun j=>match is[j]?,N[k+j]? with
  | some i,some x=>XN[i]? == some x && scope.names.lookup x == some .free
  | _,_=>false)
theorem zcq {X:Cx} {N:List Str} {k:Nat} {is:List Nat} {scope:Scope} (h:compLook X.N X.env.scope.names N k is scope=true):CompScope X N k is scope:=by
 unfold compLook at h
 simp only[Bool.and_eq_true,List.all_eq_true] at h
 obtain ⟨⟨⟨⟨⟨h1,h2⟩,h3⟩,h4⟩,h5⟩,h6⟩:=h
 refine ⟨eq_of_beq h1,fun y hy e=>?_,fun y hy e=>?_,fun y hy e=>?_,eq_of_beq h5,fun j i e=>?_⟩
 ·have:=h2 y hy;rw[e] at this;simp at this
 ·have:=h3 y hy;rw[e] at this;simp at this;exact this
 ·have:=h4 y hy;rw[e] at this;simp at this;exact this
 ·have hj:j < is.length:=(List.getElem?_eq_some_iff.mp e).1
  have:=h6 j (List.mem_range.mpr hj)
  rw[e] at this
  cases e2:N[k+j]? with
  | none=>rw[e2] at this;cases this
  | some x =>
   rw[e2] at this
   simp only[Bool.and_eq_true,beq_iff_eq] at this
   exact ⟨x,rfl,this.1,this.2⟩
theorem bt_len : bootBuiltins "len" = some (.builtin "len") := by decide +kernel
theorem bt_abs : bootBuiltins "abs" = some (.builtin "abs") := by decide +kernel
theorem bt_min : bootBuiltins "min" = some (.builtin "min") := by decide +kernel
theorem bt_max : bootBuiltins "max" = some (.builtin "max") := by decide +kernel
theorem bt_sum : bootBuiltins "sum" = some (.builtin "sum") := by decide +kernel
theorem zkp : bootBuiltins "sorted" = some (.builtin "sorted") := by decide +kernel
theorem bt_all : bootBuiltins "all" = some (.builtin "all") := by decide +kernel
theorem zby : bootBuiltins "isinstance" = some (.builtin "isinstance") := by decide +kernel
theorem bt_int : bootBuiltins "int" = some (.type "int") := by decide +kernel
theorem zsy : bootBuiltins "bool" = some (.type "bool") := by decide +kernel
theorem zko : bootBuiltins "tuple" = some (.type "tuple") := by decide +kernel
theorem bt_set : bootBuiltins "set" = some (.type "set") := by decide +kernel
theorem zxu {H:Hp} {p:Addr} {o:HO} (h:H p=some o):upd H p o=H:=by
 funext b
 unfold upd
 split
 ·subst b;exact h.symm
 ·rfl
section
variable {X:Cx} {K:PySem.W.Frag}
end
end L2
namespace Srt
open PySem PySem.W PyProof.Rows
section
variable (r:Nat→Nat)
noncomputable def lt (i j:Nat):Bool:=decide (r i < r j)
noncomputable def At (p:Array Nat) (i:Nat):Nat:=r (p.getD i 0)
noncomputable def Up (p:Array Nat) (n:Nat):Prop:=∀i j,i≤j→j < n→At r p i≤At r p j
end
section
variable {r:Nat→Nat} {p:Array Nat} {n:Nat}
end
end Srt
set_option maxHeartbeats 4000000
namespace Srt
open PySem PySem.W PyProof.Rows
section
variable {n:Nat}
end
section
variable {P:Program} {w:World} {B:Around} {E:Value→Shared→Prop} {st:Shared}
noncomputable def midHeap (h : Heap) (d : Addr) (xs : List Value) : Heap := ((h.update d (Obj.mapSeq fun _ => (#[] : Array Value))).push (seqObj "tuple" xs.toArray 0)).push (seqObj "list" #[] 0)
theorem zis {h:Heap} {d b:Addr} {xs:List Value} {ob:Obj} (ne:b≠d) (e:h.get? b=some ob):(midHeap h d xs).get? b=some ob :=
 Heap.get?_push_of_some _ (Heap.get?_push_of_some _ ((Heap.get?_update_ne _ _ _ _ ne).trans e))
noncomputable def Answers (P:Program) (w:World) (B:Around) (r:Nat→Nat) (xs:List Value) (sg:Shared):Prop :=
 ∃κ,(∀R:SortKind→Shared→Prop,R κ sg→wpAny (model P w) B (keyKind' xs.toArray) R (fun _ _=>False) sg) ∧
  ∀i j C,i < xs.length→j < xs.length→C (lt r i j) sg→kas_ask P w B κ xs i j C sg
noncomputable def outOf (xs:List Value) (p:Array Nat):Array Value:=List.toArray (p.toList.map fun i=>xs.getD i Value.none)
theorem ztz {xs:List Value} (h:xs.length < 2):(xs.toArray.zip xs.toArray).map (·.2)=outOf xs (List.toArray (List.range xs.length)):=by
 unfold outOf
 match xs,h with
 | [],_=>simp
 | [_],_=>simp[List.range_succ]
 | _::_::_,h=>exact absurd h (by simp)
end
end Srt
set_option maxHeartbeats 4000000
namespace Srt
open PySem PySem.W PyProof.Rows HT
theorem zhq:∀a:List Int,lexLt a a=false
 | []=>rfl
 | x::a=>by rw[zcz,if_pos rfl];exact zhq a
theorem zgv:∀{a b c:List Int},lexLt a b=true→lexLt b c=true→lexLt a c=true
 | _,[],[],_,h=>by rw[zdv] at h;cases h
 | _,_::_,[],_,h=>by rw[zdg] at h;cases h
 | [],[],_::_,h,_=>by rw[zdv] at h;cases h
 | _::_,[],_::_,h,_=>by rw[zdg] at h;cases h
 | [],_::_,_::_,_,_=>zce _ _
 | x::a,y::b,z::c,h1,h2=>by
  rw[zcz] at h1 h2 ⊢
  by_cases e1:x=y
  ·rw[if_pos e1] at h1
   subst e1
   by_cases e2:x=z
   ·rw[if_pos e2] at h2 ⊢;exact zgv h1 h2
   ·rw[if_neg e2] at h2 ⊢;exact h2
  ·rw[if_neg e1] at h1
   have h1':=of_decide_eq_true h1
   by_cases e2:y=z
   ·subst e2
    rw[if_neg e1];exact h1
   ·rw[if_neg e2] at h2
    have h2':=of_decide_eq_true h2
    rw[if_neg (by (first|assumption|lia))]
    exact decide_eq_true (by (first|assumption|lia))
theorem zok:∀a b:List Int,lexLt a b=true∨a=b∨lexLt b a=true
 | [],[]=>.inr (.inl rfl)
 | [],_::_=>.inl (zce _ _)
 | _::_,[]=>.inr (.inr (zce _ _))
 | x::a,y::b=>by
  rw[zcz,zcz]
  by_cases e:x=y
  ·subst e
   rw[if_pos rfl,if_pos rfl]
   rcases zok a b with h | h | h
   ·exact .inl h
   ·exact .inr (.inl (by rw[h]))
   ·exact .inr (.inr h)
  ·rw[if_neg e,if_neg (fun z=>e z.symm)]
   rcases Int.lt_or_gt_of_ne e with h | h
   ·exact .inl (decide_eq_true h)
   ·exact .inr (.inr (decide_eq_true h))
theorem zuz {a b:List Int} (h:lexLt a b=true):lexLt b a=false:=by
 cases e:lexLt b a with
 | false=>rfl
 | true=>have:=zgv h e;rw[zhq] at this;cases this
theorem zst {p q:Nat→Bool} (hpq:∀x,p x=true→q x=true):∀{l:List Nat} {y:Nat},y∈l→q y=true→p y=false→l.countP p < l.countP q
 | [],_,h,_,_=>nomatch h
 | x::l,y,h,h1,h2=>by
  have mono:∀l:List Nat,l.countP p≤l.countP q:=fun l=>List.countP_mono_left fun x _=>hpq x
  rcases List.mem_cons.mp h with rfl | h
  ·rw[List.countP_cons_of_pos h1,List.countP_cons_of_neg (by rw[h2];decide)]
   exact Nat.lt_succ_of_le (mono l)
  ·have ih:=zst hpq h h1 h2
   by_cases c:p x=true
   ·rw[List.countP_cons_of_pos c,List.countP_cons_of_pos (hpq x c)];(first|assumption|lia)
   ·rw[List.countP_cons_of_neg c]
    by_cases d:q x=true
    ·rw[List.countP_cons_of_pos d];(first|assumption|lia)
    ·rw[List.countP_cons_of_neg d];exact ih
noncomputable def rank (ks:List (List Int)) (i:Nat):Nat:=(List.range ks.length).countP fun k=>lexLt (ks.getD k []) (ks.getD i [])
theorem zlf {ks:List (List Int)} {i j:Nat} (hi:i < ks.length) (hj:j < ks.length):lt (rank ks) i j=lexLt (ks.getD i []) (ks.getD j []):=by
 have up:∀{a b:Nat},a < ks.length→lexLt (ks.getD a []) (ks.getD b [])=true→rank ks a < rank ks b:=fun {a b} ha h =>
  zst (fun x hx=>zgv hx h) (List.mem_range.mpr ha) h (zhq _)
 cases e:lexLt (ks.getD i []) (ks.getD j []) with
 | true=>exact decide_eq_true (up hi e)
 | false =>
  refine decide_eq_false fun h=>?_
  rcases zok (ks.getD i []) (ks.getD j []) with z | z | z
  ·rw[e] at z;cases z
  ·unfold rank at h;rw[z] at h;exact absurd h (Nat.lt_irrefl _)
  ·have:=up hj z;(first|assumption|lia)
section
variable {prog:Program} {w:World} {A:Around} {s:Shared} {b:Bool} {Q:Bool→Shared→Prop}
theorem zry:∀{us ws:List Value} {ns ms:List Int} (i:Nat),IntsAre us ns→IntsAre ws ms→Q (lexLt ns ms) s→KatLex prog w A b (decide (us.length < ws.length)) Q (us.zip ws) i s
 | _,_,_,_,_,.nil,.nil,h=>h
 | _,_,_,_,_,.nil,.cons _ _ _,h=>h
 | _,_,_,_,_,.cons _ _ _,.nil,h=>h
 | _,_,_,_,i,.cons x t (vs:=us) (ns:=ns) r1,.cons y u (vs:=ws) (ns:=ms) r2,h=>by
  rw[zcz] at h
  refine kat_cons (wpAny_eqBool_int (kat_go (fun e=>kat_yes ?_) fun e=>kat_no ?_))
  ·rw[if_pos (eq_of_beq e)] at h
   have q:=zry (i+1) r1 r2 h
   have ee:decide ((Value.int x t::us).length < (Value.int y u::ws).length)=decide (us.length < ws.length):=by
    rw[List.length_cons,List.length_cons,Bool.eq_iff_iff]
    simp
   rw[ee]
   exact q
  ·rw[if_neg (beq_eq_false_iff_ne.mp e)] at h
   cases hb:(b && i == 0) with
   | true=>exact oneLt_int h
   | false=>exact kat_one _ _ (PyProof.Rows.lt_int h)
end
end Srt
namespace L2
open PySem PySem.Spec PyProof.Rows PySem.W
theorem znv:∀{as:List Addr} {us:List Value},Vals (as.map V.ref) us→us=as.map Value.ref
 | [],_,.nil=>rfl
 | a::as,_,.cons r t=>by
  rw[show _=Value.ref a from r,znv t]
  rfl
noncomputable def TupsAt (K:PySem.W.Frag) (H:Hp) (ps:List (Addr × List Int)):Prop:=∀p∈ps,SqT K H p.1 (p.2.map V.int)
theorem zm {α β:Type} (f:α→β) (d:β) {l:List α} {i:Nat} {x:α} (h:l[i]?=some x):(l.map f).getD i d=f x:=by
 rw[List.getD_eq_getElem?_getD,List.getElem?_map,h]
 rfl
section
variable {X:Cx}
end
end L2
set_option maxHeartbeats 4000000
namespace L2
open PySem PySem.Spec PyProof.Rows
mutual
inductive DAt (K:PySem.W.Frag) (H:Hp):V→PyData→Prop
 | non:DAt K H .non .none
 | bl (b:Bool):DAt K H (.bl b) (.bool b)
 | int (i:Int):DAt K H (.int i) (.int i)
 | str (x:Str):DAt K H (.str x) (.str x)
 | lst {a:Addr} {xs:List V} {ds:List PyData}:SqL K H a xs→DAll K H xs ds→DAt K H (.ref a) (.list ds)
 | tup {a:Addr} {xs:List V} {ds:List PyData}:SqT K H a xs→DAll K H xs ds→DAt K H (.ref a) (.tuple ds)
inductive DAll (K:PySem.W.Frag) (H:Hp):List V→List PyData→Prop
 | nil:DAll K H [] []
 | cons {x:V} {xs:List V} {d:PyData} {ds:List PyData}:DAt K H x d→DAll K H xs ds→DAll K H (x::xs) (d::ds)
end
section
variable {X:Cx} {pins:List (Addr × Obj)} {σ:St} {H:Hp} {s:Shared}
mutual
theorem zex (I:Inv X pins σ H s):∀{v:V} {d:PyData} {u:Value},DAt X.K H v d→RelV v u→∃as,Reads s.heap u d as
 | _,_,_,.non,r=>by cases r;exact ⟨_,.none⟩
 | _,_,_,.bl b,r=>by cases r;exact ⟨_,.bool b⟩
 | _,_,_,.int i,r=>by obtain ⟨t,rfl⟩:=r;exact ⟨_,.int i t⟩
 | _,_,_,.str x,r=>by obtain ⟨t,rfl⟩:=r;exact ⟨_,.str x t⟩
 | _,_,_,.lst h all,r=>by
  cases r
  obtain ⟨its,rv,⟨o,n,e,c,_,dd⟩,_⟩:=I.list h
  obtain ⟨as,q⟩:=zgb I all rv
  exact ⟨_,.list e c dd q⟩
 | _,_,_,.tup h all,r=>by
  cases r
  obtain ⟨its,rv,⟨o,e,c,n,dd⟩,_⟩:=I.tuple h
  obtain ⟨as,q⟩:=zgb I all rv
  exact ⟨_,.tuple e c dd q⟩
theorem zgb (I:Inv X pins σ H s):∀{vs:List V} {ds:List PyData} {us:List Value},DAll X.K H vs ds→Vals vs us→∃as,ReadsAll s.heap us ds as
 | _,_,_,.nil,.nil=>⟨_,.nil⟩
 | _,_,_,.cons h t,.cons r rs=>by
  obtain ⟨as,q⟩:=zex I h r
  obtain ⟨bs,q'⟩:=zgb I t rs
  exact ⟨_,.cons q q'⟩
end
end
noncomputable def rEqX (K:PySem.W.Frag) (neg:Bool):R2:=fun x y H Q=>∃dx dy,DAt K H x dx∧DAt K H y dy∧PySem.SeqAt.shaped dx=true∧PySem.SeqAt.shaped dy=true∧Q (.bl (if neg then !PyData.eqv dx dy else PyData.eqv dx dy)) H
section
variable {X:Cx}
theorem op_eqX (hu:X.A.units+64 < cLine):OpR X (compareOp .Eq) (rEqX X.K false):=by
 intro pins s σ H x y v u Q I r1 r2 h
 obtain ⟨dx,dy,a1,a2,a3,a4,q⟩:=h
 obtain ⟨as,ra⟩:=zex I a1 r1
 obtain ⟨bs,rb⟩:=zex I a2 r2
 exact eq_dataH ra rb a3 a4 hu ⟨.bl (PyData.eqv dx dy),H,I,rfl,q⟩
theorem op_neX (hu:X.A.units+64 < cLine):OpR X (compareOp .NotEq) (rEqX X.K true):=by
 intro pins s σ H x y v u Q I r1 r2 h
 obtain ⟨dx,dy,a1,a2,a3,a4,q⟩:=h
 obtain ⟨as,ra⟩:=zex I a1 r1
 obtain ⟨bs,rb⟩:=zex I a2 r2
 exact ne_dataH ra rb a3 a4 hu ⟨.bl (!PyData.eqv dx dy),H,I,rfl,q⟩
end
noncomputable def dI (ns:List Int):List PyData:=ns.map PyData.int
noncomputable def dRow (ns:List Int):PyData:=.tuple (dI ns)
theorem dI_eqv:∀a b:List Int,PyData.eqvAll (dI a) (dI b)=decide (a=b)
 | [],[]=>by rfl
 | [],_::_=>by rfl
 | _::_,[]=>by rfl
 | x::a,y::b=>by
  show (x == y && PyData.eqvAll (dI a) (dI b))=_
  rw[dI_eqv a b,Bool.eq_iff_iff]
  simp
theorem znk (a b:List Int):PyData.eqv (dRow a) (dRow b)=decide (a=b):=dI_eqv a b
theorem zoy:∀a b:List (List Int),PyData.eqvAll (a.map dRow) (b.map dRow)=decide (a=b)
 | [],[]=>by rfl
 | [],_::_=>by rfl
 | _::_,[]=>by rfl
 | x::a,y::b=>by
  show (PyData.eqv (dRow x) (dRow y) && PyData.eqvAll (a.map dRow) (b.map dRow))=_
  rw[zoy a b,znk,Bool.eq_iff_iff]
  simp
theorem dI_lay:∀a:List Int,PyData.canLayAll0 (dI a)=true∧PyData.depthAll (dI a)=0
 | []=>⟨rfl,rfl⟩
 | x::a=>by
  obtain ⟨h1,h2⟩:=dI_lay a
  refine ⟨?_,?_⟩
  ·show (true && PyData.canLayAll0 (dI a))=true
   rw[h1];rfl
  ·show max 0 (PyData.depthAll (dI a))=0
   rw[h2];rfl
theorem zqa (a:List Int):PySem.SeqAt.shaped (dRow a)=true:=by
 obtain ⟨h1,h2⟩:=dI_lay a
 show (PyData.canLayAll0 (dI a) && decide (PyData.depthAll (dI a)+1≤64))=true
 rw[h1,h2];rfl
theorem zox:∀a:List (List Int),PyData.canLayAll0 (a.map dRow)=true∧PyData.depthAll (a.map dRow)≤1
 | []=>⟨rfl,Nat.zero_le _⟩
 | x::a=>by
  obtain ⟨h1,h2⟩:=zox a
  obtain ⟨h3,h4⟩:=dI_lay x
  refine ⟨?_,?_⟩
  ·show (PyData.canLayAll0 (dI x) && PyData.canLayAll0 (a.map dRow))=true
   rw[h1,h3];rfl
  ·show max (PyData.depthAll (dI x)+1) (PyData.depthAll (a.map dRow))≤1
   rw[h4];(first|assumption|lia)
theorem zey (a:List (List Int)):PySem.SeqAt.shaped (.tuple (a.map dRow))=true:=by
 obtain ⟨h1,h2⟩:=zox a
 show (PyData.canLayAll0 (a.map dRow) && decide (PyData.depthAll (a.map dRow)+1≤64))=true
 rw[h1,decide_eq_true (by (first|assumption|lia))];rfl
section
variable {X:Cx}
theorem zkt:∀{bs:List Bool} {us:List Value},Vals (bs.map V.bl) us→us=bs.map Value.bool
 | [],_,.nil=>rfl
 | b::bs,_,.cons r t=>by
  rw[show _=Value.bool b from r,zkt t]
  rfl
theorem zud (bs:List Bool):((List.range bs.length).all fun i=>bs.getD i false)=bs.all id:=by
 rw[Bool.eq_iff_iff]
 simp only[List.all_eq_true,List.mem_range]
 constructor
 ·intro h b hb
  obtain ⟨i,hi,rfl⟩:=List.getElem_of_mem hb
  have:=h i hi
  rw[List.getD_eq_getElem?_getD,List.getElem?_eq_getElem hi] at this
  exact this
 ·intro h i hi
  rw[List.getD_eq_getElem?_getD,List.getElem?_eq_getElem hi]
  exact h _ (List.getElem_mem hi)
noncomputable def rAny (K:PySem.W.Frag) (al:Bool):List V→Hp→VK→Prop:=fun xs H Q=>∃(l:Addr) (bs:List Bool),xs=[.ref l]∧SqL K H l (bs.map V.bl)∧Q (.bl (if al then bs.all id else bs.any id)) H
theorem zph {prog:Program} {w:World} {A:Around} (bs:List Bool):TruthOf prog w A (fun i v=>(bs.map Value.bool).toArray[i]?=some v) (fun i=>bs.getD i false):=fun i v s Q E hP hQ=>by
 have hP':(bs.map Value.bool)[i]?=some v:=by simpa using hP
 rw[List.getElem?_map] at hP'
 cases e:bs[i]? with
 | none=>rw[e] at hP';cases hP'
 | some b =>
  rw[e] at hP'
  cases hP'
  dsimp only at hQ
  rw[List.getD_eq_getElem?_getD,e] at hQ
  exact wpAny_truthy_bool hQ
theorem zbaj (hc:X.calm=true) {pins:List (Addr × Obj)} {σ:St} {H:Hp} {s:Shared} {l:Addr} {bs:List Bool} {R:Bool→Prop} (I:Inv X pins σ H s) (hl:SqL X.K H l (bs.map V.bl)) {Q:Value→Shared→Prop} {F:(Nat→Bool)→Nat→Bool}
  (hQ:∀s',Inv X pins σ H s'→Q (.bool (F (fun i=>bs.getD i false) bs.length)) s') :
  wpAny (model X.prog X.w) X.A.in1 (pyIter (.ref l)) (fun it s₂=>∃I fp wr n P St tr,it=.ref I∧Walks X.prog X.w X.A.in1 I fp wr n P St∧St 0 s₂.heap∧TruthOf X.prog X.w X.A.in1 P tr ∧
   ∀h' tk,(∀b o,b∉wr→s₂.heap.get? b=some o→h'.get? b=some o)→Q (.bool (F tr n)) {s₂ with heap:=h',toks:=tk}) X.xe s:=by
 obtain ⟨its,rv,pl,hz⟩:=I.list hl
 have e:=zkt rv
 subst e
 have hlt:l < s.heap.objs.size:=by obtain ⟨o,n,e,_⟩:=pl;exact Heap.lt_size e
 refine wpAny_pyIter_list pl.isList ?_
 refine ⟨s.heap.objs.size,_,[s.heap.objs.size],_,_,_,_,rfl,Walks.list (A:=X.A.in1) (I.ok.hd hc) _ l (Nat.ne_of_lt hlt) (bs.map Value.bool).toArray,⟨⟨_,Heap.get?_push_size _ rfl,rfl,rfl⟩,pl.isList.push _⟩,zph bs,fun h' tk hk=>?_⟩
 have e2:(bs.map Value.bool).toArray.size=bs.length:=by simp
 rw[e2]
 refine hQ _ ?_
 refine I.kept (t':=tk) fun b o e=>hk b o ?_ (Heap.get?_push_of_some _ e)
 intro z
 have z':b=s.heap.objs.size:=by simpa using z
 have z2:=Heap.lt_size e
 rw[z'] at z2
 exact absurd z2 (Nat.lt_irrefl _)
theorem zbaf (hc : X.calm = true) : CallR X (.builtin "all") (rAny X.K true) := by
 intro pins s σ H xs us Q I r h
 obtain ⟨l,bs,rfl,hl,q⟩:=h
 obtain ⟨u,rfl,ru⟩:=vals1 r
 cases ru
 refine call_all_walk (zbaj (R:=fun _=>True) hc I hl (F:=fun tr n=>(List.range n).all tr) fun s' I'=>⟨.bl ((List.range bs.length).all fun i=>bs.getD i false),H,I',rfl,?_⟩)
 rw[zud]
 exact q
end
end L2
set_option maxHeartbeats 4000000
namespace Dct
open PySem PySem.W PyProof.Rows
noncomputable def Raw (h:Heap) (d:Addr) (es:Array DictEntry) (ep:Nat):Prop:=∃ob,h.get? d=some ob∧ob.ExactDict∧ob.data=.dict es ep
theorem Raw.kept {h h':Heap} {d:Addr} {es:Array DictEntry} {ep:Nat} (x:Raw h d es ep) (k:∀ob,h.get? d=some ob→h'.get? d=some ob):Raw h' d es ep :=
 let ⟨ob,e,r⟩:=x;⟨ob,k ob e,r⟩
theorem Raw.lt {h:Heap} {d:Addr} {es:Array DictEntry} {ep:Nat} (x:Raw h d es ep):d < h.objs.size:=let ⟨_,e,_⟩:=x;Heap.lt_size e
theorem Raw.is {st : Shared} {d : Addr} {es : Array DictEntry} {ep : Nat} (x : Raw st.heap d es ep) : st.TypeIs (.ref d) "dict" := let ⟨ob, e, c, _⟩ := x; ⟨ob, e, c.1⟩
section
variable {P:Program} {w:World} {B:Around} {E:Value→Shared→Prop} {st:Shared} {d it:Addr} {es:Array DictEntry} {ep k:Nat}
noncomputable def iterObj (d : Addr) (n ep : Nat) : Obj := { cls := .type "dict_keyiterator", data := .fields #[.ref d, .int 0 0, .int n 0, .int ep 0] }
theorem zqt {W:Value→Shared→Prop} (ns:(d == sysModules)=false) (x:Raw st.heap d es ep) (fin:W (.ref st.heap.objs.size) {st with heap:=st.heap.push (iterObj d es.size ep)}):wpAny (model P w) B (pyIter (.ref d)) W E st:=by
 obtain ⟨ob,e,c,dt⟩:=id x
 have ty:=x.is
 refine wpAny_pyIter_slot ty F.slot_dict_iter (wpAny_call_entry F.slot_dict_iter ty F.entry_dict_iter ?body (F.args_dict_iter_1 _))
 case body =>
  unfold Builtin.«dict.__iter__» Builtin.Dict.dictSlotNone Builtin.Dict.showsAll
  refine wpAny_bind (wpAny_bind (wpAny_notOrdered_dict ty (wpAny_pure ?_)))
  show wpAny _ _ ((if (d == sysModules)=true then _ else _) >>= _) _ _ st
  rw[if_neg (fun z=>Bool.false_ne_true (ns.symm.trans z))]
  refine wpAny_bind (wpAny_pure (wpAny_bind (wpAny_dictEntries e dt (wpAny_bind (wpAny_dictEpoch e dt (wpAny_bind (wpAny_newObj_type (wpAny_pure ⟨_, rfl, "dict_keyiterator", _, ⟨_, Heap.get?_push_size _ rfl, rfl⟩, F.slot_dict_keyiterator_next.lookup, ?_⟩))))))))
  exact fin
theorem zqs {W:Option Value→Shared→Prop} {en:DictEntry} (hi:st.heap.IsKeyIter it d k es.size ep) (x:Raw st.heap d es ep) (hk:es[k]?=some en)
  (fin:∀g:Heap,g.IsKeyIter it d (k+1) es.size ep→Heap.SameBut it st.heap g→W (some en.key) {st with heap:=g}):wpAny (model P w) B (pyNext (.ref it)) W E st:=by
 obtain ⟨oi,ei,ci,di⟩:=id hi
 obtain ⟨ob,e,c,dt⟩:=id x
 have lt:k < es.size:=(Array.getElem?_eq_some_iff.mp hk).1
 unfold pyNext
 refine wpAny_bind (wpAny_attempt (wpAny_callSpecial?_slot (name := Str.ofString "__next__") hi.typeIs F.slot_dict_keyiterator_next (wpAny_call_entry F.slot_dict_keyiterator_next hi.typeIs F.entry_dict_keyiterator_next ?body (F.args_dict_keyiterator_next_1 _))))
 case body =>
  refine wpAny_bind (wpAny_pure (wpAny_bind (wpAny_bind (wpAny_bind (wpAny_typeNameOfWhole_keyiter hi.typeIs (wpAny_pure (wpAny_bind (wpAny_fieldsOf ei di ?_))))))))
  simp only [show Builtin.Dict_items.ownsTuple "dict_keyiterator" = false from by decide, Bool.false_eq_true, ite_false]
  show wpAny _ _ (if (Value.ref d == Value.none)=true then _ else _) _ _ st
  have nn:¬ (Value.ref d == Value.none)=true:=Bool.false_ne_true
  rw[if_neg nn]
  refine wpAny_bind (wpAny_pure (wpAny_bind (wpAny_dictEntries e dt ?_)))
  rw[if_neg (by simp)]
  refine wpAny_bind (wpAny_pure (wpAny_bind (wpAny_dictEpoch e dt ?_)))
  rw[if_neg (by simp)]
  refine wpAny_pure ?_
  simp only[show ¬ ((k:Int) < 0) from by (first|assumption|lia),ite_false,Int.toNat_natCast,hk]
  refine wpAny_bind (wpAny_bind (wpAny_typeNameOfWhole_keyiter hi.typeIs (wpAny_pure (wpAny_bind (wpAny_isOneOf_keyiter hi.typeIs ?_)))))
  show wpAny _ _ (setField (.ref it) 1 (rawInt ((k:Int)+1)) >>= _) _ _ st
  refine wpAny_bind (wpAny_setField ei di (by simp) ?_)
  have hi':(st.heap.update it (Obj.mapFields (·.setIfInBounds 1 (rawInt ((k:Int)+1))))).IsKeyIter it d (k+1) es.size ep :=
   ⟨_,Heap.get?_update_self _ ei (Obj.isFreed_of_fields (Obj.data_mapFields di _)),(Obj.cls_mapFields ..).trans ci,by rw[Obj.data_mapFields di];simp[rawInt]⟩
  refine wpAny_bind (wpAny_holding (wpAny_bind (wpAny_isOneOf_keyiter (s:={st with heap:=st.heap.update it (Obj.mapFields (·.setIfInBounds 1 (rawInt ((k:Int)+1))))}) hi'.typeIs ?_)))
  show wpAny _ _ (pure en.key) _ _ _
  exact wpAny_pure (wpAny_pure ⟨_,rfl,wpAny_pure (fin _ hi' (Heap.SameBut.update ..))⟩)
theorem zwm {W:Option Value→Shared→Prop} (hh:B.handled=none) (hi:st.heap.IsKeyIter it d k es.size ep) (x:Raw st.heap d es ep) (hk:es.size≤k)
  (fin:∀g:Heap,Heap.ExtBut it st.heap g→W none {st with heap:=g}):wpAny (model P w) B (pyNext (.ref it)) W E st:=by
 obtain ⟨oi,ei,ci,di⟩:=id hi
 obtain ⟨ob,e,c,dt⟩:=id x
 unfold pyNext
 refine wpAny_bind (wpAny_attempt (wpAny_callSpecial?_slot (name := Str.ofString "__next__") hi.typeIs F.slot_dict_keyiterator_next (wpAny_call_entry F.slot_dict_keyiterator_next hi.typeIs F.entry_dict_keyiterator_next ?body (F.args_dict_keyiterator_next_1 _))))
 case body =>
  refine wpAny_bind (wpAny_pure (wpAny_bind (wpAny_bind (wpAny_bind (wpAny_typeNameOfWhole_keyiter hi.typeIs (wpAny_pure (wpAny_bind (wpAny_fieldsOf ei di ?_))))))))
  simp only [show Builtin.Dict_items.ownsTuple "dict_keyiterator" = false from by decide, Bool.false_eq_true, ite_false]
  show wpAny _ _ (if (Value.ref d == Value.none)=true then _ else _) _ _ st
  have nn:¬ (Value.ref d == Value.none)=true:=Bool.false_ne_true
  rw[if_neg nn]
  refine wpAny_bind (wpAny_pure (wpAny_bind (wpAny_dictEntries e dt ?_)))
  rw[if_neg (by simp)]
  refine wpAny_bind (wpAny_pure (wpAny_bind (wpAny_dictEpoch e dt ?_)))
  rw[if_neg (by simp)]
  refine wpAny_pure ?_
  simp only[show ¬ ((k:Int) < 0) from by (first|assumption|lia),ite_false,Int.toNat_natCast,Array.getElem?_eq_none hk]
  refine wpAny_bind (wpAny_bind (wpAny_typeNameOfWhole_keyiter hi.typeIs (wpAny_pure ?_)))
  show wpAny _ _ (setField (.ref it) 0 .none >>= _) _ _ st
  refine wpAny_bind (wpAny_setField ei di (by simp) ?_)
  show wpAny _ _ (newExc (.type "StopIteration") [] >>= _) _ _ _
  refine wpAny_bind ?_
  simp only[newExc,newTuple]
  refine wpAny_bind (wpAny_newObj_type (wpAny_bind (m:=firstArgMember _ _) (wpAny_of_eq (a:=Value.none) (by first | rfl | (simp only[firstArgMember];rfl)) (wpAny_newObj_type ?_ (by size_fits)))) (by size_fits))
  simp only[raiseNew]
  refine wpAny_bind (wpAny_handled ?_)
  rw[show B.in1.handled=none from hh]
  refine wpAny_bind (wpAny_pure (wpAny_throw ?_))
  refine wpAny_bind (wpAny_isInstance (T := "StopIteration") (b := true) ?_ isSubtype_stop (wpAny_pure (fin _ (((Heap.SameBut.update ..).extBut.push _).push _))))
  exact ⟨_,Heap.get?_push_size _ rfl,rfl⟩
theorem zub (hh:B.handled=none) (ne:d≠it) (es:Array DictEntry) (ep:Nat) :
  Walks P w B it [it,d] [it] es.size (fun i v=>∃en,es[i]?=some en∧v=en.key) (fun i h=>h.IsKeyIter it d i es.size ep∧Raw h d es ep) where
 sub:=fun b hb=>List.mem_cons.mpr (.inl (List.mem_singleton.mp hb))
 frame:=fun _ _ _ z hk=>⟨z.1.at fun o e=>hk it List.mem_cons_self o e,z.2.kept fun o e=>hk d (List.mem_cons_of_mem _ (List.mem_singleton.mpr rfl)) o e⟩
 item:=fun i sh W' E' hi z hQ=>by
  have hx:es[i]?=some es[i]:=Array.getElem?_eq_getElem hi
  exact zqs z.1 z.2 hx fun g a b=>hQ es[i].key g sh.toks ⟨_,hx,rfl⟩ ⟨a,z.2.kept fun o e=>b.extBut d o ne e⟩ fun c o hc e=>b.extBut c o (fun q=>hc (List.mem_singleton.mpr q)) e
 done:=fun sh W' E' z hQ=>zwm hh z.1 z.2 (Nat.le_refl _) fun g b=>hQ g sh.toks fun c o hc e=>b c o (fun q=>hc (List.mem_singleton.mpr q)) e
 self:=fun _ _ _ _ z hQ=>wpAny_pyIter_keyiter z.1 hQ
theorem zbbc (ns : (d == sysModules) = false) (es : Array DictEntry) (ep : Nat) : KdlSrc P w "dict" d d es.size (fun i v => ∃ en, es[i]? = some en ∧ v = en.key) (fun h => Raw h d es ep) where
 type:=fun _ x=>x.is
 there:=fun _ x=>⟨x.lt,x.lt⟩
 keep:=fun _ _ x hk=>x.kept fun o e=>hk d (.inl rfl) o e
 notList:=by decide
 notTuple:=by decide
 hint:=fun _ _ _ _ x hq=>kdl_hint_dict x.is hq
 iter:=fun _ sh hh x=>⟨_,_,fun _ _ hq=>zqt ns x hq,zub hh (Nat.ne_of_lt x.lt) es ep,⟨⟨_,Heap.get?_push_size _ rfl,rfl,rfl⟩,x.kept fun o e=>Heap.get?_push_of_some _ e⟩⟩
end
end Dct
namespace Srt
open PySem PySem.W PyProof.Rows
section
variable {P:Program} {w:World} {B:Around} {E:Value→Shared→Prop} {st:Shared}
end
end Srt
set_option maxHeartbeats 4000000
namespace L2
open PySem PySem.Spec PyProof.Rows
theorem ObjOk.ob {P:Program} {w:World} {H:Hp} {h:Heap} {a:Addr} {o:HO} (x:ObjOk P w H h a o):∃ob,h.get? a=some ob:=by
 cases o with
 | lst xs=>obtain ⟨_,_,_,_,e⟩:=x;exact ⟨_,e⟩
 | tup xs=>obtain ⟨_,_,_,ob,e,_⟩:=x;exact ⟨_,e⟩
 | dK kvs=>obtain ⟨_,_,_,_,ob,_,_,e,_⟩:=x;exact ⟨_,e⟩
 | dT kvs=>obtain ⟨_,_,_,_,ob,_,_,e,_⟩:=x;exact ⟨_,e⟩
 | set S n=>obtain ⟨ob,_,_,_,e,_⟩:=x;exact ⟨_,e⟩
 | ins C dx fs=>obtain ⟨_,_,_,e,_⟩:=x;exact ⟨_,e⟩
 | own y=>obtain ⟨_,e⟩:=x;exact ⟨_,e⟩
 | xd fs=>obtain ⟨_,⟨_,_,_,e,_⟩,_⟩:=x;exact ⟨_,e⟩
 | rng lo hi=>obtain ⟨_,_,_,e⟩:=x;exact ⟨_,e⟩
 | frz ob u=>obtain ⟨e,_⟩:=x;exact ⟨_,e⟩
 | tbl ps=>exact ⟨_,(show h.get? a=some _ from x)⟩
 | met f y=>exact ⟨_,(show h.get? a=some _ from x)⟩
 | ext φ=>obtain ⟨_,⟨_,e⟩,_⟩:=x;exact ⟨_,e⟩
section
variable {X:Cx} {pins:List (Addr × Obj)} {σ:St} {H:Hp} {s:Shared}
theorem Inv.away (I:Inv X pins σ H s) {q:Addr} (ne:∀b ob,s.heap.get? b=some ob→b≠q):H q=none:=by
 cases e:H q with
 | none=>rfl
 | some o =>
  obtain ⟨ob,z⟩:=(I.hok q o e).ob
  exact absurd rfl (ne q ob z)
theorem Inv.laidN {q:Addr} {o:HO} {g:Heap} {t':Nat} (I:Inv X pins σ H s) (k:∀b u,s.heap.get? b=some u→g.get? b=some u) (ne:∀b ob,s.heap.get? b=some ob→b≠q) (new:ObjOk X.prog X.w (upd H q o) g q o) :
  Inv X pins σ (upd H q o) {s with heap:=g,toks:=t'}:=by
 have hn:=I.away ne
 have off:∀{b:Addr} {u:HO},H b=some u→upd H q o b=some u:=fun {b u} e=>by rw[upd_ne (zo e hn)];exact e
 refine I.un ⟨fun b u e _ _ _=>k b u e,fun b u e _ _ _=>⟨u.slots,k b u e⟩,fun b u e n _=>by rw[upd_ne (ne b u e)];exact n,fun b u e _=>⟨u,k b u e⟩,fun b xs e=>off e,fun b ob u e=>off e,fun b ps e=>⟨#[],by rw[off e];simp⟩⟩ fun b u e=>?_
 by_cases hb:b=q
 ·subst hb
  rw[zw] at e
  cases e
  exact new
 ·rw[upd_ne hb] at e
  exact (I.hok b u e).stay (fun c v _ z=>k c v z) (fun c z=>off z) fun c xs z=>off z
end
theorem zwy (ns:List Int):(ns.map (Sum.inl:Int→Key)).map kV=ns.map V.int:=by rw[List.map_map];rfl
theorem zlz {P:Program} {w:World} {H:Hp} {kvs:List (List Key × V)}:∀{ks:List (List Int)} {xs:List (List Key × Addr × Value)},
  Paired (fun (p:List Key × V) (q:List Key × Addr × Value)=>p.1=q.1∧H q.2.1=some (.tup (p.1.map kV))∧RelV p.2 q.2.2) kvs xs→kvs.map (·.1)=ks.map (fun ns=>ns.map Sum.inl) →
   ∃ps:List (Addr × List Int),ps.map (·.2)=ks∧(∀p∈ps,H p.1=some (.tup (p.2.map V.int)))∧xs.map (fun q=>(entryOfKey (tupleKind (mixKind P w)) q).key)=ps.map fun p=>Value.ref p.1:=by
 induction kvs with
 | nil =>
  intro ks xs r e
  cases r
  cases ks with
  | nil=>exact ⟨[],rfl,fun p hp=>(nomatch hp),rfl⟩
  | cons x ks=>cases e
 | cons kv kvs ih =>
  intro ks xs r e
  cases r with
  | cons r rs =>
   cases ks with
   | nil=>cases e
   | cons ns ks =>
    rw[List.map_cons,List.map_cons] at e
    injection e with e1 e2
    obtain ⟨ps,a1,a2,a3⟩:=ih rs e2
    rename_i b _
    obtain ⟨r1,r2,r3⟩:=r
    refine ⟨(b.2.1,ns)::ps,by rw[List.map_cons,a1],fun p hp=>?_,by rw[List.map_cons,List.map_cons,a3];rfl⟩
    rcases List.mem_cons.mp hp with z | z
    ·subst z
     rw[e1,zwy] at r2
     exact r2
    ·exact a2 p z
open PySem.W in
theorem zbak {P:Program} {w:World} {B:Around} {sg:Shared} {ps:List (Addr × List Int)} (h2:2≤ps.length)
  (tup : ∀ (i : Nat) (p : Addr × List Int), ps[i]? = some p → ∃ (us : List Value) (o : Obj) (n : Nat), IntsAre us p.2 ∧ sg.heap.get? p.1 = some o ∧ o.cls = .type "tuple" ∧ o.data = .seq us.toArray n ∧ p.2 ≠ []) :
  Srt.Answers P w B (Srt.rank (ps.map (·.2))) (ps.map fun p=>Value.ref p.1) sg:=by
 refine ⟨tuples' true,fun R hq=>?_,fun i j C hi hj hC=>?_⟩
 ·have kt:∀(l:List (Addr × List Int)),(∀p∈l,∃i:Nat,ps[i]?=some p)→∃fs:List Value,KatTups sg.heap (l.map fun p=>Value.ref p.1) fs∧fs.length=l.length∧∀v∈fs,∃i t,v=Value.int i t:=fun l=>by
   induction l with
   | nil=>intro _;exact ⟨[],KatTups.nil,rfl,fun v hv=>(nomatch hv)⟩
   | cons p l ih =>
    intro hp
    obtain ⟨fs,b1,b2,b3⟩:=ih fun p' hp'=>hp p' (List.mem_cons_of_mem _ hp')
    obtain ⟨i,hi⟩:=hp p List.mem_cons_self
    obtain ⟨us,o,n,a1,a2,a3,a4,a5⟩:=tup i p hi
    obtain ⟨pa,pn⟩:=p
    dsimp only at a1 a2 a3 a4 a5
    cases a1 with
    | nil=>exact absurd rfl a5
    | cons x t r=>exact ⟨Value.int x t::fs,KatTups.cons a2 a3 a4 rfl b1,by rw[List.length_cons,List.length_cons,b2],fun v hv=>(List.mem_cons.mp hv).elim (fun z=>⟨x,t,z⟩) (b3 v)⟩
  obtain ⟨fs,b1,b2,b3⟩:=kt ps fun p hp=>List.mem_iff_getElem?.mp hp
  exact kat_kind (T := .type "int") b1 (by (first|assumption|lia)) (fun v hv => by
   obtain ⟨i,t,rfl⟩:=b3 v hv
   exact Looks.of_pure rfl) rfl hq
 ·rw[List.length_map] at hi hj
  have ei:ps[i]?=some ps[i]:=List.getElem?_eq_getElem hi
  have ej:ps[j]?=some ps[j]:=List.getElem?_eq_getElem hj
  obtain ⟨us,o,n,a1,a2,a3,a4,a5⟩:=tup i _ ei
  obtain ⟨us2,o2,n2,c1,c2,c3,c4,c5⟩:=tup j _ ej
  unfold kas_ask
  rw[zm (fun p:Addr × List Int=>Value.ref p.1) _ ei,zm (fun p:Addr × List Int=>Value.ref p.1) _ ej]
  refine kat_lt a2 a4 c2 c4 (Srt.zry 0 a1 c1 ?_)
  rw[Srt.zlf (by rw[List.length_map];exact hi) (by rw[List.length_map];exact hj),zm (fun p:Addr × List Int=>p.2) _ ei,zm (fun p:Addr × List Int=>p.2) _ ej] at hC
  exact hC
theorem zrb {ps:List (Addr × List Int)} {p:Array Nat} (p1:p.Perm (List.toArray (List.range ps.length))) (p2:Srt.Up (Srt.rank (ps.map (·.2))) p ps.length) :
  ∃qs:List (Addr × List Int),qs.Perm ps∧(qs.map (·.2)).Pairwise (fun x y=>HT.lexLt y x=false)∧Srt.outOf (ps.map fun p=>Value.ref p.1) p=(qs.map fun p=>Value.ref p.1).toArray:=by
 have hps:p.size=ps.length:=by rw[p1.size_eq];simp
 have sm:∀i∈p.toList,i < ps.length:=fun i hi=>by
  have h3:=(p1.mem_iff (a:=i)).mp (by rw[← Array.mem_toList_iff];exact hi)
  exact List.mem_range.mp (List.mem_toArray.mp h3)
 refine ⟨p.toList.map fun i=>ps.getD i (0,[]),?_,?_,?_⟩
 ·have e1:p.toList.Perm (List.range ps.length):=by
   have:=Array.perm_iff_toList_perm.mp p1
   simpa using this
  have e2:=e1.map fun i=>ps.getD i (0,[])
  have e3:((List.range ps.length).map fun i=>ps.getD i (0,[]))=ps:=by
   apply List.ext_getElem
   ·simp
   ·intro i h1 h2
    simp[List.getD_eq_getElem?_getD,h2]
  rw[e3] at e2
  exact e2
 ·rw[List.map_map,List.pairwise_iff_getElem]
  intro i j hi hj hij
  rw[List.getElem_map,List.getElem_map]
  rw[List.length_map] at hi hj
  have hi':i < p.size:=by simpa using hi
  have hj':j < p.size:=by simpa using hj
  have hu:=p2 i j (Nat.le_of_lt hij) (by (first|assumption|lia))
  have g:∀k,(hk:k < p.toList.length)→p.getD k 0=p.toList[k]:=fun k hk=>by
   have hk':k < p.size:=by simpa using hk
   rw[Array.getD_eq_getD_getElem?,Array.getElem?_eq_getElem hk']
   simp
  have si:=sm _ (List.getElem_mem hi)
  have sj:=sm _ (List.getElem_mem hj)
  have lk:=Srt.zlf (ks:=ps.map (·.2)) (i:=p.toList[j]) (j:=p.toList[i]) (by rw[List.length_map];exact sj) (by rw[List.length_map];exact si)
  have hno:Srt.lt (Srt.rank (ps.map (·.2))) p.toList[j] p.toList[i]=false:=by
   refine decide_eq_false fun z=>?_
   unfold Srt.At at hu
   rw[g i hi,g j hj] at hu
   (first|assumption|lia)
  rw[hno] at lk
  have v:∀k,k < ps.length→(ps.map (·.2)).getD k []=(ps.getD k (0,[])).2:=fun k hk=>by
   have ek:ps[k]?=some ps[k]:=List.getElem?_eq_getElem hk
   rw[zm (fun p:Addr × List Int=>p.2) _ ek,List.getD_eq_getElem?_getD,ek]
   rfl
  rw[v _ sj,v _ si] at lk
  exact lk.symm
 ·unfold Srt.outOf
  rw[List.map_map]
  congr 1
  refine List.map_congr_left fun i hi=>?_
  have hi2:=sm i hi
  have ei:ps[i]?=some ps[i]:=List.getElem?_eq_getElem hi2
  rw[zm (fun p:Addr × List Int=>Value.ref p.1) _ ei]
  show _=Value.ref (ps.getD i (0,[])).1
  rw[List.getD_eq_getElem?_getD,ei]
  rfl
section
variable {X:Cx}
end
end L2
set_option maxHeartbeats 4000000
namespace L2
open PySem PySem.Spec PyProof.Rows
section
variable {X:Cx} {pins:List (Addr × Obj)} {σ:St} {H:Hp} {s:Shared}
theorem Inv.freeze {a:Addr} {kvs:List (List Key × V)} {ob:Obj} (I:Inv X pins σ H s) (h:H a=some (.dT kvs)) (e:s.heap.get? a=some ob):Inv X pins σ (upd H a (.frz ob (.dT kvs))) s:=by
 have off:∀{b:Addr} {u:HO},H b=some u→(∀l,u≠.dT l)→upd H a (.frz ob (.dT kvs)) b=some u:=fun {b u} q n=>by
  rw[upd_ne (by rintro rfl;rw[h] at q;cases q;exact n _ rfl)]
  exact q
 have z:=I.un (h':=s.heap) (t':=s.toks) (H':=upd H a (.frz ob (.dT kvs))) ⟨fun b u q _ _ _=>q,fun b u q _ _ _=>⟨u.slots,q⟩,fun b u q n _=>by
   rw[upd_ne (by rintro rfl;rw[h] at n;cases n)];exact n,fun b u q _=>⟨u,q⟩,fun b xs q=>off q (fun l z=>by cases z),fun b o u q=>off q (fun l z=>by cases z),fun b ps q=>⟨#[],by rw[off q (fun l z=>by cases z)];simp⟩⟩ (fun b u q=>by
   by_cases hb:b=a
   ·subst hb
    rw[zw] at q
    cases q
    exact ⟨e,(I.hok b _ h).stay (fun c v _ r=>r) (fun c r=>off r (fun l z=>by cases z)) fun c xs r=>off r (fun l z=>by cases z)⟩
   ·rw[upd_ne hb] at q
    exact (I.hok b u q).stay (fun c v _ r=>r) (fun c r=>off r (fun l z=>by cases z)) fun c xs r=>off r (fun l z=>by cases z))
 exact z
end
noncomputable def Itd (a:Addr) (ob:Obj) (kvs:List (List Key × V)) (ps:List (Addr × List Int)):It :=
 ⟨fun i H=>i < ps.length∧H a=some (.frz ob (.dT kvs)),fun i H x H'=>H'=H∧∃p,ps[i]?=some p∧x=.ref p.1,fun i H=>ps.length≤i∧H a=some (.frz ob (.dT kvs))⟩
theorem zts {P:Program} {w:World} {K:PySem.W.Frag} {tg:Expr} {a it:Addr} {ob:Obj} {kvs:List (List Key × V)} {ps:List (Addr × List Int)} {es:Array DictEntry} {ep:Nat} (ex:ob.ExactDict) (dt:ob.data=.dict es ep)
  (hk:es.toList.map (·.key)=ps.map fun p=>Value.ref p.1):Turn P w K tg (Itd a ob kvs ps) [it] it (fun i h=>h.IsKeyIter it a i es.size ep) where
 mem:=List.mem_singleton.mpr rfl
 obj:=fun i h st b hb=>by
  have e:b=it:=List.mem_singleton.mp hb
  subst e
  obtain ⟨o,e,c,d⟩:=st
  exact ⟨o,e,fun v z=>by rw[d] at z;cases z⟩
 keep:=fun i h h' st k=>st.at fun o e=>k it (List.mem_singleton.mpr rfl) o e
 item:=by
  intro Y hP hw hK hc i pins s σ H E I hf st hg
  subst hP hw hK
  obtain ⟨hi,hz⟩:=hg
  have hsz:es.size=ps.length:=by
   have:=congrArg List.length hk
   rwa [List.length_map,List.length_map,Array.length_toList] at this
  obtain ⟨eo,_⟩:=(show ObjOk Y.prog Y.w H s.heap a (.frz ob (.dT kvs)) from I.hok a _ hz)
  obtain ⟨f0,f1,f2,f3,f4,f5⟩:=hf it (List.mem_singleton.mpr rfl)
  have hen:es[i]?=some es[i]:=Array.getElem?_eq_getElem (by (first|assumption|lia))
  have hpi:ps[i]?=some ps[i]:=List.getElem?_eq_getElem hi
  have hkey:es[i].key=Value.ref ps[i].1:=by
   have q:=congrArg (fun l=>l[i]?) hk
   simp only[List.getElem?_map,Array.getElem?_toList,hen,hpi] at q
   exact Option.some.inj q
  refine Dct.zqs st ⟨ob,eo,ex,dt⟩ hen fun g st' sb=>?_
  have I1:Inv Y pins σ H {s with heap:=g}:=I.turned (t':=s.toks) (fun b o hb e=>sb.extBut b o hb e) f0 f1 f3 f4 f5
  obtain ⟨o,e,c,d⟩:=id st'
  exact ⟨_,rfl,go_of (s:={s with heap:=g}) e c d (by decide) ⟨.ref ps[i].1,H,I1,hkey,⟨rfl,ps[i],hpi,rfl⟩,st',fun b hb=>(hf b hb).1⟩⟩
 done:=by
  intro Y hP hw hK hc i pins s σ H E I hf st hg
  subst hP hw hK
  obtain ⟨hi,hz⟩:=hg
  have hsz:es.size=ps.length:=by
   have:=congrArg List.length hk
   rwa [List.length_map,List.length_map,Array.length_toList] at this
  obtain ⟨eo,_⟩:=(show ObjOk Y.prog Y.w H s.heap a (.frz ob (.dT kvs)) from I.hok a _ hz)
  obtain ⟨f0,f1,f2,f3,f4,f5⟩:=hf it (List.mem_singleton.mpr rfl)
  exact Dct.zwm (I.ok.hd hc) st ⟨ob,eo,ex,dt⟩ (by (first|assumption|lia)) fun g eb=>⟨rfl,I.turned (t':=s.toks) (fun b o hb e=>eb b o hb e) f0 f1 f3 f4 f5⟩
 self:=fun _ _ _ _ _ st h=>wpAny_pyIter_keyiter st h
noncomputable def iDct (td:TE):TI:=fun σ H R=>td σ H fun x H1=>∃(a:Addr) (kvs:List (List Key × V)) (ks:List (List Int)),x=.ref a∧H1 a=some (.dT kvs)∧kvs.map (·.1)=ks.map (fun ns=>ns.map Sum.inl) ∧
 ∀(ob:Obj) (ps:List (Addr × List Int)),ps.map (·.2)=ks→(∀p∈ps,H1 p.1=some (.tup (p.2.map V.int)))→R (Itd a ob kvs ps) (upd H1 a (.frz ob (.dT kvs)))
theorem zbbo {X:Cx} {tg l:Expr} {td:TE} (hl:PE X l td):PI X tg l (iDct td):=by
 intro pins s σ H R I h
 refine thn (hl pins s σ H _ I h) fun v s1 hq0=>?_
 obtain ⟨x,H1,I1,r1,q1⟩:=hq0
 obtain ⟨a,kvs,ks,rfl,hd,ek,q⟩:=q1
 cases r1
 obtain ⟨z,ns,ys,rel,ob,es,ep,e1,e2,e3,e4,e5⟩:=(show ObjOk X.prog X.w H1 s1.heap a (.dT kvs) from I1.hok a _ hd)
 obtain ⟨ps,a1,a2,a3⟩:=zlz (P:=X.prog) (w:=X.w) rel ek
 have hes:es.toList.map (·.key)=ps.map fun p=>Value.ref p.1:=by rw[e4,List.map_map];exact a3
 refine Dct.zqt ns ⟨ob,e1,e2,e3⟩ ?_
 have I2:=I1.freeze hd e1
 refine ⟨s1.heap.objs.size,[s1.heap.objs.size],_,_,_,rfl,I2.kept (t':=s1.toks) fun b o e=>Heap.get?_push_of_some _ e,zts e2 e3 hes,⟨_,Heap.get?_push_size _ rfl,rfl,rfl⟩,fun b hb=>?_,q ob ps a1 a2⟩
 have e:b=s1.heap.objs.size:=List.mem_singleton.mp hb
 subst e
 exact I2.fpOk (Nat.le_refl _) (I2.hok.fresh (Nat.le_refl _))
section
variable {g:TG} {tc:TT} {te:TE} {Q:VK} {σ:St} {H:Hp} {p:Addr}
end
end L2
set_option maxHeartbeats 4000000
namespace L2
open PySem PySem.Spec PyProof.Rows PySem.W
noncomputable def TupsG (g : Heap) (ps : List (Addr × List Int)) : Prop := ∀ p ∈ ps, ∃ (us : List Value) (o : Obj) (n : Nat), IntsAre us p.2 ∧ g.get? p.1 = some o ∧ o.cls = .type "tuple" ∧ o.data = .seq us.toArray n
section
variable {P:Program} {w:World} {B:Around} {E:Value→Shared→Prop} {sg:Shared}
theorem zoq:∀{ps:List (Addr × List Int)},TupsG sg.heap ps→∃fs:List (Option Value),fs.map Option.isSome=ps.map (fun p=>!p.2.isEmpty)∧∀(W:List (Option Value)→Shared→Prop),W fs sg→wpAny (model P w) B ((ps.map fun p=>Value.ref p.1).mapM firstOfTuple') W E sg
 | [],_=>⟨[],rfl,fun W h=>by rw[List.map_nil,List.mapM_nil];exact wpAny_pure h⟩
 | p::ps,h=>by
  obtain ⟨fs,f1,f2⟩:=zoq (ps:=ps) fun q hq=>h q (List.mem_cons_of_mem _ hq)
  obtain ⟨us,o,n,a1,a2,a3,a4⟩:=h p List.mem_cons_self
  refine ⟨us.toArray[0]?::fs,?_,fun W hW=>?_⟩
  ·rw[List.map_cons,List.map_cons,f1]
   congr 1
   obtain ⟨pa,pn⟩:=p
   dsimp only at a1 ⊢
   cases a1 with
   | nil=>rfl
   | cons x t r=>rfl
  ·rw[List.map_cons,List.mapM_cons]
   have ty:Looks (model P w) sg.heap (typeOf (.ref p.1)) o.cls:=(Looks.ld a2).andThen .now
   refine wpAny_bind ?_
   rw[kas_first_eq]
   refine wpAny_bind (Looks.here ty ?_)
   rw[a3,if_neg (by first | decide | simp)]
   exact wpAny_bind (listItems_at a2 a4 (wpAny_pure (wpAny_bind (f2 _ (wpAny_pure hW)))))
theorem zrp (x y:Value):keyLt' general' x y=oneLt' false x y:=rfl
theorem zbai {κ:SortKind} (hκ:κ=general'∨κ=oneType') (hu:B.units < cLine) {a b:Addr × List Int} (ha:TupsG sg.heap [a]) (hb:TupsG sg.heap [b]) {C:Bool→Shared→Prop} (hC:C (HT.lexLt a.2 b.2) sg) :
  wpAny (model P w) B (keyLt' κ (.ref a.1) (.ref b.1)) C E sg:=by
 obtain ⟨us,o,n,a1,a2,a3,a4⟩:=ha a List.mem_cons_self
 obtain ⟨us2,o2,n2,b1,b2,b3,b4⟩:=hb b List.mem_cons_self
 rcases hκ with rfl | rfl
 ·rw[zrp]
  exact kat_one _ _ (HT.zlq (items:=us.toArray) (items2:=us2.toArray) ⟨o,a2,a3,n,a4⟩ ⟨o2,b2,b3,n2,b4⟩ a1 b1 hu hC)
 ·rw[keyLt'_oneType,oneLt'_eq]
  simp only[ite_true]
  refine wpAny_bind (wpAny_cRoomFor hu (wpAny_bind (wpAny_callSpecialIfBound?_slot (T := "tuple") ⟨o, a2, a3⟩ PySem.F.slot_tuple_lt ?_)))
  obtain ⟨cls,dd,data,sl⟩:=o
  obtain ⟨cls2,dd2,data2,sl2⟩:=o2
  dsimp only at a3 a4 b3 b4
  subst a3 a4 b3 b4
  exact call_meets PySem.F.slot_tuple_lt ⟨_,a2,rfl⟩ PySem.F.entry_tuple_lt (PySem.F.args_tuple_lt_2 _ _) (HT.zgh a.1 b.1 us.toArray us2.toArray n n2 dd dd2 sl sl2 a.2 b.2 a1 b1) ⟨a2,b2,wpAny_truthy_bool hC⟩
theorem zbal {ps:List (Addr × List Int)} (hu:B.units < cLine) (tup:TupsG sg.heap ps) (emp:∃p∈ps,p.2=[]):Srt.Answers P w B (Srt.rank (ps.map (·.2))) (ps.map fun p=>Value.ref p.1) sg:=by
 obtain ⟨fs,f1,f2⟩:=zoq (P:=P) (w:=w) (B:=B) (E:=fun _ _=>False) tup
 have notAll:¬ (fs.toArray.all fun x=>x.isSome)=true:=fun z=>by
  have z':fs.all (fun x=>x.isSome)=true:=by simpa using z
  obtain ⟨p,hp,he⟩:=emp
  have m:(!p.2.isEmpty)∈fs.map Option.isSome:=by rw[f1];exact List.mem_map_of_mem (f:=fun p:Addr × List Int=>!p.2.isEmpty) hp
  obtain ⟨o,ho,e⟩:=List.mem_map.mp m
  have:=List.all_eq_true.mp z' o ho
  rw[e,he] at this
  cases this
 have cmp:∀{κ:SortKind},κ=general'∨κ=oneType'→∀i j C,i < (ps.map fun p=>Value.ref p.1).length→j < (ps.map fun p=>Value.ref p.1).length→C (Srt.lt (Srt.rank (ps.map (·.2))) i j) sg→kas_ask P w B κ (ps.map fun p=>Value.ref p.1) i j C sg:=fun {κ} hκ i j C hi hj hC=>by
  rw[List.length_map] at hi hj
  have ei:ps[i]?=some ps[i]:=List.getElem?_eq_getElem hi
  have ej:ps[j]?=some ps[j]:=List.getElem?_eq_getElem hj
  unfold kas_ask
  rw[zm (fun p:Addr × List Int=>Value.ref p.1) _ ei,zm (fun p:Addr × List Int=>Value.ref p.1) _ ej]
  rw[Srt.zlf (by rw[List.length_map];exact hi) (by rw[List.length_map];exact hj),zm (fun p:Addr × List Int=>p.2) _ ei,zm (fun p:Addr × List Int=>p.2) _ ej] at hC
  have one:∀k,(hk:k < ps.length)→TupsG sg.heap [ps[k]]:=fun k hk q hq=>by
   rw[List.mem_singleton.mp hq]
   exact tup _ (List.getElem_mem hk)
  exact zbai hκ hu (one i hi) (one j hj) hC
 by_cases fst:(fs.toArray[0]?.bind id).isSome=true
 ·refine ⟨general',fun R hR=>?_,cmp (.inl rfl)⟩
  rw[kat_kind_eq,List.mapM_toArray,map_eq_pure_bind]
  refine wpAny_bind (wpAny_bind (f2 _ (wpAny_pure ?_)))
  rw[if_neg notAll,if_pos fst]
  exact wpAny_pure hR
 ·refine ⟨oneType',fun R hR=>?_,cmp (.inr rfl)⟩
  rw[kat_kind_eq,List.mapM_toArray,map_eq_pure_bind]
  refine wpAny_bind (wpAny_bind (f2 _ (wpAny_pure ?_)))
  rw[if_neg notAll,if_neg fst,oneTypeOnly'_eq,List.mapM_toArray,map_eq_pure_bind]
  have ty : ∀ v ∈ (ps.map fun p => Value.ref p.1), ∀ W : Value → Shared → Prop, W (.type "tuple") sg → wpAny (model P w) B (typeOf v) W (fun _ _ => False) sg := fun v hv W hW => by
   obtain ⟨p,hp,rfl⟩:=List.mem_map.mp hv
   obtain ⟨us,o,n,a1,a2,a3,a4⟩:=tup p hp
   have lk:Looks (model P w) sg.heap (typeOf (.ref p.1)) o.cls:=(Looks.ld a2).andThen .now
   rw[a3] at lk
   exact lk.here hW
  refine wpAny_bind (wpAny_bind (wpAny_bind (kas_mapM (r := Value.type "tuple") _ ty (wpAny_pure ?_))))
  obtain ⟨p,hp,_⟩:=emp
  obtain ⟨p0,rest,rfl⟩:∃p0 rest,ps=p0::rest:=by
   cases ps with
   | nil=>exact nomatch hp
   | cons p0 rest=>exact ⟨p0,rest,rfl⟩
  have all : ((List.map (fun _ => Value.type "tuple") ((p0 :: rest).map fun p => Value.ref p.1)).toArray.all fun x => x == Value.type "tuple") = true := by
   rw[List.all_toArray,List.all_eq_true]
   intro x hx
   obtain ⟨_,_,rfl⟩:=List.mem_map.mp hx
   rfl
  have zero : (List.map (fun _ => Value.type "tuple") ((p0 :: rest).map fun p => Value.ref p.1)).toArray[0]? = some (Value.type "tuple") := by simp
  rw[zero]
  simp only[all,ite_true]
  exact wpAny_pure (wpAny_pure hR)
theorem zxq {ps:List (Addr × List Int)} (hu:B.units < cLine) (h2:2≤ps.length) (tup:TupsG sg.heap ps):Srt.Answers P w B (Srt.rank (ps.map (·.2))) (ps.map fun p=>Value.ref p.1) sg:=by
 by_cases c:∃p∈ps,p.2=[]
 ·exact zbal hu tup c
 ·refine zbak h2 fun i p hi=>?_
  have hp:=List.mem_of_getElem? hi
  obtain ⟨us,o,n,a1,a2,a3,a4⟩:=tup p hp
  exact ⟨us,o,n,a1,a2,a3,a4,fun z=>c ⟨p,hp,z⟩⟩
end
theorem zgy (z:List (Addr × List Int)):Vals (z.map fun p=>V.ref p.1) (z.map fun p=>Value.ref p.1):=by
 induction z with
 | nil=>exact .nil
 | cons x z ih=>exact .cons rfl ih
section
variable {X:Cx}
end
end L2
set_option maxHeartbeats 4000000
namespace TS
open PySem PyProof.Rows
noncomputable def kA (R:Keyed→Nat) (xs:Array Keyed) (i:Nat):Nat:=match xs[i]? with
 | some p=>R p
 | none=>0
theorem zdh {R:Keyed→Nat} {xs ys:Array Keyed} {i j:Nat} (h:xs[i]?=ys[j]?):kA R xs i=kA R ys j:=by unfold kA;rw[h]
theorem kA_get {R:Keyed→Nat} {xs:Array Keyed} {i:Nat} {x:Keyed} (h:xs[i]?=some x):kA R xs i=R x:=by unfold kA;rw[h]
noncomputable def UpA (R:Keyed→Nat) (xs:Array Keyed) (a b:Nat):Prop:=∀i j,a≤i→i≤j→j < b→kA R xs i≤kA R xs j
noncomputable def DnA (R:Keyed→Nat) (xs:Array Keyed) (a b:Nat):Prop:=∀i j,a≤i→i≤j→j < b→kA R xs j≤kA R xs i
section
variable {prog:Program} {w:World} {A:Around} {E:Value→Shared→Prop} {s:Shared} {κ:SortKind} {a₀:Array Keyed} {R:Keyed→Nat}
noncomputable def Orc (prog:Program) (w:World) (A:Around) (s:Shared) (κ:SortKind) (a₀:Array Keyed) (R:Keyed→Nat):Prop :=
 ∀x,x∈a₀.toList→∀y,y∈a₀.toList→∀(C:Bool→Shared→Prop),C (decide (R x < R y)) s→wpAny (model prog w) A (keyLt' κ x.1 y.1) C (fun _ _=>False) s
structure B (κ:SortKind) (a₀:Array Keyed) (st:SortSt):Prop where
 perm:(arrOf st).Perm a₀
 kind:kindOf st=κ
 failed:failedOf st=none
theorem B.size {st:SortSt} (h:B κ a₀ st):(arrOf st).size=a₀.size:=h.perm.size_eq
theorem B.set {st:SortSt} (h:B κ a₀ st) {xs:Array Keyed} (hp:xs.Perm (arrOf st)):B κ a₀ (setArr st xs):=⟨hp.trans h.perm,h.kind,h.failed⟩
theorem B.mem {st:SortSt} (h:B κ a₀ st) {i:Nat} (hi:i < a₀.size):∃x,(arrOf st)[i]?=some x∧x∈a₀.toList:=by
 have hi':i < (arrOf st).size:=by rw[h.size];exact hi
 exact ⟨_,getElem?_pos _ i hi',(Array.perm_iff_toList_perm.mp h.perm).mem_iff.mp (by simp)⟩
theorem w_lt {x y:Keyed} {st:SortSt} {Q:Option Bool→SortSt→Prop} (O:Orc prog w A s κ a₀ R) (hk:kindOf st=κ) (hx:x∈a₀.toList) (hy:y∈a₀.toList) (h:Q (some (decide (R x < R y))) st):wpS (model prog w) A E s (lt' x y) Q st:=by
 rw[lt'_eq]
 refine wpS_bind (wpS_get ?_)
 rw[hk]
 refine wpS_bind (wpS_lift (wpAny_attempt (wpAny_mono (O x hx y hy (fun b s'=>s'=s∧b=decide (R x < R y)) ⟨rfl,rfl⟩) (fun b s' hb=>?_) fun _ _ f=>f.elim)))
 obtain ⟨rfl,rfl⟩:=hb
 exact ⟨rfl,wpS_pure h⟩
theorem w_elem {arr:Array Keyed} {i:Nat} {x:Keyed} {st:SortSt} {Q:Keyed→SortSt→Prop} (e:arr[i]?=some x) (h:Q x st):wpS (model prog w) A E s (elem' arr i) Q st:=by
 rw[elem'_eq,e]
 exact wpS_pure h
theorem w_ltAt {i j:Nat} {st:SortSt} {Q:Option Bool→SortSt→Prop} (O:Orc prog w A s κ a₀ R) (b:B κ a₀ st) (hi:i < a₀.size) (hj:j < a₀.size) (h:Q (some (decide (kA R (arrOf st) i < kA R (arrOf st) j))) st):wpS (model prog w) A E s (ltAt' i j) Q st:=by
 obtain ⟨x,e1,m1⟩:=b.mem hi
 obtain ⟨y,e2,m2⟩:=b.mem hj
 rw[kA_get e1,kA_get e2] at h
 rw[ltAt'_eq]
 exact wpS_bind (wpS_get (wpS_bind (w_elem e1 (wpS_bind (w_elem e2 (w_lt O b.kind m1 m2 h))))))
theorem w_rev {i j:Nat} {st:SortSt} {Q:Unit→SortSt→Prop} (h:Q () (setArr st (mirror (arrOf st) i j ((j - i) / 2)))):wpS (model prog w) A E s (reverseSlice' i j) Q st:=by
 rw[reverseSlice'_eq]
 exact wpS_modify h
theorem w_move {i j:Nat} {st:SortSt} {Q:Unit→SortSt→Prop} (h:Q () (setArr st (bubble (arrOf st) i (i - j)))):wpS (model prog w) A E s (moveDown' i j) Q st:=by
 rw[moveDown'_eq]
 exact wpS_modify h
theorem at_lt {lo x n N:Nat} (h:x < n) (hn:lo+n≤N):lo+x < N:=Nat.lt_of_lt_of_le (Nat.add_lt_add_left h lo) hn
theorem at_pr {lo x n N:Nat} (h:x < n) (hn:lo+n≤N):lo+x - 1 < N:=Nat.lt_of_le_of_lt (Nat.sub_le _ _) (at_lt h hn)
theorem zsg {lo n:Nat} (h:1≤n):lo+n - 1 < lo+n:=Nat.sub_lt (Nat.lt_of_lt_of_le h (Nat.le_add_left _ _)) Nat.one_pos
theorem in_pr {j lo n:Nat} (h:j < lo+(n+1)) (e:¬j=lo+n):j < lo+n:=Nat.lt_of_le_of_ne (Nat.le_of_lt_succ h) e
theorem mir_lo {i j k:Nat} (c2:k < j):i≤i+j - 1 - k:=Nat.le_sub_of_add_le (Nat.le_sub_one_of_lt (Nat.add_lt_add_left c2 i))
theorem mir_hi {i j k:Nat} (c1:i≤k) (c2:k < j):i+j - 1 - k < j:=Nat.lt_of_le_of_lt (Nat.sub_le_sub_left c1 _) (by rw[Nat.sub_right_comm,Nat.add_sub_cancel_left];exact Nat.sub_lt (Nat.zero_lt_of_lt c2) Nat.one_pos)
theorem zka {xs:Array Keyed} {i j:Nat} (hj:j≤xs.size) (k:Nat):kA R (mirror xs i j ((j - i) / 2)) k=if i≤k∧k < j then kA R xs (i+j - 1 - k) else kA R xs k:=by
 have e:=getElem?_mirror_all (i:=i) hj k
 split
 ·rename_i c;rw[if_pos c] at e;exact zdh e
 ·rename_i c;rw[if_neg c] at e;exact zdh e
noncomputable def Out (xs ys:Array Keyed) (a b:Nat):Prop:=∀k,k < a∨b≤k→xs[k]?=ys[k]?
theorem Out.refl (xs:Array Keyed) (a b:Nat):Out xs xs a b:=fun _ _=>rfl
theorem Out.trans {xs ys zs:Array Keyed} {a b:Nat} (h1:Out xs ys a b) (h2:Out ys zs a b):Out xs zs a b:=fun k hk=>(h1 k hk).trans (h2 k hk)
theorem Out.mirror {xs:Array Keyed} {i j a b:Nat} (hj:j≤xs.size) (hi:a≤i) (hb:j≤b):Out (mirror xs i j ((j - i) / 2)) xs a b:=fun k hk=>by
 rw[getElem?_mirror_all (i:=i) hj k,if_neg fun z=>hk.elim (fun h=>Nat.not_lt_of_le (Nat.le_trans hi z.1) h) fun h=>Nat.not_lt_of_le (Nat.le_trans hb h) z.2]
theorem Out.bubble {xs:Array Keyed} {src d a b:Nat} (hs:src < xs.size) (hd:d≤src) (ha:a≤src - d) (hb:src < b):Out (bubble xs src d) xs a b:=fun k hk=>by
 rw[getElem?_bubble hs d hd k,if_neg fun z=>hk.elim (fun h=>Nat.not_lt_of_le (Nat.le_trans ha (Nat.le_of_eq z.symm)) h) fun h=>Nat.not_lt_of_le h (Nat.lt_of_le_of_lt (Nat.le_trans (Nat.le_of_eq z) (Nat.sub_le _ _)) hb),if_neg fun z=>hk.elim (fun h=>Nat.not_lt_of_le (Nat.le_trans ha (Nat.le_of_lt z.1)) h) fun h=>Nat.not_lt_of_le h (Nat.lt_of_le_of_lt z.2 hb)]
structure Sm (st st':SortSt) (a b:Nat):Prop where
 out:Out (arrOf st') (arrOf st) a b
 pend:pendingOf st'=pendingOf st
theorem w_asc {lo a nrem:Nat} {st:SortSt} {Q:Option (Option Nat) × Nat→SortSt→Prop} (O:Orc prog w A s κ a₀ R) (b:B κ a₀ st) (hn:lo+nrem≤a₀.size) (ha:1≤a) (han:a≤nrem) (hs:UpA R (arrOf st) lo (lo+a))
  (h:∀n,a≤n→n≤nrem→UpA R (arrOf st) lo (lo+n)→(n=nrem∨kA R (arrOf st) (lo+n) < kA R (arrOf st) (lo+n - 1))→Q (none,n) st) :
  wpS (model prog w) A E s (forIn [a:nrem] ((none,a):Option (Option Nat) × Nat) fun _ r=>do
   let x ← ltAt' (lo+r.2) (lo+r.2 - 1)
   match x with
   | some smaller=>if smaller=true then pure (ForInStep.done (none,r.2)) else pure (ForInStep.yield (none,r.2+1))
   | _=>pure (ForInStep.done (some none,r.2))) Q st:=by
 refine wpS_forRange (I:=fun x c st'=>st'=st∧c=(none,x)∧UpA R (arrOf st) lo (lo+x)) ?_ ?_ ⟨rfl,rfl,hs⟩
 ·rintro x c st' h1 h2 ⟨rfl,rfl,h3⟩
  dsimp only
  refine wpS_bind (w_ltAt O b (at_lt h2 hn) (at_pr h2 hn) ?_)
  by_cases c:kA R (arrOf st') (lo+x) < kA R (arrOf st') (lo+x - 1)
  ·simp only[c,decide_true,if_true]
   exact wpS_pure (h x h1 (Nat.le_of_lt h2) h3 (.inr c))
  ·simp only[c,decide_false,Bool.false_eq_true,if_false]
   refine wpS_pure ⟨rfl,rfl,fun i j hi hij hj=>?_⟩
   by_cases e:j=lo+x
   ·subst e
    by_cases e2:i=lo+x
    ·rw[e2];exact Nat.le_refl _
    ·exact Nat.le_trans (h3 i (lo+x - 1) hi (Nat.le_sub_one_of_lt (Nat.lt_of_le_of_ne hij e2)) (zsg (Nat.le_trans ha h1))) (Nat.le_of_not_lt c)
   ·exact h3 i j hi hij (in_pr hj e)
 ·rintro c st' ⟨rfl,rfl,h3⟩
  rw[Nat.max_eq_right han] at h3 ⊢
  exact h nrem han (Nat.le_refl _) h3 (.inl rfl)
theorem zhr {xs:Array Keyed} {i j:Nat} (hj:j≤xs.size) (he:∀k,i≤k→k < j→kA R xs k=kA R xs (j - 1)) (k:Nat):kA R (mirror xs i j ((j - i) / 2)) k=kA R xs k:=by
 rw[zka hj]
 split
 ·rename_i c
  rw[he _ (mir_lo c.2) (mir_hi c.1 c.2),he k c.1 c.2]
 ·rfl
structure Fl (κ:SortKind) (a₀:Array Keyed) (R:Keyed→Nat) (st₀ st:SortSt) (lo n neq b:Nat):Prop where
 base:B κ a₀ st
 same:Sm st₀ st lo b
 dn:DnA R (arrOf st) lo (lo+n)
 hq:neq+1≤n
 eqs:∀i,lo+n - (neq+1)≤i→i < lo+n→kA R (arrOf st) i=kA R (arrOf st) (lo+n - 1)
theorem Fl.turn {st₀ st:SortSt} {lo n neq b:Nat} (h:Fl κ a₀ R st₀ st lo n neq b) (hb:lo+n≤b) (hs:b≤a₀.size) :
  Fl κ a₀ R st₀ (setArr st (mirror (arrOf st) (lo+n - (neq+1)) (lo+n) ((lo+n - (lo+n - (neq+1))) / 2))) lo n neq b∧∀k,kA R (mirror (arrOf st) (lo+n - (neq+1)) (lo+n) ((lo+n - (lo+n - (neq+1))) / 2)) k=kA R (arrOf st) k:=by
 have hz:=h.base.size
 have hq:=h.hq
 have hle:lo+n≤(arrOf st).size:=by rw[hz];exact Nat.le_trans hb hs
 have e:=zhr (R:=R) (xs:=arrOf st) (i:=lo+n - (neq+1)) (j:=lo+n) hle h.eqs
 refine ⟨⟨h.base.set (mirror_perm _ _ _ _),⟨(Out.mirror hle (Nat.le_sub_of_add_le (Nat.add_le_add_left hq lo)) hb).trans h.same.out,h.same.pend⟩,fun i j a1 a2 a3=>?_,h.hq,fun i a1 a2=>?_⟩,e⟩
 ·show kA R (mirror _ _ _ _) j≤kA R (mirror _ _ _ _) i
  rw[e,e];exact h.dn i j a1 a2 a3
 ·show kA R (mirror _ _ _ _) i=kA R (mirror _ _ _ _) _
  rw[e,e];exact h.eqs i a1 a2
theorem Fl.less {st₀ st:SortSt} {lo n neq b:Nat} (h:Fl κ a₀ R st₀ st lo n neq b) (c:kA R (arrOf st) (lo+n)≤kA R (arrOf st) (lo+n - 1)):DnA R (arrOf st) lo (lo+(n+1)):=fun i j a1 a2 a3=>by
 have hq:=h.hq
 by_cases e:j=lo+n
 ·subst e
  by_cases e2:i=lo+n
  ·rw[e2];exact Nat.le_refl _
  ·exact Nat.le_trans c (h.dn i (lo+n - 1) a1 (Nat.le_sub_one_of_lt (Nat.lt_of_le_of_ne a2 e2)) (zsg (Nat.le_trans (Nat.le_add_left 1 neq) hq)))
 ·exact h.dn i j a1 a2 (in_pr a3 e)
theorem Fl.fresh {st₀ st:SortSt} {lo n neq b:Nat} (h:Fl κ a₀ R st₀ st lo n neq b) (c:kA R (arrOf st) (lo+n)≤kA R (arrOf st) (lo+n - 1)):Fl κ a₀ R st₀ st lo (n+1) 0 b:=⟨h.base,h.same,h.less c,Nat.succ_le_succ (Nat.zero_le _),fun i g1 g2=>by
 have:i=lo+(n+1) - 1:=Nat.le_antisymm (Nat.le_of_lt_succ g2) g1
 rw[this]⟩
theorem Fl.more {st₀ st:SortSt} {lo n neq b:Nat} (h:Fl κ a₀ R st₀ st lo n neq b) (c:kA R (arrOf st) (lo+n)=kA R (arrOf st) (lo+n - 1)):Fl κ a₀ R st₀ st lo (n+1) (neq+1) b:=by
 have hq:=h.hq
 refine ⟨h.base,h.same,h.less (Nat.le_of_eq c),Nat.succ_le_succ hq,fun i g1 g2=>?_⟩
 rw[show lo+(n+1) - 1=lo+n from rfl]
 by_cases e:i=lo+n
 ·rw[e]
 ·rw[c];exact h.eqs i (Nat.le_trans (Nat.le_of_eq (Nat.succ_sub_succ (lo+n) (neq+1)).symm) g1) (in_pr g2 e)
theorem zbau {lo nrem:Nat} {st:SortSt} {Q:Option Nat→SortSt→Prop} (O:Orc prog w A s κ a₀ R) (b:B κ a₀ st) (hn:lo+nrem≤a₀.size) (h1:1≤nrem)
  (h:∀m st',1≤m→m≤nrem→B κ a₀ st'→Sm st st' lo (lo+nrem)→UpA R (arrOf st') lo (lo+m)→Q (some m) st'):wpS (model prog w) A E s (countRun' lo nrem) Q st:=by
 have sm0:Sm st st lo (lo+nrem):=⟨Out.refl _ _ _,rfl⟩
 have one:∀xs:Array Keyed,UpA R xs lo (lo+1):=fun xs i j a1 a2 a3=>by
  have:i=j:=Nat.le_antisymm a2 (Nat.le_trans (Nat.le_of_lt_succ a3) a1)
  subst this;exact Nat.le_refl _
 have oneD:∀xs:Array Keyed,DnA R xs lo (lo+1):=fun xs i j a1 a2 a3=>by
  have:i=j:=Nat.le_antisymm a2 (Nat.le_trans (Nat.le_of_lt_succ a3) a1)
  subst this;exact Nat.le_refl _
 rw[countRun'_eq]
 dsimp only
 refine wpS_bind (w_asc O b hn (Nat.le_refl _) h1 (one _) fun n n1 n2 hu hlast=>?_)
 dsimp only
 split
 ·exact wpS_pure (h n st n1 n2 b sm0 hu)
 rename_i hne
 have hne':n≠nrem:=fun z=>hne (by simp[z])
 have hlt:n < nrem:=Nat.lt_of_le_of_ne n2 hne'
 have hl:kA R (arrOf st) (lo+n) < kA R (arrOf st) (lo+n - 1):=by
  rcases hlast with z | z
  ·exact absurd z hne'
  ·exact z
 have hz:=b.size
 have fin:∀(n:Nat) (st1:SortSt),B κ a₀ st1→Sm st st1 lo (lo+nrem)→1≤n→n≤nrem→DnA R (arrOf st1) lo (lo+n) →
   B κ a₀ (setArr st1 (mirror (arrOf st1) lo (lo+n) ((lo+n - lo) / 2)))∧Sm st (setArr st1 (mirror (arrOf st1) lo (lo+n) ((lo+n - lo) / 2))) lo (lo+nrem)∧UpA R (mirror (arrOf st1) lo (lo+n) ((lo+n - lo) / 2)) lo (lo+n):=fun n st1 b1 sm1 m1 m2 dn1=>by
  have hz:=b1.size
  have hm:=Nat.add_le_add_left m2 lo
  have hle:lo+n≤(arrOf st1).size:=by rw[hz];exact Nat.le_trans hm hn
  refine ⟨b1.set (mirror_perm _ _ _ _),⟨(Out.mirror hle (Nat.le_refl _) hm).trans sm1.out,sm1.pend⟩,fun i j a1 a2 a3=>?_⟩
  have hi:=Nat.lt_of_le_of_lt a2 a3
  rw[zka hle,zka hle,if_pos ⟨a1,hi⟩,if_pos ⟨Nat.le_trans a1 a2,a3⟩]
  exact dn1 _ _ (mir_lo a3) (Nat.sub_le_sub_left a2 _) (mir_hi a1 hi)
 have eqs:¬ kA R (arrOf st) lo < kA R (arrOf st) (lo+n - 1)→∀k,lo≤k→k < lo+n→kA R (arrOf st) k=kA R (arrOf st) (lo+n - 1):=fun c k k1 k2=>by
  have g1:=hu lo k (Nat.le_refl _) k1 k2
  have g2:=hu k (lo+n - 1) k1 (Nat.le_sub_one_of_lt k2) (zsg n1)
  exact Nat.le_antisymm g2 (Nat.le_trans (Nat.le_of_not_lt c) g1)
 have dnx:∀xs:Array Keyed,(∀k,kA R xs k=kA R (arrOf st) k)→¬ kA R (arrOf st) lo < kA R (arrOf st) (lo+n - 1)→DnA R xs lo (lo+(n+1)):=fun xs e c i j a1 a2 a3=>by
  rw[e,e]
  by_cases e2:j=lo+n
  ·subst e2
   by_cases e3:i=lo+n
   ·rw[e3];exact Nat.le_refl _
   ·rw[eqs c i a1 (Nat.lt_of_le_of_ne a2 e3)];exact Nat.le_of_lt hl
  ·have jn:=in_pr a3 e2
   rw[eqs c i a1 (Nat.lt_of_le_of_lt a2 jn),eqs c j (Nat.le_trans a1 a2) jn];exact Nat.le_refl _
 split
 ·have hle:lo+n≤(arrOf st).size:=by rw[hz];exact Nat.le_trans (Nat.add_le_add_left n2 lo) hn
  refine wpS_bind (w_ltAt O b (Nat.lt_of_lt_of_le (Nat.lt_add_of_pos_right h1) hn) (at_pr hlt hn) ?_)
  by_cases c:kA R (arrOf st) lo < kA R (arrOf st) (lo+n - 1)
  ·simp only[c,decide_true,if_true]
   exact wpS_pure (h n st n1 n2 b sm0 hu)
  ·simp only[c,decide_false,Bool.false_eq_true,if_false]
   refine wpS_bind (w_rev ?_)
   have b1:B κ a₀ (setArr st (mirror (arrOf st) lo (lo+n) ((lo+n - lo) / 2))):=b.set (mirror_perm _ _ _ _)
   have sm1:Sm st (setArr st (mirror (arrOf st) lo (lo+n) ((lo+n - lo) / 2))) lo (lo+nrem):=⟨Out.mirror hle (Nat.le_refl _) (Nat.add_le_add_left n2 lo),rfl⟩
   have dn1:DnA R (arrOf (setArr st (mirror (arrOf st) lo (lo+n) ((lo+n - lo) / 2)))) lo (lo+(n+1)):=dnx _ (zhr hle (eqs c)) c
   generalize (setArr st (mirror (arrOf st) lo (lo+n) ((lo+n - lo) / 2)))=st1 at b1 sm1 dn1 ⊢
   refine wpS_bind (wpS_lift (wpAny_rule ⟨rfl,?_⟩))
   refine wpS_bind (wpS_mono (wpS_forRange (I:=fun x c st'=>∃neq,c=(none,x,neq)∧Fl κ a₀ R st st' lo x neq (lo+nrem)) (Q:=fun c st'=>∃m neq,c=(none,m,neq)∧n+1≤m∧m≤nrem∧Fl κ a₀ R st st' lo m neq (lo+nrem)) ?_ ?_ ?_) ?_)
   ·rintro x c st' a1 a2 ⟨neq,rfl,f⟩
    dsimp only
    refine wpS_bind (w_ltAt O f.base (at_lt a2 hn) (at_pr a2 hn) ?_)
    by_cases c:kA R (arrOf st') (lo+x) < kA R (arrOf st') (lo+x - 1)
    ·simp only[c,decide_true,if_true]
     split
     ·obtain ⟨f2,e⟩:=f.turn (Nat.add_le_add_left (Nat.le_of_lt a2) lo) hn
      refine wpS_bind (w_rev (wpS_pure ⟨0,rfl,f2.fresh ?_⟩))
      refine Nat.le_of_lt (?_:kA R (mirror _ _ _ _) _ < kA R (mirror _ _ _ _) _)
      rw[e,e];exact c
     ·exact wpS_pure ⟨0,rfl,f.fresh (Nat.le_of_lt c)⟩
    ·simp only[c,decide_false,Bool.false_eq_true,if_false]
     refine wpS_bind (w_ltAt O f.base (at_pr a2 hn) (at_lt a2 hn) ?_)
     by_cases c2:kA R (arrOf st') (lo+x - 1) < kA R (arrOf st') (lo+x)
     ·simp only[c2,decide_true,if_true]
      exact wpS_pure ⟨x,neq,rfl,a1,Nat.le_of_lt a2,f⟩
     ·simp only[c2,decide_false,Bool.false_eq_true,if_false]
      exact wpS_pure ⟨neq+1,rfl,f.more (Nat.le_antisymm (Nat.le_of_not_lt c2) (Nat.le_of_not_lt c))⟩
   ·rintro c st' ⟨neq,rfl,f⟩
    rw[Nat.max_eq_right hlt] at f ⊢
    exact ⟨nrem,neq,rfl,hlt,Nat.le_refl _,f⟩
   ·exact ⟨0,rfl,b1,sm1,dn1,Nat.succ_le_succ (Nat.zero_le _),fun i g1 g2=>by
     have:i=lo+(n+1) - 1:=Nat.le_antisymm (Nat.le_of_lt_succ g2) g1
     rw[this]⟩
   ·rintro c st' ⟨m,neq,rfl,a1,a2,f⟩
    dsimp only
    split
    ·obtain ⟨f2,e⟩:=f.turn (Nat.add_le_add_left a2 lo) hn
     refine wpS_bind (w_rev (wpS_bind (w_rev ?_)))
     obtain ⟨b3,s3,u3⟩:=fin m _ f2.base f2.same (Nat.le_of_add_left_le a1) a2 f2.dn
     exact wpS_bind (w_asc O b3 hn (Nat.le_of_add_left_le a1) a2 u3 fun m' m1 m2 hu' _=>wpS_pure (h m' _ (Nat.le_trans (Nat.le_of_add_left_le a1) m1) m2 b3 s3 hu'))
    ·refine wpS_bind (w_rev ?_)
     obtain ⟨b3,s3,u3⟩:=fin m _ f.base f.same (Nat.le_of_add_left_le a1) a2 f.dn
     exact wpS_bind (w_asc O b3 hn (Nat.le_of_add_left_le a1) a2 u3 fun m' m1 m2 hu' _=>wpS_pure (h m' _ (Nat.le_trans (Nat.le_of_add_left_le a1) m1) m2 b3 s3 hu'))
 ·rename_i hn1
  have b1:=b
  have sm1:=sm0
  have dn1:DnA R (arrOf st) lo (lo+(n+1)):=dnx _ (fun _=>rfl) (by
   have:n=1:=Nat.le_antisymm (Nat.le_of_not_lt hn1) n1
   subst this
   simp)
  refine wpS_bind (wpS_lift (wpAny_rule ⟨rfl,?_⟩))
  refine wpS_bind (wpS_mono (wpS_forRange (I:=fun x c st'=>∃neq,c=(none,x,neq)∧Fl κ a₀ R st st' lo x neq (lo+nrem)) (Q:=fun c st'=>∃m neq,c=(none,m,neq)∧n+1≤m∧m≤nrem∧Fl κ a₀ R st st' lo m neq (lo+nrem)) ?_ ?_ ?_) ?_)
  ·rintro x c st' a1 a2 ⟨neq,rfl,f⟩
   dsimp only
   refine wpS_bind (w_ltAt O f.base (at_lt a2 hn) (at_pr a2 hn) ?_)
   by_cases c:kA R (arrOf st') (lo+x) < kA R (arrOf st') (lo+x - 1)
   ·simp only[c,decide_true,if_true]
    split
    ·obtain ⟨f2,e⟩:=f.turn (Nat.add_le_add_left (Nat.le_of_lt a2) lo) hn
     refine wpS_bind (w_rev (wpS_pure ⟨0,rfl,f2.fresh ?_⟩))
     refine Nat.le_of_lt (?_:kA R (mirror _ _ _ _) _ < kA R (mirror _ _ _ _) _)
     rw[e,e];exact c
    ·exact wpS_pure ⟨0,rfl,f.fresh (Nat.le_of_lt c)⟩
   ·simp only[c,decide_false,Bool.false_eq_true,if_false]
    refine wpS_bind (w_ltAt O f.base (at_pr a2 hn) (at_lt a2 hn) ?_)
    by_cases c2:kA R (arrOf st') (lo+x - 1) < kA R (arrOf st') (lo+x)
    ·simp only[c2,decide_true,if_true]
     exact wpS_pure ⟨x,neq,rfl,a1,Nat.le_of_lt a2,f⟩
    ·simp only[c2,decide_false,Bool.false_eq_true,if_false]
     exact wpS_pure ⟨neq+1,rfl,f.more (Nat.le_antisymm (Nat.le_of_not_lt c2) (Nat.le_of_not_lt c))⟩
  ·rintro c st' ⟨neq,rfl,f⟩
   rw[Nat.max_eq_right hlt] at f ⊢
   exact ⟨nrem,neq,rfl,hlt,Nat.le_refl _,f⟩
  ·exact ⟨0,rfl,b1,sm1,dn1,Nat.succ_le_succ (Nat.zero_le _),fun i g1 g2=>by
    have:i=lo+(n+1) - 1:=Nat.le_antisymm (Nat.le_of_lt_succ g2) g1
    rw[this]⟩
  ·rintro c st' ⟨m,neq,rfl,a1,a2,f⟩
   dsimp only
   split
   ·obtain ⟨f2,e⟩:=f.turn (Nat.add_le_add_left a2 lo) hn
    refine wpS_bind (w_rev (wpS_bind (w_rev ?_)))
    obtain ⟨b3,s3,u3⟩:=fin m _ f2.base f2.same (Nat.le_of_add_left_le a1) a2 f2.dn
    exact wpS_bind (w_asc O b3 hn (Nat.le_of_add_left_le a1) a2 u3 fun m' m1 m2 hu' _=>wpS_pure (h m' _ (Nat.le_trans (Nat.le_of_add_left_le a1) m1) m2 b3 s3 hu'))
   ·refine wpS_bind (w_rev ?_)
    obtain ⟨b3,s3,u3⟩:=fin m _ f.base f.same (Nat.le_of_add_left_le a1) a2 f.dn
    exact wpS_bind (w_asc O b3 hn (Nat.le_of_add_left_le a1) a2 u3 fun m' m1 m2 hu' _=>wpS_pure (h m' _ (Nat.le_trans (Nat.le_of_add_left_le a1) m1) m2 b3 s3 hu'))
end
end TS
set_option maxHeartbeats 4000000
namespace TS
open PySem PyProof.Rows
section
variable {prog:Program} {w:World} {A:Around} {E:Value→Shared→Prop} {s:Shared} {κ:SortKind} {a₀:Array Keyed} {R:Keyed→Nat}
theorem zol {xs:Array Keyed} {src d:Nat} (hs:src < xs.size) (hd:d≤src) (k:Nat):kA R (bubble xs src d) k=if k=src - d then kA R xs src else if src - d < k∧k≤src then kA R xs (k - 1) else kA R xs k:=by
 have e:=getElem?_bubble hs d hd k
 split
 ·rename_i c;rw[if_pos c] at e;exact zdh e
 ·rename_i c
  rw[if_neg c] at e
  split
  ·rename_i c2;rw[if_pos c2] at e;exact zdh e
  ·rename_i c2;rw[if_neg c2] at e;exact zdh e
theorem zjt {a b n:Nat} (h1:a≤b) (h:b - a≤n - max 0 n):b=a:=by
 rw[Nat.zero_max,Nat.sub_self] at h
 exact Nat.le_antisymm (Nat.le_of_sub_eq_zero (Nat.le_zero.mp h)) h1
theorem hf_lo {l r:Nat} (h:¬l ≥ r):l≤(l+r) / 2:=(Nat.le_div_iff_mul_le Nat.two_pos).mpr (by rw[Nat.mul_two];exact Nat.add_le_add_left (Nat.le_of_lt (Nat.lt_of_not_le h)) l)
theorem hf_hi {l r:Nat} (h:¬l ≥ r):(l+r) / 2 < r:=(Nat.div_lt_iff_lt_mul Nat.two_pos).mpr (by rw[Nat.mul_two];exact Nat.add_lt_add_right (Nat.lt_of_not_le h) r)
theorem hf_l {l r k x:Nat} (h:¬l ≥ r) (g:r - l≤k - x):(l+r) / 2 - l≤k - (x+1):=Nat.le_trans (Nat.le_sub_one_of_lt (Nat.sub_lt_sub_right (hf_lo h) (hf_hi h))) (Nat.sub_le_sub_right g 1)
theorem hf_r {l r k x:Nat} (h:¬l ≥ r) (g:r - l≤k - x):r - ((l+r) / 2+1)≤k - (x+1):=Nat.le_trans (Nat.sub_le_sub_left (Nat.succ_le_succ (hf_lo h)) r) (Nat.sub_le_sub_right g 1)
theorem prd_lt {p j q:Nat} (h:p < j) (h2:j≤q):j - 1 < q:=Nat.lt_of_lt_of_le (Nat.sub_lt (Nat.zero_lt_of_lt h) Nat.one_pos) h2
theorem w_bin {lo n ok:Nat} {st:SortSt} {Q:Bool→SortSt→Prop} (O:Orc prog w A s κ a₀ R) (b:B κ a₀ st) (hn:lo+n≤a₀.size) (h1:1≤ok) (h2:ok≤n) (up:UpA R (arrOf st) lo (lo+ok))
  (h:∀st',B κ a₀ st'→Sm st st' lo (lo+n)→UpA R (arrOf st') lo (lo+n)→Q true st'):wpS (model prog w) A E s (binarySort' lo n ok) Q st:=by
 rw[binarySort'_eq]
 refine wpS_bind (wpS_mono (wpS_forRange (I:=fun k c st'=>c=(none,())∧B κ a₀ st'∧Sm st st' lo (lo+n)∧UpA R (arrOf st') lo (lo+min k n))
  (Q:=fun c st'=>c=(none,())∧B κ a₀ st'∧Sm st st' lo (lo+n)∧UpA R (arrOf st') lo (lo+n)) ?_ ?_ ?_) ?_)
 ·rintro k c st' k1 k2 ⟨rfl,b1,sm1,up1⟩
  rw[Nat.min_eq_left (Nat.le_of_lt k2)] at up1
  have hz:=b1.size
  have hk:lo+k < a₀.size:=Nat.lt_of_lt_of_le (Nat.add_lt_add_left k2 lo) hn
  refine wpS_bind (wpS_mono (wpS_forRange (I:=fun x c st2=>st2=st'∧∃l r,c=(none,l,r)∧l≤r∧r≤k∧r - l≤k - x∧(∀i,i < l→kA R (arrOf st') (lo+i)≤kA R (arrOf st') (lo+k))∧(∀i,r≤i→i < k→kA R (arrOf st') (lo+k)≤kA R (arrOf st') (lo+i)))
   (Q:=fun c st2=>st2=st'∧∃l r,c=(none,l,r)∧l≤k∧(∀i,i < l→kA R (arrOf st') (lo+i)≤kA R (arrOf st') (lo+k))∧(∀i,l≤i→i < k→kA R (arrOf st') (lo+k)≤kA R (arrOf st') (lo+i))) ?_ ?_ ?_) ?_)
  ·rintro x c st2 x1 x2 ⟨rfl,l,r,rfl,g1,g2,g3,g4,g5⟩
   dsimp only
   by_cases hge:l ≥ r
   ·rw[if_pos hge]
    have e:l=r:=Nat.le_antisymm g1 hge
    subst e
    exact wpS_pure ⟨rfl,l,l,rfl,g2,g4,g5⟩
   ·have hm:lo+(l+r) / 2 < lo+k:=Nat.add_lt_add_left (Nat.lt_of_lt_of_le (hf_hi hge) g2) lo
    rw[if_neg hge]
    refine wpS_bind (w_ltAt O b1 hk (Nat.lt_trans hm hk) ?_)
    by_cases c:kA R (arrOf st2) (lo+k) < kA R (arrOf st2) (lo+(l+r) / 2)
    ·simp only[c,decide_true,if_true]
     exact wpS_pure ⟨rfl,l,(l+r) / 2,rfl,hf_lo hge,Nat.le_trans (Nat.le_of_lt (hf_hi hge)) g2,hf_l hge g3,g4,fun i a1 a2=>Nat.le_trans (Nat.le_of_lt c) (up1 _ _ (Nat.le_add_right _ _) (Nat.add_le_add_left a1 lo) (Nat.add_lt_add_left a2 lo))⟩
    ·simp only[c,decide_false,Bool.false_eq_true,if_false]
     exact wpS_pure ⟨rfl,(l+r) / 2+1,r,rfl,hf_hi hge,g2,hf_r hge g3,fun i a1=>Nat.le_trans (up1 (lo+i) (lo+(l+r) / 2) (Nat.le_add_right _ _) (Nat.add_le_add_left (Nat.le_of_lt_succ a1) lo) hm) (Nat.le_of_not_lt c),g5⟩
  ·rintro c st2 ⟨rfl,l,r,rfl,g1,g2,g3,g4,g5⟩
   have e:=zjt g1 g3
   subst e
   exact ⟨rfl,_,_,rfl,g2,g4,g5⟩
  ·exact ⟨rfl,0,k,rfl,Nat.zero_le _,Nat.le_refl _,Nat.le_refl _,fun i hi=>absurd hi (Nat.not_lt_zero _),fun i a1 a2=>absurd a2 (Nat.not_lt_of_le a1)⟩
  ·rintro c st2 ⟨rfl,l,r,rfl,g1,g2,g3⟩
   dsimp only
   have hd:lo+k - (lo+k - (lo+l))=lo+l:=Nat.sub_sub_self (Nat.add_le_add_left g1 lo)
   have hs:lo+k < (arrOf st2).size:=by rw[hz];exact hk
   refine wpS_bind (w_move (wpS_pure ⟨rfl,b1.set (bubble_perm _ _ _),⟨(Out.bubble hs (Nat.sub_le _ _) (by rw[hd];exact Nat.le_add_right _ _) (Nat.add_lt_add_left k2 lo)).trans sm1.out,sm1.pend⟩,fun i j a1 a2 a3=>?_⟩))
   show kA R (bubble (arrOf st2) (lo+k) (lo+k - (lo+l))) i≤kA R (bubble (arrOf st2) (lo+k) (lo+k - (lo+l))) j
   rw[zol hs (Nat.sub_le _ _),zol hs (Nat.sub_le _ _),hd]
   rw[Nat.min_eq_left k2] at a3
   have hj:j≤lo+k:=Nat.le_of_lt_succ a3
   have low:∀q,lo≤q→q < lo+l→kA R (arrOf st2) q≤kA R (arrOf st2) (lo+k):=fun q q1 q2=>by
    have:=g2 (q - lo) (Nat.sub_lt_left_of_lt_add q1 q2)
    rw[Nat.add_sub_cancel' q1] at this
    exact this
   have hig:∀q,lo+l≤q→q < lo+k→kA R (arrOf st2) (lo+k)≤kA R (arrOf st2) q:=fun q q1 q2=>by
    have q0:=Nat.le_trans (Nat.le_add_right _ _) q1
    have:=g3 (q - lo) (Nat.le_sub_of_add_le' q1) (Nat.sub_lt_left_of_lt_add q0 q2)
    rw[Nat.add_sub_cancel' q0] at this
    exact this
   by_cases i1:i=lo+l
   ·rw[if_pos i1]
    by_cases j1:j=lo+l
    ·rw[if_pos j1];exact Nat.le_refl _
    ·have jj:=Nat.lt_of_le_of_ne (i1 ▸ a2) (Ne.symm j1)
     rw[if_neg j1,if_pos ⟨jj,hj⟩];exact hig _ (Nat.le_sub_one_of_lt jj) (prd_lt jj hj)
   ·rw[if_neg i1]
    by_cases i2:lo+l < i∧i≤lo+k
    ·have jj:=Nat.lt_of_lt_of_le i2.1 a2
     rw[if_pos i2,if_neg (Nat.ne_of_gt jj),if_pos ⟨jj,hj⟩]
     exact up1 _ _ (Nat.le_trans (Nat.le_add_right lo l) (Nat.le_sub_one_of_lt i2.1)) (Nat.sub_le_sub_right a2 1) (prd_lt jj hj)
    ·have il:i < lo+l:=Nat.lt_of_le_of_ne (Nat.le_of_not_lt fun z=>i2 ⟨z,Nat.le_trans a2 hj⟩) i1
     rw[if_neg i2]
     by_cases j1:j=lo+l
     ·rw[if_pos j1];exact low i a1 il
     ·rw[if_neg j1]
      by_cases j2:lo+l < j∧j≤lo+k
      ·rw[if_pos j2];exact up1 _ _ a1 (Nat.le_sub_one_of_lt (Nat.lt_trans il j2.1)) (prd_lt j2.1 hj)
      ·rw[if_neg j2];exact up1 _ _ a1 a2 (Nat.lt_of_lt_of_le (Nat.lt_of_le_of_ne (Nat.le_of_not_lt fun z=>j2 ⟨z,hj⟩) j1) (Nat.add_le_add_left g1 lo))
 ·rintro c st' ⟨rfl,b1,sm1,up1⟩
  rw[Nat.min_eq_right (Nat.le_max_right _ _)] at up1
  exact ⟨rfl,b1,sm1,up1⟩
 ·refine ⟨rfl,b,⟨Out.refl _ _ _,rfl⟩,fun i j a1 a2 a3=>up i j a1 a2 (Nat.lt_of_lt_of_le a3 (Nat.add_le_add_left (Nat.le_trans (Nat.min_le_left _ _) (Nat.le_of_eq (Nat.max_eq_left h1))) lo))⟩
 ·rintro c st' ⟨rfl,b1,sm1,up1⟩
  exact wpS_pure (h st' b1 sm1 up1)
noncomputable def gallop':Bool→Keyed→Array Keyed→Nat→Nat→Nat→StateT SortSt Sem (Option Nat):=sortPriv% PySem.Builtin.gallop
noncomputable def Cut (left:Bool) (R:Keyed→Nat) (key:Keyed) (arr:Array Keyed) (base n h:Nat):Prop:=h≤n∧(∀i,i < h→if left then kA R arr (base+i) < R key else kA R arr (base+i)≤R key)∧(∀i,h≤i→i < n→if left then R key≤kA R arr (base+i) else R key < kA R arr (base+i))
noncomputable def ahead (left:Bool) (R:Keyed→Nat) (key:Keyed) (arr:Array Keyed) (base i:Nat):Bool:=if left then decide (kA R arr (base+i) < R key) else decide (kA R arr (base+i)≤R key)
theorem zks {left:Bool} {key:Keyed} {arr:Array Keyed} {base i:Nat} {st:SortSt} {Q:Option Bool→SortSt→Prop} (O:Orc prog w A s κ a₀ R) (hk:kindOf st=κ) (mk:key∈a₀.toList) (ma:∃x,arr[base+i]?=some x∧x∈a₀.toList) (h:Q (some (ahead left R key arr base i)) st) :
  wpS (model prog w) A E s (do
   let x ← elem' arr (base+i)
   if left=true then lt' x key else do
    let y ← lt' key x
    pure (Option.map (fun x=>!x) y)) Q st:=by
 obtain ⟨x,e,m⟩:=ma
 refine wpS_bind (w_elem e ?_)
 unfold ahead at h
 rw[kA_get e] at h
 cases left with
 | true =>
  rw[if_pos rfl] at h ⊢
  exact w_lt O hk m mk h
 | false =>
  rw[if_neg (by decide)] at h ⊢
  refine wpS_bind (w_lt O hk mk m (wpS_pure ?_))
  have q:(!decide (R key < R x))=decide (R x≤R key):=by
   by_cases c:R key < R x
   ·rw[decide_eq_true c,decide_eq_false (Nat.not_le_of_lt c)];rfl
   ·rw[decide_eq_false c,decide_eq_true (Nat.le_of_not_lt c)];rfl
  show Q (some (!decide (R key < R x))) st
  rw[q]
  exact h
theorem zth {left:Bool} {key:Keyed} {arr:Array Keyed} {base n i j:Nat} (up:UpA R arr base (base+n)) (hij:i≤j) (hj:j < n) (h:ahead left R key arr base j=true):ahead left R key arr base i=true:=by
 have:=up (base+i) (base+j) (Nat.le_add_right _ _) (Nat.add_le_add_left hij _) (Nat.add_lt_add_left hj _)
 unfold ahead at h ⊢
 cases left with
 | true=>rw[if_pos rfl] at h ⊢;exact decide_eq_true (Nat.lt_of_le_of_lt this (of_decide_eq_true h))
 | false=>rw[if_neg (by decide)] at h ⊢;exact decide_eq_true (Nat.le_trans this (of_decide_eq_true h))
theorem cut_of {left:Bool} {key:Keyed} {arr:Array Keyed} {base n h:Nat} (h0:h≤n) (h1:∀i,i < h→ahead left R key arr base i=true) (h2:∀i,h≤i→i < n→ahead left R key arr base i=false):Cut left R key arr base n h:=by
 refine ⟨h0,fun i hi=>?_,fun i a1 a2=>?_⟩
 ·have:=h1 i hi
  unfold ahead at this
  cases left with
  | true=>rw[if_pos rfl] at this ⊢;exact of_decide_eq_true this
  | false=>rw[if_neg (by decide)] at this ⊢;exact of_decide_eq_true this
 ·have:=h2 i a1 a2
  unfold ahead at this
  cases left with
  | true=>rw[if_pos rfl] at this ⊢;exact Nat.le_of_not_lt (of_decide_eq_false this)
  | false=>rw[if_neg (by decide)] at this ⊢;exact Nat.lt_of_not_le (of_decide_eq_false this)
theorem zxc {a b:Nat} (c:¬a ≥ b):(b - a) / 2 < b - a:=Nat.div_lt_self (Nat.sub_pos_of_lt (Nat.lt_of_not_le c)) (Nat.le_refl 2)
theorem mid_b {a b:Nat} (c:¬a ≥ b):a+(b - a) / 2 < b:=Nat.add_lt_of_lt_sub' (zxc c)
theorem mid_n {a b n:Nat} (c:¬a ≥ b) (h:b≤n):a+(b - a) / 2 < n:=Nat.lt_of_lt_of_le (mid_b c) h
theorem mid_hi {a b n x:Nat} (h:b - a≤n - x):b - (a+(b - a) / 2+1)≤n - (x+1):=Nat.le_trans (Nat.sub_le_sub_left (Nat.succ_le_succ (Nat.le_add_right a _)) b) (Nat.sub_le_sub_right h 1)
theorem mid_lo {a b n x:Nat} (c:¬a ≥ b) (h:b - a≤n - x):a+(b - a) / 2 - a≤n - (x+1):=by
 rw[Nat.add_sub_cancel_left]
 exact Nat.le_trans (Nat.le_sub_one_of_lt (zxc c)) (Nat.sub_le_sub_right h 1)
theorem dbl_lt (o:Nat):o < 2 * o+1:=Nat.lt_succ_of_le (Nat.le_mul_of_pos_left o Nat.two_pos)
theorem dbl_le {x o:Nat} (h:x+1≤o):x+1+1≤2 * o+1:=Nat.succ_le_succ (Nat.le_trans h (Nat.le_mul_of_pos_left o Nat.two_pos))
theorem sub_of {a b n:Nat} (h:a+b < n):b < n - a:=Nat.lt_sub_of_add_lt (Nat.add_comm a b ▸ h)
inductive GI (f:Nat→Bool) (n:Nat) (st:SortSt) (x:Nat):Option (Option Nat) × Nat × Nat→SortSt→Prop where
 | mk {a b:Nat} (q1:a≤b) (q2:b≤n) (q3:b - a≤n - x) (q4:∀i,i < a→f i=true) (q5:∀i,b≤i→i < n→f i=false):GI f n st x (none,a,b) st
inductive GE (f:Nat→Bool) (n:Nat) (st:SortSt):Option (Option Nat) × Nat × Nat→SortSt→Prop where
 | mk {b:Nat} (q2:b≤n) (q4:∀i,i < b→f i=true) (q5:∀i,b≤i→i < n→f i=false):GE f n st (none,b,b) st
inductive GU (f:Nat→Bool) (n hint:Nat) (P:Nat→Prop) (st:SortSt):Option (Option Nat) × Nat × Nat→SortSt→Prop where
 | mk {l o:Nat} (g1:l < o) (g2:hint+l < n) (g3:f (hint+l)=true) (g4:P o):GU f n hint P st (none,l,o) st
inductive GD (f:Nat→Bool) (hint:Nat) (P:Nat→Prop) (st:SortSt):Option (Option Nat) × Nat × Nat→SortSt→Prop where
 | mk {l o:Nat} (g1:l < o) (g2:l≤hint) (g3:f (hint - l)=false) (g4:P o):GD f hint P st (none,l,o) st
theorem zfv {left:Bool} {key:Keyed} {arr:Array Keyed} {base n hint:Nat} {st:SortSt} {Q:Option Nat→SortSt→Prop} (O:Orc prog w A s κ a₀ R) (hk:kindOf st=κ) (mk:key∈a₀.toList) (ma:∀i,i < n→∃x,arr[base+i]?=some x∧x∈a₀.toList) (hh:hint < n)
  (up:UpA R arr base (base+n)) (h:∀k,Cut left R key arr base n k→Q (some k) st):wpS (model prog w) A E s (gallop' left key arr base n hint) Q st:=by
 have mono:∀i j,i≤j→j < n→ahead left R key arr base j=true→ahead left R key arr base i=true:=fun i j a1 a2=>zth up a1 a2
 have monoF:∀i j,i≤j→j < n→ahead left R key arr base i=false→ahead left R key arr base j=false:=fun i j a1 a2 e=>by
  cases c:ahead left R key arr base j with
  | false=>rfl
  | true=>rw[mono i j a1 a2 c] at e;cases e
 refine wpS_bind (zks O hk mk (ma hint hh) ?_)
 dsimp only
 cases hr:ahead left R key arr base hint with
 | true =>
  rw[if_pos rfl]
  refine wpS_bind (wpS_mono (wpS_forRange (I:=fun x=>GU (ahead left R key arr base) n hint (x+1≤·) st) (Q:=GU (ahead left R key arr base) n hint (fun o=>n - hint≤o∨(hint+o < n∧ahead left R key arr base (hint+o)=false)) st) ?_ ?_ ?_) ?_)
  ·rintro x c st' x1 x2 @⟨l,o,g1,g2,g3,g4⟩
   dsimp only
   by_cases c:o ≥ n - hint
   ·rw[if_pos c]
    exact wpS_pure (.mk g1 g2 g3 (.inl c))
   ·have c3:hint+o < n:=Nat.add_lt_of_lt_sub' (Nat.lt_of_not_le c)
    rw[if_neg c]
    refine wpS_bind (zks O hk mk (ma (hint+o) c3) ?_)
    dsimp only
    cases c2:ahead left R key arr base (hint+o) with
    | true=>exact wpS_pure (.mk (dbl_lt o) c3 c2 (dbl_le g4))
    | false=>exact wpS_pure (.mk g1 g2 g3 (.inr ⟨c3,c2⟩))
  ·rintro c st' @⟨l,o,g1,g2,g3,g4⟩
   rw[Nat.zero_max] at g4
   exact .mk g1 g2 g3 (.inl (Nat.le_trans (Nat.sub_le _ _) (Nat.le_of_succ_le g4)))
  ·exact .mk Nat.one_pos hh hr (Nat.le_refl _)
  ·rintro c st' @⟨l,o,g1,g2,g3,g4⟩
   dsimp only
   have f1:∀i,i < hint+l+1→ahead left R key arr base i=true:=fun i hi=>mono i (hint+l) (Nat.le_of_lt_succ hi) g2 g3
   have f2:∀i,hint+min o (n - hint)≤i→i < n→ahead left R key arr base i=false:=fun i a1 a2=>by
    rcases g4 with g | ⟨ga,gb⟩
    ·rw[Nat.min_eq_right g,Nat.add_sub_cancel' (Nat.le_of_lt hh)] at a1
     exact absurd a2 (Nat.not_lt_of_le a1)
    ·rw[Nat.min_eq_left (Nat.le_of_lt (sub_of ga))] at a1
     exact monoF (hint+o) i a1 a2 gb
   have f3:hint+l+1≤hint+min o (n - hint):=Nat.add_le_add_left (Nat.le_min.mpr ⟨g1,sub_of g2⟩) hint
   have f4:hint+min o (n - hint)≤n:=Nat.le_trans (Nat.add_le_add_left (Nat.min_le_right _ _) hint) (Nat.le_of_eq (Nat.add_sub_cancel' (Nat.le_of_lt hh)))
   generalize hint+l+1=lo at f1 f3 ⊢
   generalize hint+min o (n - hint)=hi at f2 f3 f4 ⊢
   refine wpS_bind (wpS_mono (wpS_forRange (I:=GI (ahead left R key arr base) n st) (Q:=GE (ahead left R key arr base) n st) ?_ ?_ (.mk f3 f4 (Nat.le_trans (Nat.sub_le _ _) f4) f1 f2)) ?_)
   ·rintro x c st2 x1 x2 @⟨a,b,q1,q2,q3,q4,q5⟩
    dsimp only
    by_cases c:a ≥ b
    ·rw[if_pos c]
     have e:b=a:=Nat.le_antisymm c q1
     subst e
     exact wpS_pure (.mk q2 q4 q5)
    ·rw[if_neg c]
     refine wpS_bind (zks O hk mk (ma (a+(b - a) / 2) (mid_n c q2)) ?_)
     dsimp only
     cases c2:ahead left R key arr base (a+(b - a) / 2) with
     | true=>exact wpS_pure (.mk (mid_b c) q2 (mid_hi q3) (fun i hi=>mono i (a+(b - a) / 2) (Nat.le_of_lt_succ hi) (mid_n c q2) c2) q5)
     | false=>exact wpS_pure (.mk (Nat.le_add_right _ _) (Nat.le_of_lt (mid_n c q2)) (mid_lo c q3) q4 fun i a1 a2=>monoF (a+(b - a) / 2) i a1 a2 c2)
   ·rintro c st2 @⟨a,b,q1,q2,q3,q4,q5⟩
    have e:=zjt q1 q3
    subst e
    exact .mk q2 q4 q5
   ·rintro c st2 @⟨b,q2,q4,q5⟩
    exact wpS_pure (h b (cut_of q2 q4 q5))
 | false =>
  rw[if_neg (by decide)]
  refine wpS_bind (wpS_mono (wpS_forRange (I:=fun x=>GD (ahead left R key arr base) hint (x+1≤·) st) (Q:=GD (ahead left R key arr base) hint (fun o=>hint+1≤o∨(o≤hint∧ahead left R key arr base (hint - o)=true)) st) ?_ ?_ ?_) ?_)
  ·rintro x c st' x1 x2 @⟨l,o,g1,g2,g3,g4⟩
   dsimp only
   by_cases c:o ≥ hint+1
   ·rw[if_pos c]
    exact wpS_pure (.mk g1 g2 g3 (.inl c))
   ·rw[if_neg c]
    refine wpS_bind (zks O hk mk (ma (hint - o) (Nat.lt_of_le_of_lt (Nat.sub_le _ _) hh)) ?_)
    dsimp only
    cases c2:ahead left R key arr base (hint - o) with
    | true=>exact wpS_pure (.mk g1 g2 g3 (.inr ⟨Nat.le_of_lt_succ (Nat.lt_of_not_le c),c2⟩))
    | false=>exact wpS_pure (.mk (dbl_lt o) (Nat.le_of_lt_succ (Nat.lt_of_not_le c)) c2 (dbl_le g4))
  ·rintro c st' @⟨l,o,g1,g2,g3,g4⟩
   rw[Nat.zero_max] at g4
   exact .mk g1 g2 g3 (.inl (Nat.le_trans hh (Nat.le_of_succ_le g4)))
  ·exact .mk Nat.one_pos (Nat.zero_le _) hr (Nat.le_refl _)
  ·rintro c st' @⟨l,o,g1,g2,g3,g4⟩
   dsimp only
   have f1:∀i,i < hint+1 - min o (hint+1)→ahead left R key arr base i=true:=fun i hi=>by
    rcases g4 with g | ⟨ga,gb⟩
    ·rw[Nat.min_eq_right g,Nat.sub_self] at hi
     exact absurd hi (Nat.not_lt_zero _)
    ·rw[Nat.min_eq_left (Nat.le_succ_of_le ga),Nat.succ_sub ga] at hi
     exact mono i (hint - o) (Nat.le_of_lt_succ hi) (Nat.lt_of_le_of_lt (Nat.sub_le _ _) hh) gb
   have f2:∀i,hint - l≤i→i < n→ahead left R key arr base i=false:=fun i a1 a2=>monoF (hint - l) i a1 a2 g3
   have f3:hint+1 - min o (hint+1)≤hint - l:=Nat.le_trans (Nat.sub_le_sub_left (Nat.le_min.mpr ⟨g1,Nat.succ_le_succ g2⟩) _) (Nat.le_of_eq (Nat.succ_sub_succ hint l))
   have f4:hint - l≤n:=Nat.le_trans (Nat.sub_le _ _) (Nat.le_of_lt hh)
   generalize hint+1 - min o (hint+1)=lo at f1 f3 ⊢
   generalize hint - l=hi at f2 f3 f4 ⊢
   refine wpS_bind (wpS_mono (wpS_forRange (I:=GI (ahead left R key arr base) n st) (Q:=GE (ahead left R key arr base) n st) ?_ ?_ (.mk f3 f4 (Nat.le_trans (Nat.sub_le _ _) f4) f1 f2)) ?_)
   ·rintro x c st2 x1 x2 @⟨a,b,q1,q2,q3,q4,q5⟩
    dsimp only
    by_cases c:a ≥ b
    ·rw[if_pos c]
     have e:b=a:=Nat.le_antisymm c q1
     subst e
     exact wpS_pure (.mk q2 q4 q5)
    ·rw[if_neg c]
     refine wpS_bind (zks O hk mk (ma (a+(b - a) / 2) (mid_n c q2)) ?_)
     dsimp only
     cases c2:ahead left R key arr base (a+(b - a) / 2) with
     | true=>exact wpS_pure (.mk (mid_b c) q2 (mid_hi q3) (fun i hi=>mono i (a+(b - a) / 2) (Nat.le_of_lt_succ hi) (mid_n c q2) c2) q5)
     | false=>exact wpS_pure (.mk (Nat.le_add_right _ _) (Nat.le_of_lt (mid_n c q2)) (mid_lo c q3) q4 fun i a1 a2=>monoF (a+(b - a) / 2) i a1 a2 c2)
   ·rintro c st2 @⟨a,b,q1,q2,q3,q4,q5⟩
    have e:=zjt q1 q3
    subst e
    exact .mk q2 q4 q5
   ·rintro c st2 @⟨b,q2,q4,q5⟩
    exact wpS_pure (h b (cut_of q2 q4 q5))
end
end TS
set_option maxHeartbeats 4000000
namespace TS
open PySem PyProof.Rows
section
variable {prog:Program} {w:World} {A:Around} {E:Value→Shared→Prop} {s:Shared} {κ:SortKind} {a₀:Array Keyed} {R:Keyed→Nat}
noncomputable abbrev Ord (R:Keyed→Nat) (l:List Keyed):Prop:=l.Pairwise fun x y=>R x≤R y
structure SmG (st st':SortSt):Prop where
 arr:arrOf st'=arrOf st
 pend:pendingOf st'=pendingOf st
 kind:kindOf st'=kindOf st
 failed:failedOf st'=failedOf st
theorem SmG.refl (st:SortSt):SmG st st:=⟨rfl,rfl,rfl,rfl⟩
theorem SmG.trans {a b c:SortSt} (x:SmG a b) (y:SmG b c):SmG a c:=⟨y.arr.trans x.arr,y.pend.trans x.pend,y.kind.trans x.kind,y.failed.trans x.failed⟩
noncomputable def mergeLo':Array Keyed→Array Keyed→StateT SortSt Sem (Array Keyed):=sortPriv% PySem.Builtin.mergeLo
noncomputable def mergeHi':Array Keyed→Array Keyed→StateT SortSt Sem (Array Keyed):=sortPriv% PySem.Builtin.mergeHi
structure ML (R:Keyed→Nat) (all out rest:List Keyed):Prop where
 perm:(out++rest).Perm all
 ord:Ord R out
 le:∀x∈out,∀y∈rest,R x≤R y
theorem ML.grow {all out rest xs rest':List Keyed} (m:ML R all out rest) (p:rest.Perm (xs++rest')) (o:Ord R xs) (h:∀x∈xs,∀y∈rest',R x≤R y):ML R all (out++xs) rest':=by
 refine ⟨?_,List.pairwise_append.mpr ⟨m.ord,o,fun x hx y hy=>m.le x hx y (p.mem_iff.mpr (List.mem_append_left _ hy))⟩,fun x hx y hy=>?_⟩
 ·rw[List.append_assoc]
  exact (List.Perm.append_left out p.symm).trans m.perm
 ·rcases List.mem_append.mp hx with hx | hx
  ·exact m.le x hx y (p.mem_iff.mpr (List.mem_append_right _ hy))
  ·exact h x hx y hy
theorem ML.fin {all out rest rest':List Keyed} (m:ML R all out rest) (p:rest'.Perm rest) (o:Ord R rest'):(out++rest').Perm all∧Ord R (out++rest') :=
 ⟨(List.Perm.append_left out p).trans m.perm,List.pairwise_append.mpr ⟨m.ord,o,fun x hx y hy=>m.le x hx y (p.mem_iff.mp hy)⟩⟩
theorem Ord.at {l:List Keyed} (h:Ord R l) {i j:Nat} {x y:Keyed} (hi:l[i]?=some x) (hj:l[j]?=some y) (hij:i≤j):R x≤R y:=by
 obtain ⟨h1,e1⟩:=List.getElem?_eq_some_iff.mp hi
 obtain ⟨h2,e2⟩:=List.getElem?_eq_some_iff.mp hj
 by_cases c:i=j
 ·subst c;rw[← e1,← e2];exact Nat.le_refl _
 ·rw[← e1,← e2];exact List.pairwise_iff_getElem.mp h i j h1 h2 (Nat.lt_of_le_of_ne hij c)
theorem Ord.drop {l:List Keyed} (h:Ord R l) (n:Nat):Ord R (l.drop n):=List.Pairwise.sublist (List.drop_sublist _ _) h
theorem Ord.take {l:List Keyed} (h:Ord R l) (n:Nat):Ord R (l.take n):=List.Pairwise.sublist (List.take_sublist _ _) h
theorem zbe {l:List Keyed} {n:Nat} {y:Keyed} (h:y∈l.drop n):∃j,n≤j∧l[j]?=some y:=by
 obtain ⟨i,hi,e⟩:=List.getElem_of_mem h
 refine ⟨n+i,Nat.le_add_right _ _,?_⟩
 rw[← e,List.getElem_drop]
 exact List.getElem?_eq_getElem _
theorem zt {l:List Keyed} {n:Nat} {y:Keyed} (h:y∈l.take n):∃j,j < n∧l[j]?=some y:=by
 obtain ⟨i,hi,e⟩:=List.getElem_of_mem h
 have hi2:i < n∧i < l.length:=by rw[List.length_take] at hi;exact Nat.lt_min.mp hi
 refine ⟨i,hi2.1,?_⟩
 rw[← e,List.getElem_take]
 exact List.getElem?_eq_getElem _
theorem zhu {l:List Keyed} {i:Nat} {x:Keyed} (h:l[i]?=some x):l.drop i=x::l.drop (i+1):=by
 obtain ⟨h1,rfl⟩:=List.getElem?_eq_some_iff.mp h
 exact List.drop_eq_getElem_cons h1
theorem zlx (l:List Keyed) (i k:Nat):l.drop i=(l.drop i).take k++l.drop (i+k):=by
 rw[← List.drop_drop,List.take_append_drop]
structure Two (R:Keyed→Nat) (la lb:List Keyed):Prop where
 oa:Ord R la
 ob:Ord R lb
 last:∀x,la[la.length - 1]?=some x→∀y∈lb,R y≤R x
noncomputable def Fin (R:Keyed→Nat) (la lb:List Keyed) (r:Array Keyed):Prop:=r.toList.Perm (la++lb)∧Ord R r.toList
variable {la lb:List Keyed} {out:Array Keyed} {ia ib:Nat}
theorem ML.pushB {R:Keyed→Nat} {all:List Keyed} (T:Two R la lb) (m:ML R all out.toList (la.drop ia++lb.drop ib)) {y:Keyed} (hy:lb[ib]?=some y) (h:∀z∈la.drop ia,R y≤R z):ML R all (out.push y).toList (la.drop ia++lb.drop (ib+1)):=by
 rw[Array.toList_push]
 refine m.grow ?_ (List.pairwise_singleton _ _) fun x hx z hz=>?_
 ·rw[zhu hy]
  exact List.perm_middle
 ·simp at hx;subst hx
  rcases List.mem_append.mp hz with hz | hz
  ·exact h z hz
  ·obtain ⟨j,hj,e⟩:=zbe hz
   exact T.ob.at hy e (Nat.le_of_succ_le hj)
theorem ML.pushA {R:Keyed→Nat} {all:List Keyed} (T:Two R la lb) (m:ML R all out.toList (la.drop ia++lb.drop ib)) {x:Keyed} (hx:la[ia]?=some x) (h:∀z∈lb.drop ib,R x≤R z):ML R all (out.push x).toList (la.drop (ia+1)++lb.drop ib):=by
 rw[Array.toList_push]
 refine m.grow ?_ (List.pairwise_singleton _ _) fun w hw z hz=>?_
 ·rw[zhu hx]
  exact .refl _
 ·simp at hw;subst hw
  rcases List.mem_append.mp hz with hz | hz
  ·obtain ⟨j,hj,e⟩:=zbe hz
   exact T.oa.at hx e (Nat.le_of_succ_le hj)
  ·exact h z hz
theorem zbu (xs:Array Keyed) (i j:Nat):(xs.extract i j).toList=(xs.toList.drop i).take (j - i):=by
 rw[Array.toList_extract,List.extract_eq_take_drop]
theorem zor (xs:Array Keyed) (i:Nat):(xs.extract i).toList=xs.toList.drop i:=by
 rw[zbu]
 exact List.take_of_length_le (by simp)
theorem zbo {xs:Array Keyed} {i:Nat} {x:Keyed} (h:xs.toList[i]?=some x):kA R xs i=R x:=kA_get (by rw[← Array.getElem?_toList];exact h)
end
section
variable {prog:Program} {w:World} {A:Around} {E:Value→Shared→Prop} {s:Shared} {κ:SortKind} {a₀:Array Keyed} {R:Keyed→Nat} {a b out:Array Keyed} {ia ib k:Nat} {y x:Keyed} {all:List Keyed}
theorem ML.galA (T:Two R a.toList b.toList) (m:ML R all out.toList (a.toList.drop ia++b.toList.drop ib)) (hy:b.toList[ib]?=some y) (c:Cut false R y a ia (a.size - ia) k):ML R all (out++a.extract ia (ia+k)).toList (a.toList.drop (ia+k)++b.toList.drop ib)∧∀z∈a.toList.drop (ia+k),R y≤R z:=by
 have up:∀z∈a.toList.drop (ia+k),R y≤R z:=fun z hz=>by
  obtain ⟨j,hj,e⟩:=zbe hz
  have hj2:j < a.size:=by have:=(List.getElem?_eq_some_iff.mp e).1;simpa using this
  have h0:=Nat.le_trans (Nat.le_add_right _ _) hj
  have:=c.2.2 (j - ia) (Nat.le_sub_of_add_le' hj) (Nat.sub_lt_sub_right h0 hj2)
  rw[Nat.add_sub_cancel' h0,zbo e] at this
  exact Nat.le_of_lt this
 have low:∀z∈(a.toList.drop ia).take k,R z≤R y:=fun z hz=>by
  obtain ⟨j,hj,e⟩:=zt hz
  rw[List.getElem?_drop] at e
  have:=c.2.1 j hj
  rw[zbo e] at this
  exact this
 refine ⟨?_,up⟩
 rw[Array.toList_append,zbu,Nat.add_sub_cancel_left]
 refine m.grow ?_ ((T.oa.drop ia).take k) fun z hz v hv=>?_
 ·conv=>lhs;rw[zlx a.toList ia k]
  rw[List.append_assoc]
 ·rcases List.mem_append.mp hv with hv | hv
  ·exact Nat.le_trans (low z hz) (up v hv)
  ·obtain ⟨j,hj,e⟩:=zbe hv
   exact Nat.le_trans (low z hz) (T.ob.at hy e hj)
theorem ML.galB (T:Two R a.toList b.toList) (m:ML R all out.toList (a.toList.drop ia++b.toList.drop ib)) (hx:a.toList[ia]?=some x) (c:Cut true R x b ib (b.size - ib) k):ML R all (out++b.extract ib (ib+k)).toList (a.toList.drop ia++b.toList.drop (ib+k))∧∀z∈b.toList.drop (ib+k),R x≤R z:=by
 have up:∀z∈b.toList.drop (ib+k),R x≤R z:=fun z hz=>by
  obtain ⟨j,hj,e⟩:=zbe hz
  have hj2:j < b.size:=by have:=(List.getElem?_eq_some_iff.mp e).1;simpa using this
  have h0:=Nat.le_trans (Nat.le_add_right _ _) hj
  have:=c.2.2 (j - ib) (Nat.le_sub_of_add_le' hj) (Nat.sub_lt_sub_right h0 hj2)
  rw[Nat.add_sub_cancel' h0,zbo e] at this
  exact this
 have low:∀z∈(b.toList.drop ib).take k,R z≤R x:=fun z hz=>by
  obtain ⟨j,hj,e⟩:=zt hz
  rw[List.getElem?_drop] at e
  have:=c.2.1 j hj
  rw[zbo e] at this
  exact Nat.le_of_lt this
 refine ⟨?_,up⟩
 rw[Array.toList_append,zbu,Nat.add_sub_cancel_left]
 refine m.grow ?_ ((T.ob.drop ib).take k) fun z hz v hv=>?_
 ·conv=>lhs;rw[zlx b.toList ib k]
  rw[← List.append_assoc,← List.append_assoc]
  exact List.Perm.append_right _ List.perm_append_comm
 ·rcases List.mem_append.mp hv with hv | hv
  ·obtain ⟨j,hj,e⟩:=zbe hv
   exact Nat.le_trans (low z hz) (T.oa.at hx e hj)
  ·exact Nat.le_trans (low z hz) (up v hv)
theorem ML.done (T:Two R a.toList b.toList) (m:ML R (a.toList++b.toList) out.toList (a.toList.drop ia++b.toList.drop ib)) (h:ia=a.size∨ib=b.size):Fin R a.toList b.toList (out++a.extract ia++b.extract ib):=by
 unfold Fin
 rw[Array.toList_append,Array.toList_append,zor,zor,List.append_assoc]
 refine m.fin (.refl _) ?_
 rcases h with rfl | rfl
 ·rw[List.drop_eq_nil_of_le (by simp),List.nil_append];exact T.ob.drop _
 ·rw[List.drop_eq_nil_of_le (as:=b.toList) (by simp),List.append_nil];exact T.oa.drop _
theorem ML.lastA (T:Two R a.toList b.toList) (m:ML R (a.toList++b.toList) out.toList (a.toList.drop ia++b.toList.drop ib)) (h:ia+1=a.size):Fin R a.toList b.toList (out++b.extract ib++a.extract ia):=by
 unfold Fin
 rw[Array.toList_append,Array.toList_append,zor,zor,List.append_assoc]
 refine m.fin List.perm_append_comm (List.pairwise_append.mpr ⟨T.ob.drop _,T.oa.drop _,fun v hv z hz=>?_⟩)
 obtain ⟨j,hj,e⟩:=zbe hz
 have hj2:j < a.size:=by have:=(List.getElem?_eq_some_iff.mp e).1;simpa using this
 have:j=a.toList.length - 1:=Nat.le_antisymm (Nat.le_sub_one_of_lt (by rw[Array.length_toList];exact hj2)) (by rw[Array.length_toList,← h];exact hj)
 subst this
 exact T.last z e v (List.mem_of_mem_drop hv)
noncomputable def setG':Nat→StateT SortSt Sem Unit:=sortPriv% PySem.Builtin.setMinGallop
theorem w_setG {g:Nat} {st:SortSt} {Q:Unit→SortSt→Prop} (h:∀st',SmG st st'→Q () st'):wpS (model prog w) A E s (setG' g) Q st :=
 wpS_modify (h _ ⟨rfl,rfl,rfl,rfl⟩)
theorem w_two {α:Type} {K:Nat→StateT SortSt Sem α} {Q:α→SortSt→Prop} {st:SortSt} (h:∀v,wpS (model prog w) A E s (K v) Q st):∀y x:Nat,wpS (model prog w) A E s (if y > 1 then K x else K y) Q st:=fun y x=>by
 by_cases e:y > 1
 ·rw[if_pos e];exact h x
 ·rw[if_neg e];exact h y
theorem w_cut {α:Type} {c c2:Prop} [Decidable c] [Decidable c2] {X Y Y':StateT SortSt Sem α} {Q:α→SortSt→Prop} {st:SortSt} (hY:¬c→Y'=Y) (h1:c→c2→wpS (model prog w) A E s X Q st) (h2:(c→¬c2)→wpS (model prog w) A E s Y Q st):wpS (model prog w) A E s (if c then (if c2 then X else Y) else Y') Q st:=by
 by_cases e:c
 ·rw[if_pos e]
  by_cases e2:c2
  ·rw[if_pos e2];exact h1 e e2
  ·rw[if_neg e2];exact h2 fun _=>e2
 ·rw[if_neg e,hY e];exact h2 fun z=>absurd z e
theorem w_cut3 {α:Type} {c c2 c3:Prop} [Decidable c] [Decidable c2] [Decidable c3] {X X3 Y Y':StateT SortSt Sem α} {Q:α→SortSt→Prop} {st:SortSt} (hY:¬c→Y'=Y) (h1:c→c2→wpS (model prog w) A E s X Q st) (h3:c→c3→wpS (model prog w) A E s X3 Q st) (h2:(c→¬c2∧¬c3)→wpS (model prog w) A E s Y Q st):wpS (model prog w) A E s (if c then (if c2 then X else if c3 then X3 else Y) else Y') Q st:=by
 by_cases e:c
 ·rw[if_pos e]
  by_cases e2:c2
  ·rw[if_pos e2];exact h1 e e2
  ·rw[if_neg e2]
   by_cases e3:c3
   ·rw[if_pos e3];exact h3 e e3
   ·rw[if_neg e3];exact h2 fun _=>⟨e2,e3⟩
 ·rw[if_neg e,hY e];exact h2 fun z=>absurd z e
theorem w_ifs {α:Type} {c c2:Prop} [Decidable c] [Decidable c2] {X X2 Y:StateT SortSt Sem α} {Q:α→SortSt→Prop} {st:SortSt} (h1:c→wpS (model prog w) A E s X Q st) (h2:c2→wpS (model prog w) A E s X2 Q st) (h3:¬c→¬c2→wpS (model prog w) A E s Y Q st):wpS (model prog w) A E s (if c then X else if c2 then X2 else Y) Q st:=by
 by_cases e:c
 ·rw[if_pos e];exact h1 e
 ·rw[if_neg e]
  by_cases e2:c2
  ·rw[if_pos e2];exact h2 e2
  ·rw[if_neg e2];exact h3 e e2
theorem w_if {α:Type} {c:Prop} [Decidable c] {X Y:StateT SortSt Sem α} {Q:α→SortSt→Prop} {st:SortSt} (h1:c→wpS (model prog w) A E s X Q st) (h2:¬c→wpS (model prog w) A E s Y Q st):wpS (model prog w) A E s (if c then X else Y) Q st:=by
 by_cases e:c
 ·rw[if_pos e];exact h1 e
 ·rw[if_neg e];exact h2 e
theorem w_el {α:Type} {arr:Array Keyed} {i:Nat} {x:Keyed} {f:Keyed→StateT SortSt Sem α} {Q:α→SortSt→Prop} {st:SortSt} (e:arr[i]?=some x) (h:wpS (model prog w) A E s (f x) Q st):wpS (model prog w) A E s (elem' arr i >>= f) Q st:=wpS_bind (w_elem e h)
theorem w_less {α:Type} {x y:Keyed} {f:Option Bool→StateT SortSt Sem α} {Q:α→SortSt→Prop} {st:SortSt} (O:Orc prog w A s κ a₀ R) (hk:kindOf st=κ) (hx:x∈a₀.toList) (hy:y∈a₀.toList) (h1:R x < R y→wpS (model prog w) A E s (f (some true)) Q st) (h2:R y≤R x→wpS (model prog w) A E s (f (some false)) Q st):wpS (model prog w) A E s (lt' x y >>= f) Q st:=by
 refine wpS_bind (w_lt O hk hx hy ?_)
 by_cases c:R x < R y
 ·rw[decide_eq_true c];exact h1 c
 ·rw[decide_eq_false c];exact h2 (Nat.le_of_not_lt c)
inductive Dn {β:Type} (R:Keyed→Nat) (a b:Array Keyed) (st:SortSt):Option (Array Keyed) × β→SortSt→Prop where
 | mk {r:Array Keyed} {z:β} {st':SortSt} (sm:SmG st st') (f:Fin R a.toList b.toList r):Dn R a b st (some r,z) st'
inductive L1 (R:Keyed→Nat) (a b:Array Keyed) (st:SortSt) (x:Nat):Option (Array Keyed) × Array Keyed × Nat × Nat × Nat→SortSt→Prop where
 | mk {out:Array Keyed} {ia ib g:Nat} {st':SortSt} (sm:SmG st st') (m:ML R (a.toList++b.toList) out.toList (a.toList.drop ia++b.toList.drop ib)) (ha:ia+1 < a.size) (hb:ib < b.size) (hx:x < ia+ib):L1 R a b st x (none,out,ia,ib,g) st'
inductive L2' (R:Keyed→Nat) (a b:Array Keyed) (st:SortSt) (x:Nat):Option (Array Keyed) × Array Keyed × Nat × Nat × Nat × Nat→SortSt→Prop where
 | mk {out:Array Keyed} {ia ib ac bc:Nat} {st':SortSt} (sm:SmG st st') (m:ML R (a.toList++b.toList) out.toList (a.toList.drop ia++b.toList.drop ib)) (ha:ia+1 < a.size) (hb:ib < b.size) (hx:x≤ia+ib):L2' R a b st x (none,out,ia,ib,ac,bc) st'
inductive L3 (R:Keyed→Nat) (a b:Array Keyed) (st:SortSt) (x:Nat):Option (Array Keyed) × Array Keyed × Nat × Nat × Nat × Nat × Nat→SortSt→Prop where
 | mk {out:Array Keyed} {ia ib g ac bc:Nat} {st':SortSt} (sm:SmG st st') (m:ML R (a.toList++b.toList) out.toList (a.toList.drop ia++b.toList.drop ib)) (ha:ia+1 < a.size) (hb:ib < b.size) (hx:x≤ia+ib):L3 R a b st x (none,out,ia,ib,g,ac,bc) st'
theorem ztn {st:SortSt} {Q:Array Keyed→SortSt→Prop} (O:Orc prog w A s κ a₀ R) (hk:kindOf st=κ) (ma:∀x∈a.toList,x∈a₀.toList) (mb:∀x∈b.toList,x∈a₀.toList) (T:Two R a.toList b.toList) (ha:1≤a.size) (hb:1≤b.size)
  (fst:∀y,b.toList[0]?=some y→∀x∈a.toList,R y≤R x) (h:∀r st',SmG st st'→Fin R a.toList b.toList r→Q r st'):wpS (model prog w) A E s (mergeLo' a b) Q st:=by
 have atA:∀(i:Nat) (hi:i < a.size),a[i]?=some a[i]∧a.toList[i]?=some a[i]∧a[i]∈a₀.toList:=fun i hi=>⟨getElem?_pos a i hi,by rw[Array.getElem?_toList];exact getElem?_pos a i hi,ma _ (by simp)⟩
 have atB:∀(i:Nat) (hi:i < b.size),b[i]?=some b[i]∧b.toList[i]?=some b[i]∧b[i]∈a₀.toList:=fun i hi=>⟨getElem?_pos b i hi,by rw[Array.getElem?_toList];exact getElem?_pos b i hi,mb _ (by simp)⟩
 have upA:∀i,UpA R a i (i+(a.size - i)):=fun i p q a1 a2 a3=>by
  have hq:q < a.size:=by (first|assumption|lia)
  have e1:=(atA p (by (first|assumption|lia))).2.1
  have e2:=(atA q hq).2.1
  rw[zbo e1,zbo e2]
  exact T.oa.at e1 e2 a2
 have upB:∀i,UpA R b i (i+(b.size - i)):=fun i p q a1 a2 a3=>by
  have hq:q < b.size:=by (first|assumption|lia)
  have e1:=(atB p (by (first|assumption|lia))).2.1
  have e2:=(atB q hq).2.1
  rw[zbo e1,zbo e2]
  exact T.ob.at e1 e2 a2
 obtain ⟨y0,f0,f1⟩:∃x,b[0]?=some x∧b.toList[0]?=some x:=⟨_,(atB 0 hb).1,(atB 0 hb).2.1⟩
 have start:ML R (a.toList++b.toList) (#[y0]:Array Keyed).toList (a.toList.drop 0++b.toList.drop 1):=by
  have z:ML R (a.toList++b.toList) (#[]:Array Keyed).toList (a.toList.drop 0++b.toList.drop 0):=⟨by simp,List.Pairwise.nil,by simp⟩
  exact z.pushB T f1 fun x hx=>fst y0 f1 x (List.mem_of_mem_drop hx)
 refine wpS_bind (wpS_lift (wpAny_rule ⟨rfl,wpS_bind (w_elem f0 (w_ifs (fun c1=>?_) (fun c2=>?_) fun c1 c2=>?_))⟩))
 ·exact wpS_pure (h _ _ (.refl _) (start.done T (.inr (by simpa using c1))))
 ·exact wpS_pure (h _ _ (.refl _) (start.lastA T (by simpa using c2)))
 simp only[beq_iff_eq] at c1 c2
 refine wpS_bind (wpS_get ?_)
 refine wpS_bind (wpS_mono (wpS_forRange (I:=L1 R a b st) (Q:=Dn R a b st) ?_ ?_ (.mk (.refl _) start (by (first|assumption|lia)) (by (first|assumption|lia)) (by (first|assumption|lia)))) ?_)
 ·rintro x c st1 x1 x2 @⟨out,ia,ib,g,st1,sm1,m,ha1,hb1,hx⟩
  dsimp only
  refine wpS_bind (wpS_mono (wpS_forRange (I:=fun _=>L2' R a b st (ia+ib)) (Q:=fun c st'=>Dn R a b st c st'∨L2' R a b st (ia+ib) c st') ?_ ?_ (.mk sm1 m ha1 hb1 (Nat.le_refl _))) ?_)
  ·rintro x' c st2 _ _ @⟨out,ia',ib',ac,bc,st2,sm2,m,ha2,hb2,hp⟩
   dsimp only
   have ea:=(atA ia' (Nat.lt_of_succ_lt ha2)).1
   have ela:=(atA ia' (Nat.lt_of_succ_lt ha2)).2.1
   have mea:=(atA ia' (Nat.lt_of_succ_lt ha2)).2.2
   have eb:=(atB ib' hb2).1
   have elb:=(atB ib' hb2).2.1
   have meb:=(atB ib' hb2).2.2
   refine w_el eb (w_el ea (w_less O (sm2.kind.trans hk) meb mea (fun cw=>w_el eb ?_) fun cw=>w_el ea ?_))
   ·skip
    have m2:=m.pushB T elb fun z hz=>by
     obtain ⟨j,hj,e⟩:=zbe hz
     exact Nat.le_trans (Nat.le_of_lt cw) (T.oa.at ela e hj)
    refine w_if (fun c5=>wpS_pure (.inl (.mk sm2 (m2.done T (.inr (eq_of_beq c5)))))) fun c5=>?_
    rw[beq_iff_eq] at c5
    have hb3:ib'+1 < b.size:=Nat.lt_of_le_of_ne hb2 c5
    have hp3:ia+ib≤ia'+(ib'+1):=Nat.le_succ_of_le hp
    exact w_if (fun _=>wpS_pure (.inr (.mk sm2 m2 ha2 hb3 hp3))) fun _=>wpS_pure (.mk sm2 m2 ha2 hb3 hp3)
   ·skip
    have m2:=m.pushA T ela fun z hz=>by
     obtain ⟨j,hj,e⟩:=zbe hz
     exact Nat.le_trans cw (T.ob.at elb e hj)
    refine w_if (fun c5=>wpS_pure (.inl (.mk sm2 (m2.lastA T (eq_of_beq c5))))) fun c5=>?_
    rw[beq_iff_eq] at c5
    have ha3:ia'+1+1 < a.size:=Nat.lt_of_le_of_ne ha2 c5
    have hp3:ia+ib≤ia'+1+ib':=Nat.succ_add ia' ib' ▸ Nat.le_succ_of_le hp
    exact w_if (fun _=>wpS_pure (.inr (.mk sm2 m2 ha3 hb2 hp3))) fun _=>wpS_pure (.mk sm2 m2 ha3 hb2 hp3)
  ·exact fun c st2 k=>.inr k
  ·rintro c st2 (⟨sm2,f⟩ | @⟨out,ia',ib',ac,bc,st2,sm2,m,ha2,hb2,hp⟩)
   ·exact wpS_pure (.mk sm2 f)
   ·dsimp only
    refine wpS_bind (wpS_lift (wpAny_rule ⟨rfl,?_⟩))
    refine wpS_bind (wpS_mono (wpS_forRange (I:=fun x'=>L3 R a b st (ia+ib+x')) (Q:=fun c st'=>Dn R a b st c st'∨L3 R a b st (ia+ib+1) c st') ?_ ?_ (.mk sm2 m ha2 hb2 hp)) ?_)
    ·rintro x' c st3 _ x2' @⟨out,ia',ib',g',ac,bc,st3,sm3,m,ha2,hb2,hp⟩
     dsimp only
     have eb:=(atB ib' hb2).1
     have elb:=(atB ib' hb2).2.1
     have meb:=(atB ib' hb2).2.2
     generalize g' - 1=g1
     generalize g'=y
     revert g1;revert y
     refine w_two ?_
     intro gg
     refine wpS_bind (w_setG fun st4 sg=>?_)
     have sm4:=sm3.trans sg
     refine w_el eb (wpS_bind (zfv O (sm4.kind.trans hk) meb (fun i hi=>⟨_,(atA (ia'+i) (Nat.add_lt_of_lt_sub' hi)).1,(atA (ia'+i) (Nat.add_lt_of_lt_sub' hi)).2.2⟩) (Nat.sub_pos_of_lt (Nat.lt_of_succ_lt ha2)) (upA ia') fun k1 cut1=>?_))
     have m5:=(m.galA T elb cut1).1
     have u5:=(m.galA T elb cut1).2
     have hk1:=cut1.1
     dsimp only
     refine w_cut3 (fun c6=>?_) (fun c6 c7=>?_) (fun c6 c8=>?_) fun hh=>?_
     ·have z:k1=0:=Nat.le_zero.mp (Nat.le_of_not_lt c6)
      subst z
      simp only[Nat.add_zero,Array.extract_eq_empty_of_le (Nat.min_le_left _ _),Array.append_empty]
     ·exact wpS_pure (.inl (.mk sm4 (m5.lastA T (eq_of_beq c7))))
     ·exact wpS_pure (.inl (.mk sm4 (m5.done T (.inl (eq_of_beq c8)))))
     have ha5:ia'+k1+1 < a.size:=by
      by_cases c6:k1 > 0
      ·have:=hh c6;simp at this;(first|assumption|lia)
      ·(first|assumption|lia)
     have hp5:ia+ib+x'≤ia'+k1+ib':=Nat.le_trans hp (Nat.add_le_add_right (Nat.le_add_right _ _) _)
     clear hh
     generalize ia'+k1=ia5 at m5 u5 ha5 hp5 ⊢
     generalize out++a.extract ia' ia5=out5 at m5 ⊢
     have m6:=m5.pushB T elb u5
     have ea:=(atA _ (Nat.lt_of_succ_lt ha5)).1
     have ela:=(atA _ (Nat.lt_of_succ_lt ha5)).2.1
     have mea:=(atA _ (Nat.lt_of_succ_lt ha5)).2.2
     refine w_el eb (w_if (fun c9=>wpS_pure (.inl (.mk sm4 (m6.done T (.inr (eq_of_beq c9)))))) fun c9=>w_el ea ?_)
     rw[beq_iff_eq] at c9
     refine wpS_bind (zfv O (sm4.kind.trans hk) mea (fun i hi=>⟨_,(atB (ib'+1+i) (Nat.add_lt_of_lt_sub' hi)).1,(atB (ib'+1+i) (Nat.add_lt_of_lt_sub' hi)).2.2⟩) (Nat.sub_pos_of_lt (Nat.lt_of_le_of_ne hb2 c9)) (upB (ib'+1)) fun k2 cut2=>?_)
     have m7:=(m6.galB T ela cut2).1
     have u7:=(m6.galB T ela cut2).2
     have hk2:=cut2.1
     dsimp only
     refine w_cut (fun d6=>?_) (fun d6 d7=>?_) fun hh=>?_
     ·have z2:k2=0:=Nat.le_zero.mp (Nat.le_of_not_lt d6)
      subst z2
      simp only[Nat.add_zero,Array.extract_eq_empty_of_le (Nat.min_le_left _ _),Array.append_empty]
     ·exact wpS_pure (.inl (.mk sm4 (m7.done T (.inr (eq_of_beq d7)))))
     have h20:ib'+1+k2≠b.size:=by
      by_cases d6:k2 > 0
      ·have:=hh d6;simp at this;(first|assumption|lia)
      ·(first|assumption|lia)
     have m8:=m7.pushA T ela u7
     refine w_el ea (w_if (fun d8=>wpS_pure (.inl (.mk sm4 (m8.lastA T (eq_of_beq d8))))) fun d8=>?_)
     rw[beq_iff_eq] at d8
     have ha9:ia5+1+1 < a.size:=Nat.lt_of_le_of_ne ha5 d8
     have hb9:ib'+1+k2 < b.size:=by (first|assumption|lia)
     have hp9:ia+ib+(x'+1)≤ia5+1+(ib'+1+k2):=by (first|assumption|lia)
     exact w_if (fun _=>wpS_pure (.inr (.mk sm4 m8 ha9 hb9 (Nat.le_trans (Nat.add_le_add_left (Nat.le_add_left 1 x') _) hp9)))) fun _=>wpS_pure (.mk sm4 m8 ha9 hb9 hp9)
    ·rintro c st3 ⟨sm3,m,ha2,hb2,hp⟩
     exact .inr (.mk sm3 m ha2 hb2 (by (first|assumption|lia)))
    ·rintro c st3 (⟨sm3,f⟩ | ⟨sm3,m,ha2,hb2,hp⟩)
     ·exact wpS_pure (.mk sm3 f)
     ·exact wpS_bind (w_setG fun st4 sg=>wpS_pure (.mk (sm3.trans sg) m ha2 hb2 (Nat.lt_of_lt_of_le (Nat.succ_lt_succ hx) hp)))
 ·rintro c st1 ⟨sm1,m,ha1,hb1,hx⟩
  (first|assumption|lia)
 ·rintro c st1 ⟨sm1,f⟩
  exact wpS_pure (h _ st1 sm1 f)
end
end TS
set_option maxHeartbeats 4000000
namespace TS
open PySem PyProof.Rows
structure MH (R:Keyed→Nat) (all out rest:List Keyed):Prop where
 perm:(rest++out.reverse).Perm all
 ord:Ord R out.reverse
 le:∀x∈rest,∀y∈out,R x≤R y
section
variable {R:Keyed→Nat}
theorem MH.grow {all out rest xs rest':List Keyed} (m:MH R all out rest) (p:rest.Perm (rest'++xs.reverse)) (o:Ord R xs.reverse) (h:∀x∈rest',∀y∈xs,R x≤R y):MH R all (out++xs) rest':=by
 refine ⟨?_,?_,fun x hx y hy=>?_⟩
 ·rw[List.reverse_append,← List.append_assoc]
  exact (List.Perm.append_right _ p.symm).trans m.perm
 ·rw[List.reverse_append]
  exact List.pairwise_append.mpr ⟨o,m.ord,fun x hx y hy=>m.le x (p.mem_iff.mpr (List.mem_append_right _ hx)) y (List.mem_reverse.mp hy)⟩
 ·rcases List.mem_append.mp hy with hy | hy
  ·exact m.le x (p.mem_iff.mpr (List.mem_append_left _ hx)) y hy
  ·exact h x hx y hy
theorem MH.fin {all out rest rest':List Keyed} (m:MH R all out rest) (p:rest'.Perm rest) (o:Ord R rest'):(rest'++out.reverse).Perm all∧Ord R (rest'++out.reverse) :=
 ⟨(List.Perm.append_right _ p).trans m.perm,List.pairwise_append.mpr ⟨o,m.ord,fun x hx y hy=>m.le x (p.mem_iff.mp hx) y (List.mem_reverse.mp hy)⟩⟩
theorem zgz {l:List Keyed} {i:Nat} {x:Keyed} (h:l[i]?=some x):l.take (i+1)=l.take i++[x]:=by
 obtain ⟨h1,rfl⟩:=List.getElem?_eq_some_iff.mp h
 exact List.take_succ_eq_append_getElem h1
structure TwoH (R:Keyed→Nat) (la lb:List Keyed):Prop where
 oa:Ord R la
 ob:Ord R lb
 first:∀y,lb[0]?=some y→∀x∈la,R y≤R x
variable {la lb all:List Keyed} {out:Array Keyed} {na nb:Nat}
theorem MH.pushB (T:TwoH R la lb) (m:MH R all out.toList (la.take na++lb.take (nb+1))) {y:Keyed} (hy:lb[nb]?=some y) (h:∀z∈la.take na,R z≤R y):MH R all (out.push y).toList (la.take na++lb.take nb):=by
 rw[Array.toList_push]
 refine m.grow ?_ (by simp) fun z hz w hw=>?_
 ·rw[zgz hy]
  simp
 ·simp at hw;subst hw
  rcases List.mem_append.mp hz with hz | hz
  ·exact h z hz
  ·obtain ⟨j,hj,e⟩:=zt hz
   exact T.ob.at e hy (by (first|assumption|lia))
theorem MH.pushA (T:TwoH R la lb) (m:MH R all out.toList (la.take (na+1)++lb.take nb)) {x:Keyed} (hx:la[na]?=some x) (h:∀z∈lb.take nb,R z≤R x):MH R all (out.push x).toList (la.take na++lb.take nb):=by
 rw[Array.toList_push]
 refine m.grow ?_ (by simp) fun z hz w hw=>?_
 ·rw[zgz hx]
  simp only[List.reverse_singleton,List.append_assoc]
  exact List.Perm.append_left _ List.perm_append_comm
 ·simp at hw;subst hw
  rcases List.mem_append.mp hz with hz | hz
  ·obtain ⟨j,hj,e⟩:=zt hz
   exact T.oa.at e hx (by (first|assumption|lia))
  ·exact h z hz
end
section
variable {prog:Program} {w:World} {A:Around} {E:Value→Shared→Prop} {s:Shared} {κ:SortKind} {a₀:Array Keyed} {R:Keyed→Nat} {a b out:Array Keyed} {na nb k:Nat} {y x:Keyed} {all:List Keyed}
theorem zsr (l:List Keyed) {k n:Nat} (h:k≤n):l.take n=l.take k++(l.drop k).take (n - k):=by
 conv=>lhs;rw[show n=k+(n - k) by (first|assumption|lia),List.take_add]
theorem MH.galA (T:TwoH R a.toList b.toList) (m:MH R all out.toList (a.toList.take na++b.toList.take (nb+1))) (hy:b.toList[nb]?=some y) (hn:na≤a.size) (c:Cut false R y a 0 na k):MH R all (out++(a.extract k na).reverse).toList (a.toList.take k++b.toList.take (nb+1))∧∀z∈a.toList.take k,R z≤R y:=by
 have low:∀z∈a.toList.take k,R z≤R y:=fun z hz=>by
  obtain ⟨j,hj,e⟩:=zt hz
  have:=c.2.1 j hj
  rw[Nat.zero_add,zbo e] at this
  exact this
 have up:∀z∈(a.toList.drop k).take (na - k),R y≤R z:=fun z hz=>by
  obtain ⟨j,hj,e⟩:=zt hz
  rw[List.getElem?_drop] at e
  have:=c.2.2 (k+j) (by (first|assumption|lia)) (by (first|assumption|lia))
  rw[Nat.zero_add,zbo e] at this
  exact Nat.le_of_lt this
 refine ⟨?_,low⟩
 rw[Array.toList_append,Array.toList_reverse,zbu]
 refine m.grow ?_ (by rw[List.reverse_reverse];exact (T.oa.drop k).take _) fun v hv z hz=>?_
 ·rw[List.reverse_reverse,zsr a.toList c.1,List.append_assoc,List.append_assoc]
  exact List.Perm.append_left _ List.perm_append_comm
 ·have hz:=up z (List.mem_reverse.mp hz)
  rcases List.mem_append.mp hv with hv | hv
  ·exact Nat.le_trans (low v hv) hz
  ·obtain ⟨j,hj,e⟩:=zt hv
   exact Nat.le_trans (T.ob.at e hy (by (first|assumption|lia))) hz
theorem MH.galB (T:TwoH R a.toList b.toList) (m:MH R all out.toList (a.toList.take (na+1)++b.toList.take nb)) (hx:a.toList[na]?=some x) (hn:nb≤b.size) (c:Cut true R x b 0 nb k):MH R all (out++(b.extract k nb).reverse).toList (a.toList.take (na+1)++b.toList.take k)∧∀z∈b.toList.take k,R z≤R x:=by
 have low:∀z∈b.toList.take k,R z≤R x:=fun z hz=>by
  obtain ⟨j,hj,e⟩:=zt hz
  have:=c.2.1 j hj
  rw[Nat.zero_add,zbo e] at this
  exact Nat.le_of_lt this
 have up:∀z∈(b.toList.drop k).take (nb - k),R x≤R z:=fun z hz=>by
  obtain ⟨j,hj,e⟩:=zt hz
  rw[List.getElem?_drop] at e
  have:=c.2.2 (k+j) (by (first|assumption|lia)) (by (first|assumption|lia))
  rw[Nat.zero_add,zbo e] at this
  exact this
 refine ⟨?_,low⟩
 rw[Array.toList_append,Array.toList_reverse,zbu]
 refine m.grow ?_ (by rw[List.reverse_reverse];exact (T.ob.drop k).take _) fun v hv z hz=>?_
 ·rw[List.reverse_reverse,zsr b.toList c.1,List.append_assoc]
 ·have hz:=up z (List.mem_reverse.mp hz)
  rcases List.mem_append.mp hv with hv | hv
  ·obtain ⟨j,hj,e⟩:=zt hv
   exact Nat.le_trans (T.oa.at e hx (by (first|assumption|lia))) hz
  ·exact Nat.le_trans (low v hv) hz
theorem zke (xs:Array Keyed) (n:Nat):(xs.extract 0 n).toList=xs.toList.take n:=by
 rw[zbu,List.drop_zero,Nat.sub_zero]
theorem MH.done (T:TwoH R a.toList b.toList) (m:MH R (a.toList++b.toList) out.toList (a.toList.take na++b.toList.take nb)) (h:na=0∨nb=0):Fin R a.toList b.toList (a.extract 0 na++b.extract 0 nb++out.reverse):=by
 unfold Fin
 rw[Array.toList_append,Array.toList_append,zke,zke,Array.toList_reverse]
 refine m.fin (.refl _) ?_
 rcases h with rfl | rfl
 ·rw[List.take_zero,List.nil_append];exact T.ob.take _
 ·rw[List.take_zero,List.append_nil];exact T.oa.take _
theorem MH.firstB (T:TwoH R a.toList b.toList) (m:MH R (a.toList++b.toList) out.toList (a.toList.take na++b.toList.take nb)) (h:nb=1):Fin R a.toList b.toList (b.extract 0 nb++a.extract 0 na++out.reverse):=by
 unfold Fin
 rw[Array.toList_append,Array.toList_append,zke,zke,Array.toList_reverse]
 refine m.fin List.perm_append_comm (List.pairwise_append.mpr ⟨T.ob.take _,T.oa.take _,fun v hv z hz=>?_⟩)
 obtain ⟨j,hj,e⟩:=zt hv
 have:j=0:=by (first|assumption|lia)
 subst this
 exact T.first v e z (List.mem_of_mem_take hz)
inductive H1 (R:Keyed→Nat) (a b:Array Keyed) (st:SortSt) (x:Nat):Option (Array Keyed) × Nat × Nat × Array Keyed × Nat→SortSt→Prop where
 | mk {na nb:Nat} {out:Array Keyed} {g:Nat} {st':SortSt} (sm:SmG st st') (m:MH R (a.toList++b.toList) out.toList (a.toList.take na++b.toList.take nb)) (a1:1≤na) (a2:na≤a.size) (b1:2≤nb) (b2:nb≤b.size) (hx:x+na+nb < a.size+b.size):H1 R a b st x (none,na,nb,out,g) st'
inductive H2 (R:Keyed→Nat) (a b:Array Keyed) (st:SortSt) (x:Nat):Option (Array Keyed) × Nat × Nat × Array Keyed × Nat × Nat→SortSt→Prop where
 | mk {na nb:Nat} {out:Array Keyed} {ac bc:Nat} {st':SortSt} (sm:SmG st st') (m:MH R (a.toList++b.toList) out.toList (a.toList.take na++b.toList.take nb)) (a1:1≤na) (a2:na≤a.size) (b1:2≤nb) (b2:nb≤b.size) (hx:na+nb≤x):H2 R a b st x (none,na,nb,out,ac,bc) st'
inductive H3 (R:Keyed→Nat) (a b:Array Keyed) (st:SortSt) (x y:Nat):Option (Array Keyed) × Nat × Nat × Array Keyed × Nat × Nat × Nat→SortSt→Prop where
 | mk {na nb:Nat} {out:Array Keyed} {g ac bc:Nat} {st':SortSt} (sm:SmG st st') (m:MH R (a.toList++b.toList) out.toList (a.toList.take na++b.toList.take nb)) (a1:1≤na) (a2:na≤a.size) (b1:2≤nb) (b2:nb≤b.size) (hx:y+na+nb≤x):H3 R a b st x y (none,na,nb,out,g,ac,bc) st'
theorem zto {st:SortSt} {Q:Array Keyed→SortSt→Prop} (O:Orc prog w A s κ a₀ R) (hk:kindOf st=κ) (ma:∀x∈a.toList,x∈a₀.toList) (mb:∀x∈b.toList,x∈a₀.toList) (T:TwoH R a.toList b.toList) (ha:1≤a.size) (hb:1≤b.size)
  (lst:∀x,a.toList[a.size - 1]?=some x→∀y∈b.toList,R y≤R x) (h:∀r st',SmG st st'→Fin R a.toList b.toList r→Q r st'):wpS (model prog w) A E s (mergeHi' a b) Q st:=by
 have atA:∀(i:Nat) (hi:i < a.size),a[i]?=some a[i]∧a.toList[i]?=some a[i]∧a[i]∈a₀.toList:=fun i hi=>⟨getElem?_pos a i hi,by rw[Array.getElem?_toList];exact getElem?_pos a i hi,ma _ (by simp)⟩
 have atB:∀(i:Nat) (hi:i < b.size),b[i]?=some b[i]∧b.toList[i]?=some b[i]∧b[i]∈a₀.toList:=fun i hi=>⟨getElem?_pos b i hi,by rw[Array.getElem?_toList];exact getElem?_pos b i hi,mb _ (by simp)⟩
 have upA:∀n,n≤a.size→UpA R a 0 (0+n):=fun n hn p q a1 a2 a3=>by
  have hq:q < a.size:=Nat.lt_of_lt_of_le a3 (Nat.le_trans (Nat.le_of_eq (Nat.zero_add n)) hn)
  have e1:=(atA p (Nat.lt_of_le_of_lt a2 hq)).2.1
  have e2:=(atA q hq).2.1
  rw[zbo e1,zbo e2]
  exact T.oa.at e1 e2 a2
 have upB:∀n,n≤b.size→UpA R b 0 (0+n):=fun n hn p q a1 a2 a3=>by
  have hq:q < b.size:=Nat.lt_of_lt_of_le a3 (Nat.le_trans (Nat.le_of_eq (Nat.zero_add n)) hn)
  have e1:=(atB p (Nat.lt_of_le_of_lt a2 hq)).2.1
  have e2:=(atB q hq).2.1
  rw[zbo e1,zbo e2]
  exact T.ob.at e1 e2 a2
 obtain ⟨x0,f0,f1⟩:∃x,a[a.size - 1]?=some x∧a.toList[a.size - 1]?=some x:=⟨_,(atA (a.size - 1) (Nat.sub_lt ha Nat.one_pos)).1,(atA (a.size - 1) (Nat.sub_lt ha Nat.one_pos)).2.1⟩
 have start:MH R (a.toList++b.toList) (#[x0]:Array Keyed).toList (a.toList.take (a.size - 1)++b.toList.take b.size):=by
  have z:MH R (a.toList++b.toList) (#[]:Array Keyed).toList (a.toList.take (a.size - 1+1)++b.toList.take b.size):=by
   refine ⟨?_,List.Pairwise.nil,by simp⟩
   rw[Nat.sub_add_cancel ha,List.take_of_length_le (by simp),List.take_of_length_le (by simp)]
   simp
  exact z.pushA T f1 fun y hy=>lst x0 f1 y (List.mem_of_mem_take hy)
 refine wpS_bind (wpS_lift (wpAny_rule ⟨rfl,wpS_bind (w_elem f0 (w_ifs (fun c1=>?_) (fun c2=>?_) fun c1 c2=>?_))⟩))
 ·exact wpS_pure (h _ _ (.refl _) (start.done T (.inl (by simpa using c1))))
 ·exact wpS_pure (h _ _ (.refl _) (start.firstB T (by simpa using c2)))
 simp only[beq_iff_eq] at c1 c2
 refine wpS_bind (wpS_get ?_)
 refine wpS_bind (wpS_mono (wpS_forRange (I:=H1 R a b st) (Q:=Dn R a b st) ?_ ?_ (.mk (.refl _) start (by (first|assumption|lia)) (by (first|assumption|lia)) (by (first|assumption|lia)) (Nat.le_refl _) (by (first|assumption|lia)))) ?_)
 ·rintro x c st1 x1 x2 @⟨na,nb,out,g,st1,sm1,m,a1,a2,b1,b2,hx⟩
  dsimp only
  refine wpS_bind (wpS_mono (wpS_forRange (I:=fun _=>H2 R a b st (na+nb)) (Q:=fun c st'=>Dn R a b st c st'∨H2 R a b st (na+nb) c st') ?_ ?_ (.mk sm1 m a1 a2 b1 b2 (Nat.le_refl _))) ?_)
  ·rintro x' c st2 _ _ @⟨na',nb',out,ac,bc,st2,sm2,m,g1,g2,g3,g4,hp⟩
   obtain ⟨p,rfl⟩:∃p,na'=p+1:=⟨na' - 1,(Nat.sub_add_cancel g1).symm⟩
   obtain ⟨q,rfl⟩:∃q,nb'=q+1:=⟨nb' - 1,(Nat.sub_add_cancel (Nat.le_of_succ_le g3)).symm⟩
   dsimp only
   have ea:=(atA p g2).1
   have ela:=(atA p g2).2.1
   have mea:=(atA p g2).2.2
   have eb:=(atB q g4).1
   have elb:=(atB q g4).2.1
   have meb:=(atB q g4).2.2
   refine w_el eb (w_el ea (w_less O (sm2.kind.trans hk) meb mea (fun cw=>w_el ea ?_) fun cw=>w_el eb ?_))
   ·skip
    have m2:=m.pushA T ela fun z hz=>by
     obtain ⟨j,hj,e⟩:=zt hz
     exact Nat.le_trans (T.ob.at e elb (Nat.le_of_lt_succ hj)) (Nat.le_of_lt cw)
    refine w_if (fun c5=>wpS_pure (.inl (.mk sm2 (m2.done T (.inl (eq_of_beq c5)))))) fun c5=>?_
    rw[beq_iff_eq] at c5
    have a3:1≤p:=Nat.pos_of_ne_zero c5
    have a4:p≤a.size:=Nat.le_of_succ_le g2
    have a5:p+(q+1)≤na+nb:=Nat.le_trans (Nat.add_le_add_right (Nat.le_succ p) _) hp
    exact w_if (fun _=>wpS_pure (.inr (.mk sm2 m2 a3 a4 g3 g4 a5))) fun _=>wpS_pure (.mk sm2 m2 a3 a4 g3 g4 a5)
   ·skip
    have m2:=m.pushB T elb fun z hz=>by
     obtain ⟨j,hj,e⟩:=zt hz
     exact Nat.le_trans (T.oa.at e ela (Nat.le_of_lt_succ hj)) cw
    refine w_if (fun c5=>wpS_pure (.inl (.mk sm2 (m2.firstB T (eq_of_beq c5))))) fun c5=>?_
    rw[beq_iff_eq] at c5
    have a3:2≤q:=Nat.lt_of_le_of_ne (Nat.le_of_succ_le_succ g3) (Ne.symm c5)
    have a4:q≤b.size:=Nat.le_of_succ_le g4
    have a5:p+1+q≤na+nb:=Nat.le_of_succ_le hp
    exact w_if (fun _=>wpS_pure (.inr (.mk sm2 m2 g1 g2 a3 a4 a5))) fun _=>wpS_pure (.mk sm2 m2 g1 g2 a3 a4 a5)
  ·exact fun c st2 k=>.inr k
  ·rintro c st2 (⟨sm2,f⟩ | @⟨na',nb',out,ac,bc,st2,sm2,m,g1,g2,g3,g4,hp⟩)
   ·exact wpS_pure (.mk sm2 f)
   ·dsimp only
    refine wpS_bind (wpS_lift (wpAny_rule ⟨rfl,?_⟩))
    refine wpS_bind (wpS_mono (wpS_forRange (I:=H3 R a b st (na+nb)) (Q:=fun c st'=>Dn R a b st c st'∨H3 R a b st (na+nb) 1 c st') ?_ ?_ (.mk sm2 m g1 g2 g3 g4 (by rw[Nat.zero_add];exact hp))) ?_)
    ·rintro x' c st3 _ x2' @⟨na',nb',out,g',ac,bc,st3,sm3,m,g1,g2,g3,g4,hp⟩
     obtain ⟨q,rfl⟩:∃q,nb'=q+1:=⟨nb' - 1,(Nat.sub_add_cancel (Nat.le_of_succ_le g3)).symm⟩
     dsimp only
     have eb:=(atB q g4).1
     have elb:=(atB q g4).2.1
     have meb:=(atB q g4).2.2
     generalize g' - 1=g1
     generalize g'=y
     revert g1;revert y
     refine w_two ?_
     intro gg
     refine wpS_bind (w_setG fun st4 sg=>?_)
     have sm4:=sm3.trans sg
     refine w_el eb (wpS_bind (zfv O (sm4.kind.trans hk) meb (fun i hi=>⟨_,(atA (0+i) (by (first|assumption|lia))).1,(atA (0+i) (by (first|assumption|lia))).2.2⟩) (by (first|assumption|lia)) (upA na' g2) fun k1 cut1=>?_))
     have m5:=(m.galA T elb g2 cut1).1
     have u5:=(m.galA T elb g2 cut1).2
     have hk1:=cut1.1
     dsimp only
     refine w_cut (fun c6=>?_) (fun c6 c7=>?_) fun hh=>?_
     ·have z:k1=na':=by (first|assumption|lia)
      subst z
      rw[show out++(a.extract k1 k1).reverse=out by simp[Nat.min_le_left]]
     ·exact wpS_pure (.inl (.mk sm4 (m5.done T (.inl (eq_of_beq c7)))))
     have g5:1≤k1:=by
      by_cases c6:na' - k1 > 0
      ·have:=hh c6;simp at this;(first|assumption|lia)
      ·(first|assumption|lia)
     have g6:k1≤a.size:=Nat.le_trans hk1 g2
     have hp5:x'+k1+(q+1)≤na+nb:=by (first|assumption|lia)
     clear hh hk1 cut1
     generalize out++(a.extract k1 na').reverse=out5 at m5 ⊢
     obtain ⟨p,rfl⟩:∃p,k1=p+1:=⟨k1 - 1,(Nat.sub_add_cancel g5).symm⟩
     simp only[Nat.add_sub_cancel]
     have m6:=m5.pushB T elb u5
     have ea:=(atA p g6).1
     have ela:=(atA p g6).2.1
     have mea:=(atA p g6).2.2
     refine w_el eb (w_if (fun c9=>wpS_pure (.inl (.mk sm4 (m6.firstB T (eq_of_beq c9))))) fun c9=>w_el ea ?_)
     rw[beq_iff_eq] at c9
     refine wpS_bind (zfv O (sm4.kind.trans hk) mea (fun i hi=>⟨_,(atB (0+i) (by (first|assumption|lia))).1,(atB (0+i) (by (first|assumption|lia))).2.2⟩) (by (first|assumption|lia)) (upB q (Nat.le_of_succ_le g4)) fun k2 cut2=>?_)
     have m7:=(m6.galB T ela (Nat.le_of_succ_le g4) cut2).1
     have u7:=(m6.galB T ela (Nat.le_of_succ_le g4) cut2).2
     have hk2:=cut2.1
     dsimp only
     refine w_cut3 (fun d6=>?_) (fun d6 d7=>?_) (fun d6 d9=>?_) fun hh=>?_
     ·have z2:k2=q:=by (first|assumption|lia)
      subst z2
      simp only[Array.extract_eq_empty_of_le (Nat.le_trans (Nat.min_le_left _ _) (Nat.le_refl _)),Array.reverse_empty,Array.append_empty]
     ·exact wpS_pure (.inl (.mk sm4 (m7.firstB T (eq_of_beq d7))))
     ·exact wpS_pure (.inl (.mk sm4 (m7.done T (.inr (eq_of_beq d9)))))
     have h20:2≤k2:=by
      by_cases d6:q - k2 > 0
      ·have:=hh d6;simp at this;(first|assumption|lia)
      ·(first|assumption|lia)
     have m8:=m7.pushA T ela u7
     refine w_el ea (w_if (fun d8=>wpS_pure (.inl (.mk sm4 (m8.done T (.inl (eq_of_beq d8)))))) fun d8=>?_)
     rw[beq_iff_eq] at d8
     have a3:1≤p:=Nat.pos_of_ne_zero d8
     have a4:p≤a.size:=Nat.le_of_succ_le g6
     have a5:k2≤b.size:=Nat.le_trans hk2 (Nat.le_of_succ_le g4)
     have a6:x'+1+p+k2≤na+nb:=by (first|assumption|lia)
     exact w_if (fun _=>wpS_pure (.inr (.mk sm4 m8 a3 a4 h20 a5 (by (first|assumption|lia))))) fun _=>wpS_pure (.mk sm4 m8 a3 a4 h20 a5 a6)
    ·rintro c st3 ⟨sm3,m,g1,g2,g3,g4,hp⟩
     exact .inr (.mk sm3 m g1 g2 g3 g4 (by (first|assumption|lia)))
    ·rintro c st3 (⟨sm3,f⟩ | @⟨na',nb',out,g',ac,bc,st3,sm3,m,g1,g2,g3,g4,hp⟩)
     ·exact wpS_pure (.mk sm3 f)
     ·have h9:x+1+na'+nb' < a.size+b.size:=by (first|assumption|lia)
      exact wpS_bind (w_setG fun st4 sg=>wpS_pure (.mk (sm3.trans sg) m g1 g2 g3 g4 h9))
 ·rintro c st1 ⟨sm1,m,a1,a2,b1,b2,hx⟩
  (first|assumption|lia)
 ·rintro c st1 ⟨sm1,f⟩
  exact wpS_pure (h _ st1 sm1 f)
end
end TS
set_option maxHeartbeats 4000000
namespace TS
open PySem PyProof.Rows
theorem zqw:∀(l:List Keyed) (n off:Nat) (xs:Array Keyed),off+n+l.length≤xs.size→∀i,((l.zipIdx n).foldl (fun a p=>a.setIfInBounds (off+p.2) p.1) xs)[i]?=if off+n≤i∧i < off+n+l.length then l[i - (off+n)]? else xs[i]?
 | [],n,off,xs,h,i=>by
  rw[if_neg (by simp)]
  rfl
 | x::l,n,off,xs,h,i=>by
  rw[List.zipIdx_cons,List.foldl_cons]
  rw[List.length_cons] at h
  have e1:off+(n+1)+l.length=off+n+(l.length+1):=Nat.succ_add_eq_add_succ (off+n) l.length
  rw[zqw l (n+1) off _ (by rw[Array.size_setIfInBounds];exact Nat.le_trans (Nat.le_of_eq e1) h) i]
  rw[List.length_cons]
  by_cases c:off+(n+1)≤i∧i < off+(n+1)+l.length
  ·rw[if_pos c,if_pos ⟨Nat.le_of_succ_le c.1,Nat.lt_of_lt_of_eq c.2 e1⟩,show i - (off+n)=i - (off+(n+1))+1 from (Nat.sub_add_cancel (Nat.sub_pos_of_lt c.1)).symm,List.getElem?_cons_succ]
  ·rw[if_neg c]
   by_cases c2:i=off+n
   ·rw[if_pos ⟨Nat.le_of_eq c2.symm,Nat.lt_of_le_of_lt (Nat.le_of_eq c2) (Nat.lt_add_of_pos_right (Nat.succ_pos _))⟩,c2,Nat.sub_self,List.getElem?_cons_zero]
    exact Array.getElem?_setIfInBounds_self_of_lt (Nat.lt_of_lt_of_le (Nat.lt_add_of_pos_right (Nat.succ_pos l.length)) h)
   ·rw[if_neg fun z=>c ⟨Nat.lt_of_le_of_ne z.1 (Ne.symm c2),Nat.lt_of_lt_of_eq z.2 e1.symm⟩]
    exact Array.getElem?_setIfInBounds_ne (fun z=>c2 z.symm)
theorem zyf {m xs:Array Keyed} {off:Nat} (h:off+m.size≤xs.size):(m.toList.zipIdx.foldl (fun a p=>a.setIfInBounds (off+p.2) p.1) xs).toList=xs.toList.take off++m.toList++xs.toList.drop (off+m.size):=by
 apply List.ext_getElem?
 intro i
 rw[Array.getElem?_toList,zqw m.toList 0 off xs (by simpa using h) i]
 simp only[Nat.add_zero,Array.length_toList]
 have l1:(xs.toList.take off).length=off:=by rw[List.length_take,Array.length_toList];exact Nat.min_eq_left (Nat.le_trans (Nat.le_add_right _ _) h)
 by_cases c:off≤i∧i < off+m.size
 ·rw[if_pos c,List.append_assoc,List.getElem?_append_right (Nat.le_trans (Nat.le_of_eq l1) c.1),l1,List.getElem?_append_left (by rw[Array.length_toList];exact Nat.sub_lt_left_of_lt_add c.1 c.2)]
 ·rw[if_neg c]
  by_cases c2:i < off
  ·rw[List.append_assoc,List.getElem?_append_left (Nat.lt_of_lt_of_eq c2 l1.symm),List.getElem?_take,if_pos c2,Array.getElem?_toList]
  ·have h3:off+m.size≤i:=Nat.le_of_not_lt fun z=>c ⟨Nat.le_of_not_lt c2,z⟩
   rw[List.getElem?_append_right (by rw[List.length_append,l1,Array.length_toList];exact h3),List.getElem?_drop]
   simp only[List.length_append,l1,Array.length_toList]
   rw[Nat.add_sub_cancel' h3,Array.getElem?_toList]
section
variable {prog:Program} {w:World} {A:Around} {E:Value→Shared→Prop} {s:Shared} {κ:SortKind} {a₀:Array Keyed} {R:Keyed→Nat}
theorem zwq {xs:Array Keyed} {i j:Nat} (up:UpA R xs i j) (hj:j≤xs.size):Ord R (xs.extract i j).toList:=by
 rw[zbu]
 refine List.pairwise_iff_getElem.mpr fun p q hp hq hpq=>?_
 simp only[List.length_take,List.length_drop,Array.length_toList] at hp hq
 simp only[List.getElem_take,List.getElem_drop,Array.getElem_toList]
 have:=up (i+p) (i+q) (Nat.le_add_right _ _) (Nat.add_le_add_left (Nat.le_of_lt hpq) i) (Nat.add_lt_of_lt_sub' (Nat.lt_of_lt_of_le hq (Nat.min_le_left _ _)))
 rw[kA_get (getElem?_pos xs (i+p) (Nat.add_lt_of_lt_sub' (Nat.lt_of_lt_of_le hp (Nat.min_le_right _ _)))),kA_get (getElem?_pos xs (i+q) (Nat.add_lt_of_lt_sub' (Nat.lt_of_lt_of_le hq (Nat.min_le_right _ _))))] at this
 exact this
theorem zit {xs:Array Keyed} {i j:Nat} {x:Keyed} (h:x∈(xs.extract i j).toList):∃q,i≤q∧q < j∧xs[q]?=some x:=by
 rw[zbu] at h
 obtain ⟨q,hq,e⟩:=zt h
 rw[List.getElem?_drop,Array.getElem?_toList] at e
 exact ⟨i+q,Nat.le_add_right _ _,Nat.add_lt_of_lt_sub' hq,e⟩
theorem ext_at {xs:Array Keyed} {i j q:Nat} (h:q < j - i):(xs.extract i j).toList[q]?=xs[i+q]?:=by
 rw[zbu,List.getElem?_take,if_pos h,List.getElem?_drop,Array.getElem?_toList]
structure Mg (R:Keyed→Nat) (xs ys:Array Keyed) (lo hi:Nat):Prop where
 perm:ys.Perm xs
 out:Out ys xs lo hi
 up:UpA R ys lo hi
theorem zuq {xs m:Array Keyed} {sa sb ea k nb':Nat} {y0 xl:Keyed} (hsb:sb≤ea) (hea:ea≤xs.size) (hk:sa+k < sb) (hnb:sb+nb'≤ea) (hnb1:1≤nb') (upA:UpA R xs sa sb) (upB:UpA R xs sb ea)
  (e0:xs[sb]?=some y0) (el:xs[sb - 1]?=some xl) (c1:Cut false R y0 xs sa (sb - sa) k) (c2:Cut true R xl xs sb (ea - sb) nb')
  (f:Fin R (xs.extract (sa+k) sb).toList (xs.extract sb (sb+nb')).toList m):Mg R xs (m.toList.zipIdx.foldl (fun a p=>a.setIfInBounds (sa+k+p.2) p.1) xs) sa ea:=by
 have lx:(xs.extract (sa+k) sb).toList.length=sb - (sa+k):=by rw[zbu,List.length_take,List.length_drop,Array.length_toList];exact Nat.min_eq_left (Nat.sub_le_sub_right (Nat.le_trans hsb hea) _)
 have ly:(xs.extract sb (sb+nb')).toList.length=nb':=by rw[zbu,List.length_take,List.length_drop,Array.length_toList,Nat.add_sub_cancel_left];exact Nat.min_eq_left (Nat.le_sub_of_add_le' (Nat.le_trans hnb hea))
 have lm:m.size=sb+nb' - (sa+k):=by
  have:=f.1.length_eq
  rw[List.length_append,lx,ly,Array.length_toList] at this
  exact this.trans (Nat.sub_add_comm (Nat.le_of_lt hk)).symm
 have he:sa+k+m.size=sb+nb':=by rw[lm];exact Nat.add_sub_cancel' (Nat.le_trans (Nat.le_of_lt hk) (Nat.le_add_right _ _))
 have hsz:sa+k+m.size≤xs.size:=by rw[he];exact Nat.le_trans hnb hea
 have hs1:=Nat.le_sub_one_of_lt hk
 have s1:sb - 1 < sb:=Nat.sub_lt (Nat.zero_lt_of_lt hk) Nat.one_pos
 have g:∀i,(m.toList.zipIdx.foldl (fun a p=>a.setIfInBounds (sa+k+p.2) p.1) xs)[i]?=if sa+k≤i∧i < sb+nb' then m.toList[i - (sa+k)]? else xs[i]?:=fun i=>by
  have:=zqw m.toList 0 (sa+k) xs (by simpa using hsz) i
  simp only[Nat.add_zero,Array.length_toList] at this
  rw[he] at this
  exact this
 have mid:∀v∈m.toList,R y0≤R v∧R v≤R xl:=fun v hv=>by
  rcases List.mem_append.mp (f.1.mem_iff.mp hv) with hv | hv
  ·obtain ⟨q,q1,q2,e⟩:=zit hv
   have q0:=Nat.le_trans (Nat.le_add_right _ _) q1
   have h1:=c1.2.2 (q - sa) (Nat.le_sub_of_add_le' q1) (Nat.sub_lt_sub_right q0 q2)
   rw[Nat.add_sub_cancel' q0,kA_get e] at h1
   have h2:=upA q (sb - 1) q0 (Nat.le_sub_one_of_lt q2) s1
   rw[kA_get e,kA_get el] at h2
   have h1':R y0 < R v:=h1
   exact ⟨Nat.le_of_lt h1',h2⟩
  ·obtain ⟨q,q1,q2,e⟩:=zit hv
   have h1:=upB sb q (Nat.le_refl _) q1 (Nat.lt_of_lt_of_le q2 hnb)
   rw[kA_get e,kA_get e0] at h1
   have h2:=c2.2.1 (q - sb) (Nat.sub_lt_left_of_lt_add q1 q2)
   rw[Nat.add_sub_cancel' q1,kA_get e] at h2
   have h2':R v < R xl:=h2
   exact ⟨h1,Nat.le_of_lt h2'⟩
 have low:∀i,sa≤i→i < sa+k→kA R xs i≤R y0:=fun i a1 a2=>by
  have:=c1.2.1 (i - sa) (Nat.sub_lt_left_of_lt_add a1 a2)
  rw[Nat.add_sub_cancel' a1] at this
  exact this
 have hig:∀i,sb+nb'≤i→i < ea→R xl≤kA R xs i:=fun i a1 a2=>by
  have i0:=Nat.le_trans (Nat.le_add_right _ _) a1
  have:=c2.2.2 (i - sb) (Nat.le_sub_of_add_le' a1) (Nat.sub_lt_sub_right i0 a2)
  rw[Nat.add_sub_cancel' i0] at this
  exact this
 have kk:∀i,kA R (m.toList.zipIdx.foldl (fun a p=>a.setIfInBounds (sa+k+p.2) p.1) xs) i=if sa+k≤i∧i < sb+nb' then kA R m (i - (sa+k)) else kA R xs i:=fun i=>by
  have:=g i
  split
  ·rename_i c;rw[if_pos c,Array.getElem?_toList] at this;exact zdh this
  ·rename_i c;rw[if_neg c] at this;exact zdh this
 have mm:∀i,i < m.size→∃v,m.toList[i]?=some v∧v∈m.toList:=fun i hi=>⟨m.toList[i]'(by simpa using hi),List.getElem?_eq_getElem _,List.getElem_mem _⟩
 refine ⟨?_,fun i hi=>?_,fun i j a1 a2 a3=>?_⟩
 ·refine Array.perm_iff_toList_perm.mpr ?_
  rw[zyf hsz,he]
  have split:xs.toList=xs.toList.take (sa+k)++((xs.extract (sa+k) sb).toList++(xs.extract sb (sb+nb')).toList)++xs.toList.drop (sb+nb'):=by
   rw[zbu,zbu]
   rw[Nat.add_sub_cancel_left]
   conv=>lhs;rw[← List.take_append_drop (sa+k) xs.toList,← List.take_append_drop (sb - (sa+k)) (xs.toList.drop (sa+k)),List.drop_drop,Nat.add_sub_cancel' (Nat.le_of_lt hk),← List.take_append_drop nb' (xs.toList.drop sb),List.drop_drop]
   simp only[List.append_assoc]
  conv=>rhs;rw[split]
  exact List.Perm.append_right _ (List.Perm.append_left _ f.1)
 ·rw[g i,if_neg fun z=>hi.elim (fun h=>Nat.not_lt_of_le (Nat.le_trans (Nat.le_add_right sa k) z.1) h) fun h=>Nat.not_lt_of_le h (Nat.lt_of_lt_of_le z.2 hnb)]
 ·rw[kk,kk]
  by_cases ci:sa+k≤i∧i < sb+nb'
  ·rw[if_pos ci]
   obtain ⟨v,ev,mv⟩:=mm (i - (sa+k)) (by rw[lm];exact Nat.sub_lt_sub_right ci.1 ci.2)
   rw[zbo ev]
   by_cases cj:sa+k≤j∧j < sb+nb'
   ·rw[if_pos cj]
    obtain ⟨u,eu,mu⟩:=mm (j - (sa+k)) (by rw[lm];exact Nat.sub_lt_sub_right cj.1 cj.2)
    rw[zbo eu]
    exact f.2.at ev eu (Nat.sub_le_sub_right a2 _)
   ·rw[if_neg cj]
    exact Nat.le_trans (mid v mv).2 (hig j (Nat.le_of_not_lt fun z=>cj ⟨Nat.le_trans ci.1 a2,z⟩) a3)
  ·rw[if_neg ci]
   by_cases ci2:i < sa+k
   ·have h1:=low i a1 ci2
    by_cases cj:sa+k≤j∧j < sb+nb'
    ·rw[if_pos cj]
     obtain ⟨u,eu,mu⟩:=mm (j - (sa+k)) (by rw[lm];exact Nat.sub_lt_sub_right cj.1 cj.2)
     rw[zbo eu]
     exact Nat.le_trans h1 (mid u mu).1
    ·rw[if_neg cj]
     by_cases cj2:j < sa+k
     ·exact upA i j a1 a2 (Nat.lt_trans cj2 hk)
     ·have h2:=hig j (Nat.le_of_not_lt fun z=>cj ⟨Nat.le_of_not_lt cj2,z⟩) a3
      have h3:R y0≤R xl:=by
       have s0:=Nat.le_trans (Nat.le_add_right _ _) hs1
       have h4:=c1.2.2 (sb - 1 - sa) (Nat.le_sub_of_add_le' hs1) (Nat.sub_lt_sub_right s0 s1)
       rw[Nat.add_sub_cancel' s0,kA_get el] at h4
       exact Nat.le_of_lt h4
      exact Nat.le_trans h1 (Nat.le_trans h3 h2)
   ·have hi2:sb+nb'≤i:=Nat.le_of_not_lt fun z=>ci ⟨Nat.le_of_not_lt ci2,z⟩
    rw[if_neg fun z=>Nat.not_lt_of_le (Nat.le_trans hi2 a2) z.2]
    exact upB i j (Nat.le_trans (Nat.le_add_right _ _) hi2) a2 a3
end
end TS
set_option maxHeartbeats 4000000
namespace TS
open PySem PyProof.Rows
section
variable {prog:Program} {w:World} {A:Around} {E:Value→Shared→Prop} {s:Shared} {κ:SortKind} {a₀:Array Keyed} {R:Keyed→Nat}
theorem w_set {x st:SortSt} {Q:Unit→SortSt→Prop} (h:Q () x):wpS (model prog w) A E s (set x:StateT SortSt Sem PUnit) Q st:=by
 unfold wpS
 rw[StateT.run_set]
 exact wpAny_pure ⟨rfl,h⟩
theorem ztp {i sa na pw sb nb pw':Nat} {st:SortSt} {Q:Bool→SortSt→Prop} (O:Orc prog w A s κ a₀ R) (b:B κ a₀ st) (p1:(pendingOf st)[i]?=some (sa,na,pw)) (p2:(pendingOf st)[i+1]?=some (sb,nb,pw')) (hsb:sb=sa+na) (hna:1≤na) (hnb:1≤nb) (hz:sb+nb≤a₀.size)
  (upA:UpA R (arrOf st) sa sb) (upB:UpA R (arrOf st) sb (sb+nb))
  (h:∀st',B κ a₀ st'→pendingOf st'=((pendingOf st).setIfInBounds i (sa,na+nb,pw)).eraseIdxIfInBounds (i+1)→Out (arrOf st') (arrOf st) sa (sb+nb)→UpA R (arrOf st') sa (sb+nb)→Q true st'):wpS (model prog w) A E s (mergeAt' i) Q st:=by
 have hsz:=b.size
 have bs:sb < a₀.size:=Nat.lt_of_lt_of_le (Nat.lt_add_of_pos_right hnb) hz
 refine wpS_bind (wpS_get ?_)
 dsimp only
 have q1:(sortPriv% PySem.Builtin.SortState.pending) st=pendingOf st:=rfl
 rw[q1,p1,p2]
 dsimp only
 refine wpS_bind (w_set ?_)
 obtain ⟨y0,e0,my0⟩:=b.mem (i:=sb) bs
 have inA:∀q,q < a₀.size→∃x,(arrOf st)[q]?=some x∧x∈a₀.toList:=fun q hq=>b.mem hq
 refine wpS_bind (w_elem e0 ?_)
 refine wpS_bind (zfv O b.kind my0 (fun q hq=>inA (sa+q) (Nat.lt_trans (Nat.lt_of_lt_of_eq (Nat.add_lt_add_left hq sa) hsb.symm) bs)) hna (by rw[← hsb];exact upA) fun k c1=>?_)
 dsimp only
 have hk:=c1.1
 have c1':Cut false R y0 (arrOf st) sa (sb - sa) k:=by rw[show sb - sa=na from by rw[hsb,Nat.add_sub_cancel_left]];exact c1
 by_cases d1:na - k=0
 ·rw[if_pos (by simpa using d1)]
  refine wpS_pure (h _ ⟨b.perm,b.kind,b.failed⟩ rfl (Out.refl _ _ _) fun p q a1 a2 a3=>?_)
  by_cases z1:q < sb
  ·exact upA p q a1 a2 z1
  ·by_cases z2:p < sb
   ·have h1:=c1.2.1 (p - sa) (Nat.lt_of_lt_of_le (Nat.sub_lt_left_of_lt_add a1 (Nat.lt_of_lt_of_eq z2 hsb)) (Nat.le_of_sub_eq_zero d1))
    rw[Nat.add_sub_cancel' a1] at h1
    have h2:=upB sb q (Nat.le_refl _) (Nat.le_of_not_lt z1) a3
    rw[kA_get e0] at h2
    exact Nat.le_trans h1 h2
   ·exact upB p q (Nat.le_of_not_lt z2) a2 a3
 ·rw[if_neg (by simpa using d1)]
  have hk2:sa+k < sb:=Nat.lt_of_lt_of_eq (Nat.add_lt_add_left (Nat.lt_of_not_le fun z=>d1 (Nat.sub_eq_zero_of_le z)) sa) hsb.symm
  have s1:sb - 1 < sb:=Nat.sub_lt (Nat.zero_lt_of_lt hk2) Nat.one_pos
  obtain ⟨xl,el,mxl⟩:=inA (sb - 1) (Nat.lt_trans s1 bs)
  have el':(arrOf st)[sa+k+(na - k) - 1]?=some xl:=by rw[Nat.add_assoc,Nat.add_sub_cancel' hk,← hsb];exact el
  refine wpS_bind (w_elem el' ?_)
  refine wpS_bind (zfv O b.kind mxl (fun q hq=>inA (sb+q) (Nat.lt_of_lt_of_le (Nat.add_lt_add_left hq sb) hz)) (Nat.sub_lt hnb Nat.one_pos) upB fun nb' c2=>?_)
  dsimp only
  have hn2:=c2.1
  have c2':Cut true R xl (arrOf st) sb (sb+nb - sb) nb':=by rw[Nat.add_sub_cancel_left];exact c2
  by_cases d2:nb'=0
  ·rw[if_pos (by simpa using d2)]
   refine wpS_pure (h _ ⟨b.perm,b.kind,b.failed⟩ rfl (Out.refl _ _ _) fun p q a1 a2 a3=>?_)
   subst d2
   by_cases z1:q < sb
   ·exact upA p q a1 a2 z1
   ·by_cases z2:p < sb
    ·have h1:=upA p (sb - 1) a1 (Nat.le_sub_one_of_lt z2) s1
     rw[kA_get el] at h1
     have h2:=c2.2.2 (q - sb) (Nat.zero_le _) (Nat.sub_lt_left_of_lt_add (Nat.le_of_not_lt z1) a3)
     rw[Nat.add_sub_cancel' (Nat.le_of_not_lt z1)] at h2
     exact Nat.le_trans h1 h2
    ·exact upB p q (Nat.le_of_not_lt z2) a2 a3
  ·rw[if_neg (by simpa using d2)]
   have hn1:1≤nb':=Nat.pos_of_ne_zero d2
   have hez:sb≤(arrOf st).size:=by rw[hsz];exact Nat.le_of_lt bs
   have hbz:sb+nb≤(arrOf st).size:=by rw[hsz];exact hz
   have hb2:sb+nb'≤sb+nb:=Nat.add_le_add_left hn2 sb
   have oa:Ord R ((arrOf st).extract (sa+k) sb).toList:=zwq (fun p q a1 a2 a3=>upA p q (Nat.le_trans (Nat.le_add_right _ _) a1) a2 a3) hez
   have ob:Ord R ((arrOf st).extract sb (sb+nb')).toList:=zwq (fun p q a1 a2 a3=>upB p q a1 a2 (Nat.lt_of_lt_of_le a3 hb2)) (Nat.le_trans hb2 hbz)
   have ma:∀x∈((arrOf st).extract (sa+k) sb).toList,x∈a₀.toList:=fun x hx=>by
    obtain ⟨q,q1,q2,e⟩:=zit hx
    obtain ⟨x',e',m'⟩:=inA q (Nat.lt_trans q2 bs)
    rw[e] at e';cases e';exact m'
   have mb:∀x∈((arrOf st).extract sb (sb+nb')).toList,x∈a₀.toList:=fun x hx=>by
    obtain ⟨q,q1,q2,e⟩:=zit hx
    obtain ⟨x',e',m'⟩:=inA q (Nat.lt_of_lt_of_le q2 (Nat.le_trans hb2 hz))
    rw[e] at e';cases e';exact m'
   have sx:((arrOf st).extract (sa+k) sb).size=sb - (sa+k):=by rw[Array.size_extract,Nat.min_eq_left hez]
   have sy:((arrOf st).extract sb (sb+nb')).size=nb':=by rw[Array.size_extract,Nat.min_eq_left (Nat.le_trans hb2 hbz),Nat.add_sub_cancel_left]
   have fst:∀y,((arrOf st).extract sb (sb+nb')).toList[0]?=some y→∀x∈((arrOf st).extract (sa+k) sb).toList,R y≤R x:=fun y hy x hx=>by
    rw[ext_at (by rw[Nat.add_sub_cancel_left];exact hn1),Nat.add_zero,e0] at hy
    cases hy
    obtain ⟨q,q1,q2,e⟩:=zit hx
    have q0:=Nat.le_trans (Nat.le_add_right _ _) q1
    have:=c1.2.2 (q - sa) (Nat.le_sub_of_add_le' q1) (Nat.sub_lt_left_of_lt_add q0 (Nat.lt_of_lt_of_eq q2 hsb))
    rw[Nat.add_sub_cancel' q0,kA_get e] at this
    exact Nat.le_of_lt this
   have lst:∀x,((arrOf st).extract (sa+k) sb).toList[sb - (sa+k) - 1]?=some x→∀y∈((arrOf st).extract sb (sb+nb')).toList,R y≤R x:=fun x hx y hy=>by
    rw[ext_at (Nat.sub_lt (Nat.sub_pos_of_lt hk2) Nat.one_pos),show sa+k+(sb - (sa+k) - 1)=sb - 1 from by rw[← Nat.add_sub_assoc (Nat.sub_pos_of_lt hk2),Nat.add_sub_cancel' (Nat.le_of_lt hk2)],el] at hx
    cases hx
    obtain ⟨q,q1,q2,e⟩:=zit hy
    have:=c2.2.1 (q - sb) (Nat.sub_lt_left_of_lt_add q1 q2)
    rw[Nat.add_sub_cancel' q1,kA_get e] at this
    exact Nat.le_of_lt this
   have post:∀m st2,SmG st st2∨True→Fin R ((arrOf st).extract (sa+k) sb).toList ((arrOf st).extract sb (sb+nb')).toList m→Mg R (arrOf st) (m.toList.zipIdx.foldl (fun a p=>a.setIfInBounds (sa+k+p.2) p.1) (arrOf st)) sa (sb+nb):=fun m _ _ f =>
    zuq (Nat.le_add_right _ _) hbz hk2 hb2 hn1 upA upB e0 el c1' c2' f
   by_cases d3:na - k≤nb'
   ·rw[if_pos d3]
    refine wpS_bind (ztn O b.kind ma mb ⟨oa,ob,fun x hx=>lst x (by rw[Array.length_toList,sx] at hx;exact hx)⟩ (by show 1≤((arrOf st).extract (sa+k) sb).size;rw[sx];exact Nat.sub_pos_of_lt hk2) (by show 1≤((arrOf st).extract sb (sb+nb')).size;rw[sy];exact hn1) fst fun m st2 sg f=>?_)
    have mg:=post m st2 (.inr trivial) f
    refine wpS_bind (wpS_modify (wpS_bind (wpS_get ?_)))
    have a2:arrOf st2=arrOf st:=sg.arr
    have f2:failedOf st2=none:=sg.failed.trans b.failed
    refine wpS_pure (?_:Q ((failedOf st2).isNone) (setArr st2 (m.toList.zipIdx.foldl (fun a p=>a.setIfInBounds (sa+k+p.2) p.1) (arrOf st2))))
    rw[f2,a2]
    exact h _ ⟨mg.perm.trans b.perm,sg.kind.trans b.kind,f2⟩ sg.pend mg.out mg.up
   ·rw[if_neg d3]
    refine wpS_bind (zto O b.kind ma mb ⟨oa,ob,fst⟩ (by show 1≤((arrOf st).extract (sa+k) sb).size;rw[sx];exact Nat.sub_pos_of_lt hk2) (by show 1≤((arrOf st).extract sb (sb+nb')).size;rw[sy];exact hn1) (fun x hx=>lst x (by rw[sx] at hx;exact hx)) fun m st2 sg f=>?_)
    have mg:=post m st2 (.inr trivial) f
    refine wpS_bind (wpS_modify (wpS_bind (wpS_get ?_)))
    have a2:arrOf st2=arrOf st:=sg.arr
    have f2:failedOf st2=none:=sg.failed.trans b.failed
    refine wpS_pure (?_:Q ((failedOf st2).isNone) (setArr st2 (m.toList.zipIdx.foldl (fun a p=>a.setIfInBounds (sa+k+p.2) p.1) (arrOf st2))))
    rw[f2,a2]
    exact h _ ⟨mg.perm.trans b.perm,sg.kind.trans b.kind,f2⟩ sg.pend mg.out mg.up
end
end TS
set_option maxHeartbeats 4000000
namespace TS
open PySem PyProof.Rows
noncomputable def Segs (R:Keyed→Nat) (xs:Array Keyed):Nat→List (Nat × Nat × Nat)→Nat→Prop
 | s,[],e=>s=e
 | s,p::r,e=>p.1=s∧1≤p.2.1∧UpA R xs s (s+p.2.1)∧Segs R xs (s+p.2.1) r e
section
variable {R:Keyed→Nat} {xs ys:Array Keyed}
theorem Segs.le:∀{l:List (Nat × Nat × Nat)} {s e:Nat},Segs R xs s l e→s+l.length≤e
 | [],s,e,h=>by cases h;simp
 | p::r,s,e,h=>by
  have:=Segs.le h.2.2.2
  have:=h.2.1
  simp;(first|assumption|lia)
theorem Segs.append:∀{l m:List (Nat × Nat × Nat)} {s e:Nat},Segs R xs s (l++m) e↔∃k,Segs R xs s l k∧Segs R xs k m e
 | [],m,s,e=>⟨fun h=>⟨s,rfl,h⟩,fun ⟨k,h1,h2⟩=>by cases h1;exact h2⟩
 | p::r,m,s,e=>by
  constructor
  ·rintro ⟨h1,h2,h3,h4⟩
   obtain ⟨k,g1,g2⟩:=Segs.append.mp h4
   exact ⟨k,⟨h1,h2,h3,g1⟩,g2⟩
  ·rintro ⟨k,⟨h1,h2,h3,h4⟩,g2⟩
   exact ⟨h1,h2,h3,Segs.append.mpr ⟨k,h4,g2⟩⟩
theorem UpA.same {a b:Nat} (h:UpA R xs a b) (e:∀i,a≤i→i < b→ys[i]?=xs[i]?):UpA R ys a b:=fun i j a1 a2 a3=>by
 rw[zdh (e i a1 (Nat.lt_of_le_of_lt a2 a3)),zdh (e j (Nat.le_trans a1 a2) a3)]
 exact h i j a1 a2 a3
theorem Segs.same:∀{l:List (Nat × Nat × Nat)} {s e:Nat},Segs R xs s l e→(∀i,s≤i→i < e→ys[i]?=xs[i]?)→Segs R ys s l e
 | [],s,e,h,_=>h
 | p::r,s,e,h,k=>by
  have:=Segs.le h.2.2.2
  exact ⟨h.1,h.2.1,h.2.2.1.same fun i a1 a2=>k i a1 (Nat.lt_of_lt_of_le a2 (Nat.le_trans (Nat.le_add_right _ _) this)),Segs.same h.2.2.2 fun i a1 a2=>k i (Nat.le_trans (Nat.le_add_right _ _) a1) a2⟩
theorem Segs.power {s e:Nat}:∀{l m:List (Nat × Nat × Nat)},l.map (fun p=>(p.1,p.2.1))=m.map (fun p=>(p.1,p.2.1))→Segs R xs s l e→Segs R xs s m e:=by
 intro l
 induction l generalizing s with
 | nil=>intro m h k;cases m with
  | nil=>exact k
  | cons=>cases h
 | cons p r ih=>intro m h k;cases m with
  | nil=>cases h
  | cons q t =>
   rw[List.map_cons,List.map_cons] at h
   obtain ⟨h1,h2⟩:=List.cons.inj h
   obtain ⟨g1,g2⟩:=Prod.mk.inj h1
   obtain ⟨k1,k2,k3,k4⟩:=k
   rw[g2] at k2 k3 k4
   exact ⟨g1.symm.trans k1,k2,k3,ih h2 k4⟩
end
section
variable {prog:Program} {w:World} {A:Around} {E:Value→Shared→Prop} {s:Shared} {κ:SortKind} {a₀:Array Keyed} {R:Keyed→Nat}
theorem zzf {l:List (Nat × Nat × Nat)} {i:Nat} (h:i+1 < l.length):∃pre p q post,l=pre++p::q::post∧pre.length=i:=by
 refine ⟨l.take i,l[i],l[i+1],l.drop (i+2),?_,by rw[List.length_take];exact Nat.min_eq_left (Nat.le_of_lt (Nat.lt_of_succ_lt h))⟩
 conv=>lhs;rw[← List.take_append_drop i l,List.drop_eq_getElem_cons (Nat.lt_of_succ_lt h),List.drop_eq_getElem_cons h]
theorem w_at {i e:Nat} {st:SortSt} {Q:Bool→SortSt→Prop} (O:Orc prog w A s κ a₀ R) (b:B κ a₀ st) (sg:Segs R (arrOf st) 0 (pendingOf st).toList e) (he:e≤a₀.size) (hi:i+1 < (pendingOf st).size)
  (h:∀st',B κ a₀ st'→Segs R (arrOf st') 0 (pendingOf st').toList e→(pendingOf st').size+1=(pendingOf st).size→(∀k,e≤k→(arrOf st')[k]?=(arrOf st)[k]?)→Q true st'):wpS (model prog w) A E s (mergeAt' i) Q st:=by
 obtain ⟨pre,p,q,post,el,hl⟩:=zzf (l:=(pendingOf st).toList) (i:=i) (by simpa using hi)
 obtain ⟨sa,na,pw⟩:=p
 obtain ⟨sb,nb,pw'⟩:=q
 rw[el] at sg
 obtain ⟨k,g1,g2⟩:=Segs.append.mp sg
 obtain ⟨h1,h2,h3,h4,h5,h6,h7⟩:=g2
 dsimp only at h1 h2 h3 h4 h5 h6 h7
 subst h1
 have l7:=Segs.le h7
 have l1:=Segs.le g1
 have p1:(pendingOf st)[i]?=some (sa,na,pw):=by rw[← Array.getElem?_toList,el,List.getElem?_append_right (Nat.le_of_eq hl),hl,Nat.sub_self];rfl
 have p2:(pendingOf st)[i+1]?=some (sb,nb,pw'):=by rw[← Array.getElem?_toList,el,List.getElem?_append_right (Nat.le_trans (Nat.le_of_eq hl) (Nat.le_add_right i 1)),hl,Nat.add_sub_cancel_left];rfl
 refine ztp O b p1 p2 h4 h2 h5 (by (first|assumption|lia)) (by rw[h4];exact h3) (by rw[h4];exact h6) fun st' b' pe ou up=>?_
 have pl:(pendingOf st').toList=pre++(sa,na+nb,pw)::post:=by
  rw[pe]
  rw[Array.toList_eraseIdxIfInBounds,Array.toList_setIfInBounds,el]
  rw[List.set_append_right _ _ (Nat.le_of_eq hl),hl,Nat.sub_self,List.set_cons_zero,List.eraseIdx_append_of_length_le (Nat.le_trans (Nat.le_of_eq hl) (Nat.le_add_right i 1)),hl,Nat.add_sub_cancel_left]
  rfl
 have keep:∀j,j < sa∨sb+nb≤j→(arrOf st')[j]?=(arrOf st)[j]?:=ou
 refine h st' b' ?_ ?_ fun j hj=>keep j (.inr (by (first|assumption|lia)))
 ·rw[pl]
  refine Segs.append.mpr ⟨sa,g1.same fun j a1 a2=>keep j (.inl a2),rfl,by show 1≤na+nb;(first|assumption|lia),?_,?_⟩
  ·show UpA R (arrOf st') sa (sa+(na+nb))
   rw[show sa+(na+nb)=sb+nb by (first|assumption|lia)];exact up
  ·show Segs R (arrOf st') (sa+(na+nb)) post e
   rw[show sa+(na+nb)=sa+na+nb by (first|assumption|lia)]
   exact h7.same fun j a1 a2=>keep j (.inr (by (first|assumption|lia)))
 ·have e1:(pendingOf st').size=(pendingOf st').toList.length:=by simp
  have e2:(pendingOf st).size=(pendingOf st).toList.length:=by simp
  rw[e1,e2,pl,el]
  simp only[List.length_append,List.length_cons]
  (first|assumption|lia)
theorem lt_ite {c:Prop} [Decidable c] {a b n:Nat} (h1:a+1 < n) (h2:b+1 < n):(if c then a else b)+1 < n:=by split<;>assumption
theorem zwu {g:Nat × Nat × Nat→Nat × Nat} {f:Nat × Nat × Nat→Nat × Nat × Nat} (h:∀x,g (f x)=g x):∀(l:List (Nat × Nat × Nat)) (i:Nat),(l.modify i f).map g=l.map g
 | [],i=>by simp
 | x::l,0=>by simp[h]
 | x::l,i+1=>by simp[zwu h l i]
theorem Segs.mod {xs:Array Keyed} {s e:Nat} {l:List (Nat × Nat × Nat)} (h:Segs R xs s l e) (i c:Nat):Segs R xs s (l.modify i fun x=>(x.1,x.2.1,c)) e :=
 h.power (zwu (g:=fun p=>(p.1,p.2.1)) (f:=fun x=>(x.1,x.2.1,c)) (fun _=>rfl) l i).symm
theorem w_runs {st:SortSt} {Q:Unit→SortSt→Prop} (O:Orc prog w A s κ a₀ R) (b:B κ a₀ st) (pe:pendingOf st=#[]) (h2:2≤a₀.size)
  (h:∀st',B κ a₀ st'→UpA R (arrOf st') 0 a₀.size→Q () st'):wpS (model prog w) A E s sortRuns' Q st:=by
 have hz:=b.size
 rw[sortRuns'_eq]
 refine wpS_bind (wpS_get ?_)
 dsimp only
 rw[hz]
 refine wpS_bind (wpS_mono (wpS_forRange (I:=fun x c st'=>∃lo,c=(none,lo)∧B κ a₀ st'∧Segs R (arrOf st') 0 (pendingOf st').toList lo∧lo≤a₀.size∧x≤lo)
  (Q:=fun c st'=>c=(none,a₀.size)∧B κ a₀ st'∧Segs R (arrOf st') 0 (pendingOf st').toList a₀.size) ?_ ?_ ⟨0,rfl,b,by rw[pe];rfl,by (first|assumption|lia),by (first|assumption|lia)⟩) ?_)
 ·rintro x c st1 x1 x2 ⟨lo,rfl,b1,sg1,hlo,hx⟩
  dsimp only
  by_cases c1:lo ≥ a₀.size
  ·rw[if_pos c1]
   have:lo=a₀.size:=by (first|assumption|lia)
   subst this
   exact wpS_pure ⟨rfl,b1,sg1⟩
  rw[if_neg c1]
  refine wpS_bind (zbau O b1 (by (first|assumption|lia)) (by (first|assumption|lia)) fun m st2 m1 m2 b2 sm2 up2=>?_)
  dsimp only
  have sg2:Segs R (arrOf st2) 0 (pendingOf st2).toList lo:=by
   rw[sm2.pend]
   exact sg1.same fun i a1 a2=>sm2.out i (.inl a2)
  by_cases c2:m < minRun' a₀.size a₀.size 0
  ·rw[if_pos c2]
   refine wpS_bind (wpS_lift (wpAny_rule ⟨rfl,?_⟩))
   refine wpS_bind (w_bin O b2 (by (first|assumption|lia)) m1 (by (first|assumption|lia)) up2 fun st3 b3 sm3 up3=>?_)
   have sg3:Segs R (arrOf st3) 0 (pendingOf st3).toList lo:=by
    rw[sm3.pend]
    exact sg2.same fun i a1 a2=>sm3.out i (.inl a2)
   have hn1:1≤min (a₀.size - lo) (minRun' a₀.size a₀.size 0):=by (first|assumption|lia)
   have hn2:lo+min (a₀.size - lo) (minRun' a₀.size a₀.size 0)≤a₀.size:=by (first|assumption|lia)
   simp only[Bool.not_true,Bool.false_eq_true,if_false]
   generalize min (a₀.size - lo) (minRun' a₀.size a₀.size 0)=n at up3 hn1 hn2 sm3 ⊢
   refine wpS_bind (wpS_get ?_)
   cases hb:(pendingOf st3).back? with
   | none =>
    dsimp only
    refine wpS_bind (wpS_modify (wpS_pure ⟨lo+n,rfl,⟨b3.perm,b3.kind,b3.failed⟩,?_,hn2,by (first|assumption|lia)⟩))
    show Segs R (arrOf st3) 0 ((pendingOf st3).push (lo,n,0)).toList (lo+n)
    rw[Array.toList_push]
    exact Segs.append.mpr ⟨lo,sg3,rfl,hn1,up3,rfl⟩
   | some p =>
    obtain ⟨s1,n1,p1⟩:=p
    dsimp only
    refine wpS_bind (wpS_mono (wpS_forRange (I:=fun _ c st'=>c=(none,())∧B κ a₀ st'∧Segs R (arrOf st') 0 (pendingOf st').toList lo∧UpA R (arrOf st') lo (lo+n)) (Q:=fun c st'=>c=(none,())∧B κ a₀ st'∧Segs R (arrOf st') 0 (pendingOf st').toList lo∧UpA R (arrOf st') lo (lo+n)) ?_ (fun _ _ hh=>hh) ⟨rfl,b3,sg3,up3⟩) ?_)
    ·rintro x' c st4 _ _ ⟨rfl,b4,sg4,up4⟩
     refine wpS_bind (wpS_get ?_)
     by_cases hs:(pendingOf st4).size > 1
     ·rw[if_pos hs,getElem?_pos (pendingOf st4) ((pendingOf st4).size - 2) (by (first|assumption|lia))]
      obtain ⟨s2,n2,p2⟩:=(pendingOf st4)[(pendingOf st4).size - 2]'(by (first|assumption|lia))
      dsimp only
      split
      ·exact wpS_pure ⟨rfl,b4,sg4,up4⟩
      ·refine wpS_bind (w_at O b4 sg4 hlo (by (first|assumption|lia)) fun st5 b5 sg5 _ k5=>?_)
       exact wpS_pure ⟨rfl,b5,sg5,up4.same fun i a1 a2=>k5 i a1⟩
     ·rw[if_neg hs]
      exact wpS_pure ⟨rfl,b4,sg4,up4⟩
    ·rintro c st4 ⟨rfl,b4,sg4,up4⟩
     dsimp only
     refine wpS_bind (wpS_modify (wpS_bind (wpS_modify (wpS_pure ⟨lo+n,rfl,⟨b4.perm,b4.kind,b4.failed⟩,?_,hn2,by (first|assumption|lia)⟩))))
     refine (?_:Segs R (arrOf st4) 0 (((pendingOf st4).modify ((pendingOf st4).size - 1) fun x=>(x.1,x.2.1,_)).push (lo,n,0)).toList (lo+n))
     rw[Array.toList_push,Array.toList_modify]
     exact Segs.append.mpr ⟨lo,sg4.mod _ _,rfl,hn1,up4,rfl⟩
  ·rw[if_neg c2]
   have b3:=b2
   have sg3:=sg2
   have up3:=up2
   have hn1:=m1
   have hn2:lo+m≤a₀.size:=by (first|assumption|lia)
   generalize st2=st3 at b3 sg3 up3 ⊢
   generalize m=n at up3 hn1 hn2 ⊢
   refine wpS_bind (wpS_get ?_)
   cases hb:(pendingOf st3).back? with
   | none =>
    dsimp only
    refine wpS_bind (wpS_modify (wpS_pure ⟨lo+n,rfl,⟨b3.perm,b3.kind,b3.failed⟩,?_,hn2,by (first|assumption|lia)⟩))
    show Segs R (arrOf st3) 0 ((pendingOf st3).push (lo,n,0)).toList (lo+n)
    rw[Array.toList_push]
    exact Segs.append.mpr ⟨lo,sg3,rfl,hn1,up3,rfl⟩
   | some p =>
    obtain ⟨s1,n1,p1⟩:=p
    dsimp only
    refine wpS_bind (wpS_mono (wpS_forRange (I:=fun _ c st'=>c=(none,())∧B κ a₀ st'∧Segs R (arrOf st') 0 (pendingOf st').toList lo∧UpA R (arrOf st') lo (lo+n)) (Q:=fun c st'=>c=(none,())∧B κ a₀ st'∧Segs R (arrOf st') 0 (pendingOf st').toList lo∧UpA R (arrOf st') lo (lo+n)) ?_ (fun _ _ hh=>hh) ⟨rfl,b3,sg3,up3⟩) ?_)
    ·rintro x' c st4 _ _ ⟨rfl,b4,sg4,up4⟩
     refine wpS_bind (wpS_get ?_)
     by_cases hs:(pendingOf st4).size > 1
     ·rw[if_pos hs,getElem?_pos (pendingOf st4) ((pendingOf st4).size - 2) (by (first|assumption|lia))]
      obtain ⟨s2,n2,p2⟩:=(pendingOf st4)[(pendingOf st4).size - 2]'(by (first|assumption|lia))
      dsimp only
      split
      ·exact wpS_pure ⟨rfl,b4,sg4,up4⟩
      ·refine wpS_bind (w_at O b4 sg4 hlo (by (first|assumption|lia)) fun st5 b5 sg5 _ k5=>?_)
       exact wpS_pure ⟨rfl,b5,sg5,up4.same fun i a1 a2=>k5 i a1⟩
     ·rw[if_neg hs]
      exact wpS_pure ⟨rfl,b4,sg4,up4⟩
    ·rintro c st4 ⟨rfl,b4,sg4,up4⟩
     dsimp only
     refine wpS_bind (wpS_modify (wpS_bind (wpS_modify (wpS_pure ⟨lo+n,rfl,⟨b4.perm,b4.kind,b4.failed⟩,?_,hn2,by (first|assumption|lia)⟩))))
     refine (?_:Segs R (arrOf st4) 0 (((pendingOf st4).modify ((pendingOf st4).size - 1) fun x=>(x.1,x.2.1,_)).push (lo,n,0)).toList (lo+n))
     rw[Array.toList_push,Array.toList_modify]
     exact Segs.append.mpr ⟨lo,sg4.mod _ _,rfl,hn1,up4,rfl⟩
 ·rintro c st1 ⟨lo,rfl,b1,sg1,hlo,hx⟩
  have:lo=a₀.size:=by (first|assumption|lia)
  subst this
  exact ⟨rfl,b1,sg1⟩
 ·rintro c st1 ⟨rfl,b1,sg1⟩
  dsimp only
  refine wpS_bind (wpS_mono (wpS_forRange (I:=fun x c st'=>c=(none,())∧B κ a₀ st'∧Segs R (arrOf st') 0 (pendingOf st').toList a₀.size∧(pendingOf st').size+x≤a₀.size)
   (Q:=fun c st'=>c=(none,())∧B κ a₀ st'∧Segs R (arrOf st') 0 (pendingOf st').toList a₀.size∧(pendingOf st').size≤1) ?_ ?_ ⟨rfl,b1,sg1,by have:=sg1.le;simp at this;(first|assumption|lia)⟩) ?_)
  ·rintro x c st2 x1 x2 ⟨rfl,b2,sg2,hp⟩
   refine wpS_bind (wpS_get ?_)
   by_cases c1:(pendingOf st2).size≤1
   ·rw[if_pos c1]
    exact wpS_pure ⟨rfl,b2,sg2,c1⟩
   rw[if_neg c1]
   refine wpS_bind (w_at O b2 sg2 (Nat.le_refl _) ?_ fun st3 b3 sg3 p3 _=>wpS_pure ⟨rfl,b3,sg3,by (first|assumption|lia)⟩)
   exact lt_ite (by (first|assumption|lia)) (by (first|assumption|lia))
  ·rintro c st2 ⟨rfl,b2,sg2,hp⟩
   exact ⟨rfl,b2,sg2,by (first|assumption|lia)⟩
  ·rintro c st2 ⟨rfl,b2,sg2,hp⟩
   refine wpS_pure (h st2 b2 ?_)
   cases hl:(pendingOf st2).toList with
   | nil=>rw[hl] at sg2;have:0=a₀.size:=sg2;(first|assumption|lia)
   | cons p r =>
    have:r=[]:=by
     have e2:(pendingOf st2).size=(pendingOf st2).toList.length:=by simp
     rw[e2,hl,List.length_cons] at hp
     exact List.length_eq_zero_iff.mp (by (first|assumption|lia))
    subst this
    rw[hl] at sg2
    obtain ⟨_,_,g3,g4⟩:=sg2
    have g4':0+p.2.1=a₀.size:=g4
    rw[g4'] at g3
    exact g3
end
end TS
set_option maxHeartbeats 4000000
namespace Srt
open PySem PySem.W PyProof.Rows
theorem zpm {α β:Type} (f:α→β):∀{l m':List β},l.Perm m'→∀m:List α,m'=m.map f→∃p:List α,p.Perm m∧l=p.map f:=by
 intro l m' h
 induction h with
 | nil=>exact fun m e=>⟨[],by rw[List.map_eq_nil_iff.mp e.symm],rfl⟩
 | cons x _ ih =>
  intro m e
  cases m with
  | nil=>cases e
  | cons y m =>
   rw[List.map_cons] at e
   injection e with e1 e2
   obtain ⟨p,p1,p2⟩:=ih m e2
   exact ⟨y::p,p1.cons y,by rw[List.map_cons,← p2,e1]⟩
 | swap x y l =>
  intro m e
  match m,e with
  | a::b::m,e =>
   rw[List.map_cons,List.map_cons] at e
   injection e with e1 e2
   injection e2 with e2 e3
   exact ⟨b::a::m,.swap _ _ _,by rw[List.map_cons,List.map_cons,e1,e2,e3]⟩
 | trans _ _ ih1 ih2 =>
  intro m e
  obtain ⟨p,p1,p2⟩:=ih2 m e
  obtain ⟨q,q1,q2⟩:=ih1 p p2
  exact ⟨q,q1.trans p1,q2⟩
noncomputable def Coh (r:Nat→Nat) (xs:List Value):Prop:=∀i j,i < xs.length→j < xs.length→xs.getD i Value.none=xs.getD j Value.none→r i=r j
open Classical in
noncomputable def rankV (r:Nat→Nat) (xs:List Value) (x:Keyed):Nat:=if h:∃i,i < xs.length∧xs.getD i Value.none=x.1 then r h.choose else 0
theorem zmu {r:Nat→Nat} {xs:List Value} (coh:Coh r xs) {x:Keyed} {i:Nat} (hi:i < xs.length) (e:xs.getD i Value.none=x.1):rankV r xs x=r i:=by
 have h:∃i,i < xs.length∧xs.getD i Value.none=x.1:=⟨i,hi,e⟩
 unfold rankV
 rw[dif_pos h]
 exact coh _ _ h.choose_spec.1 hi (h.choose_spec.2.trans e.symm)
theorem zqd (xs:List Value):(xs.toArray.zip xs.toArray).toList=(List.range xs.length).map fun i=>((xs.getD i Value.none,xs.getD i Value.none):Keyed):=by
 rw[Array.toList_zip]
 apply List.ext_getElem
 ·simp
 ·intro i h1 h2
  have h3:i < xs.length:=by simpa using h2
  simp[List.getD_eq_getElem?_getD,h3]
section
variable {P:Program} {w:World} {B:Around} {E:Value→Shared→Prop} {st:Shared}
theorem zze {r:Nat→Nat} {xs:List Value} {κ:SortKind} {sg:Shared} (h2:2≤xs.length) (coh:Coh r xs)
  (cmp:∀i j C,i < xs.length→j < xs.length→C (lt r i j) sg→kas_ask P w B κ xs i j C sg) :
  wpAny (model P w) B ((sortRuns').run (SortSt.mk' κ (xs.toArray.zip xs.toArray) #[] 7 none)) (fun y z=>∃p:Array Nat,(p.Perm (List.toArray (List.range xs.length))∧Up r p xs.length)∧(arrOf y.2).map (·.2)=outOf xs p∧failedOf y.2=none∧z=sg) E sg:=by
 have sz:(xs.toArray.zip xs.toArray).size=xs.length:=by simp
 have O:TS.Orc P w B sg κ (xs.toArray.zip xs.toArray) (rankV r xs):=fun x hx y hy C hC=>by
  rw[zqd] at hx hy
  obtain ⟨i,hi,rfl⟩:=List.mem_map.mp hx
  obtain ⟨j,hj,rfl⟩:=List.mem_map.mp hy
  rw[List.mem_range] at hi hj
  rw[zmu coh hi rfl,zmu coh hj rfl] at hC
  exact cmp i j C hi hj hC
 have run:=TS.w_runs (E:=E) (Q:=fun _ y=>∃p:Array Nat,(p.Perm (List.toArray (List.range xs.length))∧Up r p xs.length)∧(arrOf y).map (·.2)=outOf xs p∧failedOf y=none) O (st:=SortSt.mk' κ (xs.toArray.zip xs.toArray) #[] 7 none) ⟨.refl _,rfl,rfl⟩ rfl (by rw[sz];exact h2) fun y b up=>by
  obtain ⟨l,l1,l2⟩:=zpm (fun i=>((xs.getD i Value.none,xs.getD i Value.none):Keyed)) (Array.perm_iff_toList_perm.mp b.perm) _ (zqd xs)
  have ll:l.length=xs.length:=by rw[l1.length_eq,List.length_range]
  have mem:∀k,(hk:k < l.length)→l[k] < xs.length:=fun k hk=>List.mem_range.mp (l1.mem_iff.mp (List.getElem_mem hk))
  have key:∀k,k < xs.length→TS.kA (rankV r xs) (arrOf y) k=At r l.toArray k:=fun k hk=>by
   have hk':k < l.length:=by (first|assumption|lia)
   have e:(arrOf y)[k]?=some (xs.getD l[k] Value.none,xs.getD l[k] Value.none):=by
    rw[← Array.getElem?_toList,l2,List.getElem?_map,List.getElem?_eq_getElem hk']
    rfl
   rw[TS.kA_get e,zmu coh (mem k hk') rfl]
   unfold At
   simp[hk']
  refine ⟨l.toArray,⟨?_,fun i j hij hj=>?_⟩,?_,b.failed⟩
  ·exact Array.perm_iff_toList_perm.mpr (by simpa using l1)
  ·rw[← key i (by (first|assumption|lia)),← key j hj]
   exact up i j (Nat.zero_le _) hij (by rw[sz];exact hj)
  ·unfold outOf
   apply Array.toList_inj.mp
   rw[Array.toList_map,l2,List.map_map]
   rfl
 exact wpAny_mono run (fun y z hz=>by
  obtain ⟨rfl,p,a,b,c⟩:=hz
  exact ⟨p,a,b,c,rfl⟩) fun _ _ x=>x
theorem zkw (r : Nat → Nat) {d : Addr} {xs : List Value} {k : Nat} {W : Fin → Shared → Prop} (e0 : st.heap.get? d = some (seqObj "list" xs.toArray k)) (few : xs.length ≤ sizeLine) (coh : Coh r xs)
  (ask:2≤xs.length→Answers P w B r xs {st with heap:=midHeap st.heap d xs})
  (fin:∀p:Array Nat,p.Perm (List.toArray (List.range xs.length))→Up r p xs.length→W (.done (.ret .none)) {st with heap:=sortedHeap st.heap d xs (outOf xs p)}) :
  wpAny (model P w) B (Builtin.«list.sort» ⟨[.ref d],[]⟩) W E st:=by
 obtain ⟨c, ec⟩ : ∃ c, (st.heap.update d (Obj.mapSeq fun _ => (#[] : Array Value))).get? d = some (seqObj "list" #[] c) := ⟨_, get?_update_seq e0 fun _ => #[]⟩
 have em : (midHeap st.heap d xs).get? d = some (seqObj "list" #[] c) := Heap.get?_push_of_some _ (Heap.get?_push_of_some _ ec)
 have szs:xs.toArray.size=xs.length:=List.size_toArray
 rw[list_sort_plain]
 refine wpAny_bind (listItems_at e0 rfl (wpAny_bind (listUpdate_at e0 rfl (wpAny_bind (seqEpoch_at ec rfl (wpAny_bind (wpAny_newTuple (wpAny_bind (wpAny_newList (wpAny_holding ?_) (Nat.zero_le _))) (few))))) (by rw[szs];exact few) (Nat.zero_le _))))
 show wpAny (model P w) B _ W E {st with heap:=midHeap st.heap d xs}
 dsimp only
 by_cases two:xs.toArray.size < 2
 ·rw[if_pos two,if_pos two]
  rw[szs] at two
  have eo:((arrOf (SortSt.mk' general' (xs.toArray.zip xs.toArray) #[] 7 none)).map (·.2))=outOf xs (List.toArray (List.range xs.length)):=ztz two
  refine wpAny_bind (wpAny_pure (by
   rw[StateT.run_pure]
   refine wpAny_bind (wpAny_pure (wpAny_bind (seqEpoch_at em rfl (wpAny_bind (listUpdate_at em rfl ?_ (Nat.zero_le _) ?_)))))
   ·rw[if_neg (by simp)]
    refine wpAny_pure ?_
    rw[eo]
    exact fin _ (.refl _) fun i j hij hj=>Nat.le_of_eq (congrArg (At r _) (by (first|assumption|lia)))
   ·rw[eo]
    refine Nat.le_succ_of_le (Nat.le_trans (Nat.le_of_eq ?_) (few))
    unfold outOf
    simp))
 ·rw[if_neg two,if_neg two]
  rw[szs] at two
  obtain ⟨κ,kd,cmp⟩:=ask (by (first|assumption|lia))
  refine wpAny_bind (wpAny_mono (kd (fun κ' z=>κ'=κ∧z={st with heap:=midHeap st.heap d xs}) ⟨rfl,rfl⟩) (fun κ' z hz=>?_) fun _ _ x=>x.elim)
  obtain ⟨rfl,rfl⟩:=hz
  have run:=zze (E:=E) (r:=r) (xs:=xs) (κ:=κ') (sg:={st with heap:=midHeap st.heap d xs}) (by (first|assumption|lia)) coh cmp
  refine wpAny_bind (wpAny_mono run (fun yy z hz=>?_) fun _ _ x=>x)
  obtain ⟨⟨⟩,y⟩:=yy
  obtain ⟨p,hp,ho,hf,rfl⟩:=hz
  dsimp only at ho hf ⊢
  refine wpAny_bind (seqEpoch_at em rfl (wpAny_bind (listUpdate_at em rfl ?_ (Nat.zero_le _) ?_)))
  ·rw[hf,if_neg (by simp),ho]
   exact wpAny_pure (fin p hp.1 hp.2)
  ·rw[ho]
   refine Nat.le_succ_of_le (Nat.le_trans (Nat.le_of_eq ?_) (few))
   unfold outOf
   rw[List.size_toArray,List.length_map,Array.length_toList,hp.1.size_eq]
   simp
theorem zmo (r:Nat→Nat) {d:Addr} {xs:List Value} {W:Value→Shared→Prop} (isl:st.heap.IsList d xs.toArray) (few:xs.length≤sizeLine) (coh:Coh r xs)
  (ask:2≤xs.length→∀g:Heap,(∀b ob,st.heap.get? b=some ob→g.get? b=some ob)→Answers P w B.in1.in1 r xs {st with heap:=g})
  (fin:∀p:Array Nat,p.Perm (List.toArray (List.range xs.length))→Up r p xs.length→W (.ref (st.heap.objs.size+1)) {st with heap:=sortedAll st.heap xs (outOf xs p)}) :
  wpAny (model P w) B (call (.builtin "sorted") [.ref d]) W E st := by
 let g0 : Heap := (st.heap.push (seqObj "list" #[] 0)).update st.heap.objs.size (Obj.mapSeq (· ++ xs.toArray))
 have sz:g0.objs.size=st.heap.objs.size+1:=(Heap.size_update ..).trans (size_push' _ _)
 have new : (g0.push (seqObj "list" xs.toArray 0)).get? (st.heap.objs.size + 1) = some (seqObj "list" xs.toArray 0) := by
  have z := Heap.get?_push_size g0 (o := seqObj "list" xs.toArray 0) rfl
  rw[sz] at z
  exact z
 have old : ∀ b ob, st.heap.get? b = some ob → (g0.push (seqObj "list" xs.toArray 0)).get? b = some ob := fun b ob e => by
  have lt:=Heap.lt_size e
  exact Heap.get?_push_of_some _ ((Heap.get?_update_ne _ _ _ _ (Nat.ne_of_lt lt)).trans (Heap.get?_push_of_some _ e))
 have ar : argsOk "sorted" ⟨[.ref d], []⟩ := args_sorted1 _
 refine Calls.call_function_entry kind_sorted plain_sorted entry_sorted ar ?_
 unfold Builtin.«sorted»
 refine wpAny_bind (m := checkCount "sorted" 1 1 _) (wpAny_pure (wpAny_bind (collect_list isl (wpAny_bind (wpAny_newList ?_ (few))) (few))))
 show wpAny _ _ _ _ _ { st with heap := g0.push (seqObj "list" xs.toArray 0) }
 have esz:(Value.ref g0.objs.size)=Value.ref (st.heap.objs.size+1):=by rw[sz]
 rw [show ((st.heap.push (seqObj "list" #[] 0)).update st.heap.objs.size (Obj.mapSeq (· ++ xs.toArray))).objs.size = st.heap.objs.size + 1 from sz]
 refine wpAny_bind (wpAny_holding (wpAny_call_entry slot_list_sort ⟨_, new, rfl⟩ entry_list_sort (zkw r (st := { st with heap := g0.push (seqObj "list" xs.toArray 0) }) new few coh (fun two => ?_) fun p p1 p2 => ⟨_, rfl, wpAny_pure ⟨_, rfl, fin p p1 p2⟩⟩) (args_list_sort _)))
 exact ask two _ fun b ob e=>zis (Nat.ne_of_lt (Nat.lt_succ_of_lt (Heap.lt_size e))) (old b ob e)
theorem zig {T:String} {a d:Addr} {n:Nat} {It:Nat→Value→Prop} {OK:Heap→Prop} (S:KdlSrc P w T a d n It OK) (hh:B.handled=none) (ok:OK st.heap) (few:n≤sizeLine) {W:Value→Shared→Prop}
  (ask:∀xs:List Value,xs.length=n→(∀(j:Nat) (v:Value),xs[j]?=some v→It j v)→∃r:Nat→Nat,Coh r xs∧(2≤n→∀(g:Heap) (tk:Nat),(∀b ob,st.heap.get? b=some ob→g.get? b=some ob)→Answers P w B.in1.in1 r xs {st with heap:=g,toks:=tk}) ∧
   ∀ (p : Array Nat) (q : Addr) (g : Heap) (tk c : Nat), p.Perm (List.toArray (List.range xs.length)) → Up r p xs.length → (∀ b ob, st.heap.get? b = some ob → g.get? b = some ob) → (∀ b ob, st.heap.get? b = some ob → b ≠ q) → g.get? q = some (seqObj "list" (outOf xs p) c) → W (.ref q) { st with heap := g, toks := tk }) :
  wpAny (model P w) B (call (.builtin "sorted") [.ref a]) W E st := by
 have ar : argsOk "sorted" ⟨[.ref a], []⟩ := args_sorted1 _
 refine Calls.call_function_entry kind_sorted plain_sorted entry_sorted ar ?_
 unfold Builtin.«sorted»
 refine wpAny_bind (m := checkCount "sorted" 1 1 _) (wpAny_pure (wpAny_bind (kdu_collect (A := B.in1) S hh ok (few) fun g tk acc keep items => ?_)))
 have len:acc.toList.length=n:=by rw[Array.length_toList];exact items.1
 obtain ⟨r,coh,an,fin⟩:=ask acc.toList len (fun j v e=>items.2 j v (by rw[← Array.getElem?_toList];exact e))
 refine wpAny_bind (wpAny_newList ?_ (by rw[len];exact few))
 have new : (g.push (seqObj "list" acc.toList.toArray 0)).get? g.objs.size = some (seqObj "list" acc.toList.toArray 0) := Heap.get?_push_size g rfl
 have old : ∀ b ob, st.heap.get? b = some ob → (g.push (seqObj "list" acc.toList.toArray 0)).get? b = some ob := fun b ob e => Heap.get?_push_of_some _ (keep b ob e)
 have lt:∀b ob,st.heap.get? b=some ob→b≠g.objs.size:=fun b ob e=>Nat.ne_of_lt (Heap.lt_size (keep b ob e))
 show wpAny _ _ _ _ _ { st with heap := g.push (seqObj "list" acc.toList.toArray 0), toks := tk }
 refine wpAny_bind (wpAny_holding (wpAny_call_entry slot_list_sort ⟨_, new, rfl⟩ entry_list_sort (zkw r (st := { st with heap := g.push (seqObj "list" acc.toList.toArray 0), toks := tk }) new (by rw [len]; exact few) coh (fun two => ?_) fun p p1 p2 => ⟨_, rfl, wpAny_pure ⟨_, rfl, ?_⟩⟩) (args_list_sort _)))
 ·exact an (by (first|assumption|lia)) _ tk fun b ob e=>zis (lt b ob e) (old b ob e)
 ·obtain ⟨c,ec⟩:=sortedHeap_at (n:=0) (vs:=acc.toList) (out:=outOf acc.toList p) new
  refine fin p g.objs.size _ tk c p1 p2 (fun b ob e=>?_) ?_ ec
  ·rw[sortedHeap_old (lt b ob e) (Heap.lt_size (old b ob e))]
   exact old b ob e
  ·exact lt
end
end Srt
namespace L2
open PySem PySem.Spec PyProof.Rows PySem.W
theorem small10000 {n:Nat} (h:n≤1000000):n≤sizeLine:=Nat.le_trans h (by rw[sizeLine_eq];(first|assumption|lia))
theorem ziw:∀{us:List Value} {a b:List Int},IntsAre us a→IntsAre us b→a=b
 | _,_,_,.nil,.nil=>rfl
 | _,_,_,.cons x t r,.cons _ _ r'=>by rw[ziw r r']
theorem zsv {g:Heap} {ps:List (Addr × List Int)} (tup:TupsG g ps):Srt.Coh (Srt.rank (ps.map (·.2))) (ps.map fun p=>Value.ref p.1):=fun i j hi hj e=>by
 rw[List.length_map] at hi hj
 have ei:ps[i]?=some ps[i]:=List.getElem?_eq_getElem hi
 have ej:ps[j]?=some ps[j]:=List.getElem?_eq_getElem hj
 rw[zm (fun p:Addr × List Int=>Value.ref p.1) _ ei,zm (fun p:Addr × List Int=>Value.ref p.1) _ ej] at e
 injection e with e
 obtain ⟨us,o,n,a1,a2,a3,a4⟩:=tup _ (List.getElem_mem hi)
 obtain ⟨us2,o2,n2,b1,b2,b3,b4⟩:=tup _ (List.getElem_mem hj)
 rw[e,b2] at a2
 injection a2 with a2
 subst a2
 rw[b4] at a4
 injection a4 with a4 _
 have a5:us2=us:=by simpa using a4
 subst a5
 have d:=ziw a1 b1
 unfold Srt.rank
 rw[zm (fun p:Addr × List Int=>p.2) _ ei,zm (fun p:Addr × List Int=>p.2) _ ej,d]
noncomputable def rSortedAL (K:PySem.W.Frag):List V→Hp→VK→Prop:=fun xs H Q=>∃(l:Addr) (ps:List (Addr × List Int)),xs=[.ref l]∧SqL K H l (ps.map fun p=>V.ref p.1)∧ps.length≤1000000∧TupsAt K H ps ∧
 ∀(q:Addr) (qs:List (Addr × List Int)),H q=none→qs.Perm ps→(qs.map (·.2)).Pairwise (fun a b=>HT.lexLt b a=false)→Q (.ref q) (upd H q (.lst (qs.map fun p=>V.ref p.1)))
noncomputable def rSortedDAL:List V→Hp→VK→Prop:=fun xs H Q=>∃(a:Addr) (kvs:List (List Key × V)) (ks:List (List Int)),xs=[.ref a]∧Rd H a (.dT kvs)∧kvs.map (·.1)=ks.map (fun ns=>ns.map Sum.inl)∧ks.length≤1000000 ∧
 ∀(q:Addr) (qs:List (Addr × List Int)),H q=none→(qs.map (·.2)).Perm ks→(qs.map (·.2)).Pairwise (fun x y=>HT.lexLt y x=false)→(∀p∈qs,H p.1=some (.tup (p.2.map V.int)))→Q (.ref q) (upd H q (.lst (qs.map fun p=>V.ref p.1)))
section
variable {X:Cx}
theorem zme (hu : X.A.units + 64 < cLine) : CallR X (.builtin "sorted") (rSortedAL X.K) := by
 intro pins s σ H xs us Q I r h
 obtain ⟨l,ps,rfl,hl,h64,ht,q⟩:=h
 obtain ⟨u,rfl,ru⟩:=vals1 r
 cases ru
 obtain ⟨its,rv,pl,hz⟩:=I.list hl
 have eits:its=ps.map fun p=>Value.ref p.1:=by
  have e:(ps.map fun p=>V.ref p.1)=(ps.map (·.1)).map V.ref:=by rw[List.map_map];rfl
  rw[e] at rv
  rw[znv rv,List.map_map]
  rfl
 subst eits
 have tup:∀g:Heap,(∀b o,s.heap.get? b=some o→g.get? b=some o)→TupsG g ps:=fun g keep p hp=>by
  obtain ⟨us,rv',⟨o,b2,b3,n,b4⟩,_⟩:=I.tuple (ht p hp)
  exact ⟨us,o,n,zdw rv',keep _ _ b2,b3,b4⟩
 refine Srt.zmo (Srt.rank (ps.map (·.2))) pl.isList (by rw[List.length_map];exact small10000 h64) (zsv (tup s.heap fun _ _ z=>z)) (fun h2 g keep=>zxq (by show X.A.units+1+1 < cLine;(first|assumption|lia)) (by rw[List.length_map] at h2;exact h2) (tup g keep)) (fun p p1 p2=>?_)
 rw[List.length_map] at p1 p2
 obtain ⟨qs,q1,q2,q3⟩:=zrb p1 p2
 obtain ⟨e,he⟩:=sortedAll_at s.heap (ps.map fun p=>Value.ref p.1) (Srt.outOf (ps.map fun p=>Value.ref p.1) p)
 rw[q3] at he ⊢
 refine ⟨.ref (s.heap.objs.size+1),_,I.laid (a:=s.heap.objs.size+1) (o:=.lst (qs.map fun p=>V.ref p.1)) (t':=s.toks) (fun _ _ z=>sortedAll_old z) (Nat.le_succ _) ⟨?_,_,e,zgy qs,he⟩,rfl,q _ _ (I.hok.fresh (Nat.le_succ _)) q1 q2⟩
 rw[List.length_map,q1.length_eq]
 exact small10000 (by (first|assumption|lia))
theorem zkm (hc : X.calm = true) (hu : X.A.units + 64 < cLine) : CallR X (.builtin "sorted") rSortedDAL := by
 intro pins s σ H xs us Q I r h
 obtain ⟨a,kvs,ks,rfl,hd,ek,few,q⟩:=h
 obtain ⟨u,rfl,ru⟩:=vals1 r
 cases ru
 obtain ⟨z,ns,ys,rel,ob,es,ep,e1,e2,e3,e4,e5⟩:=(show ObjOk X.prog X.w H s.heap a (.dT kvs) from hd.ok I.hok)
 obtain ⟨ps,a1,a2,a3⟩:=zlz (P:=X.prog) (w:=X.w) rel ek
 have hpl:ps.length=ks.length:=by rw[← a1,List.length_map]
 have hes:es.toList.map (·.key)=ps.map fun p=>Value.ref p.1:=by rw[e4,List.map_map];exact a3
 have hsz:es.size=ps.length:=by
  have:=congrArg List.length hes
  rw[List.length_map,List.length_map,Array.length_toList] at this
  exact this
 have tup:∀g:Heap,(∀b o,s.heap.get? b=some o→g.get? b=some o)→TupsG g ps:=fun g keep p hp=>by
  obtain ⟨us,rv,⟨o,b2,b3,n,b4⟩,_⟩:=I.tuple (SqT.of (a2 p hp))
  exact ⟨us,o,n,zdw rv,keep _ _ b2,b3,b4⟩
 refine Srt.zig (Dct.zbbc ns es ep) (I.ok.hd hc) ⟨ob,e1,e2,e3⟩ (small10000 (by (first|assumption|lia))) fun vs hl hv=>?_
 have evs:vs=ps.map fun p=>Value.ref p.1:=by
  rw[← hes]
  apply List.ext_getElem?
  intro i
  by_cases hi:i < es.size
  ·have h1:vs[i]?=some vs[i]:=List.getElem?_eq_getElem (by (first|assumption|lia))
   obtain ⟨en,h2,h3⟩:=hv i _ h1
   rw[h1,h3,List.getElem?_map,Array.getElem?_toList,h2]
   rfl
  ·rw[List.getElem?_eq_none (by (first|assumption|lia)),List.getElem?_eq_none (by rw[List.length_map,Array.length_toList];(first|assumption|lia))]
 subst evs
 refine ⟨Srt.rank (ps.map (·.2)),zsv (tup s.heap fun _ _ z=>z),fun h2 g tk keep=>zxq (by show X.A.units+1+1 < cLine;(first|assumption|lia)) (by (first|assumption|lia)) (tup g keep),fun p t g tk c p1 p2 keep ne eg=>?_⟩
 rw[List.length_map] at p1 p2
 obtain ⟨qs,q1,q2,q3⟩:=zrb p1 p2
 rw[q3] at eg
 refine ⟨.ref t,_,I.laidN (o:=.lst (qs.map fun p=>V.ref p.1)) keep ne ⟨?_,_,c,zgy qs,eg⟩,rfl,q t qs (I.away ne) ((q1.map _).trans (by rw[a1])) q2 fun p hp=>a2 p (q1.mem_iff.mp hp)⟩
 rw[List.length_map,q1.length_eq]
 exact small10000 (by (first|assumption|lia))
end
end L2
set_option maxHeartbeats 4000000
namespace L2
open PySem PySem.Spec PyProof.Rows
theorem zht {κ β:Type} [DecidableEq κ] {k:κ}:∀{xs:List (κ × β)} {j:Nat} {p:β},(xs.map (·.1)).Nodup→xs[j]?=some (k,p)→xs.eraseIdx j=xs.filter fun x=>decide (x.1≠k)
 | [],_,_,_,e=>by simp at e
 | x::r,0,p,nd,e=>by
  simp at e
  subst e
  rw[List.map_cons,List.nodup_cons] at nd
  rw[List.eraseIdx_cons_zero,List.filter_cons_of_neg (by simp)]
  symm
  rw[List.filter_eq_self]
  intro y hy
  refine decide_eq_true fun z=>nd.1 ?_
  rw[← z]
  exact List.mem_map.mpr ⟨y,hy,rfl⟩
 | x::r,j+1,p,nd,e=>by
  rw[List.map_cons,List.nodup_cons] at nd
  have e':r[j]?=some (k,p):=by simpa using e
  have hx:x.1≠k:=fun z=>nd.1 (by rw[z];exact List.mem_map.mpr ⟨_,List.mem_of_getElem? e',rfl⟩)
  rw[List.eraseIdx_cons_succ,List.filter_cons_of_pos (by simpa using hx),zht nd.2 e']
theorem zos {α β:Type} (f:α→β):∀(l:List α) (j:Nat),(l.map f).eraseIdx j=(l.eraseIdx j).map f
 | [],_=>rfl
 | _::_,0=>rfl
 | x::l,j+1=>by rw[List.map_cons,List.eraseIdx_cons_succ,List.eraseIdx_cons_succ,List.map_cons,zos f l j]
section
variable {prog:Program} {w:World} {κ:Type} [DecidableEq κ] {knd:HeapKind prog w κ} {A:Around} {E:Value→Shared→Prop} {s:Shared} {d a:Addr} {k:κ} {xs:List (κ × Addr × Value)} {p:Addr × Value}
theorem ztt {W:Option DictEntry→Shared→Prop} (hu:knd.room A) (hkey:knd.is s.heap k a) (hm:s.heap.DictOfH knd d xs) (hp:atKey xs k=some p) (hsz:xs.length≤sizeLine)
  (fin:∀e h',e.val=p.2→h'.DictOfH knd d (xs.filter fun x=>decide (x.1≠k))→Heap.SameBut d s.heap h'→W (some e) {s with heap:=h',toks:=s.toks+knd.draws k}) :
  wpAny (model prog w) A (Builtin.Dict.takeOut d (.ref a)) W E s:=by
 obtain ⟨o,es,ep,ho,hc,hd,he,his,hn⟩:=hm
 unfold Builtin.Dict.takeOut
 refine wpAny_holding ?_
 refine wpAny_bind (knd.pyHash hu hkey ?_)
 refine wpAny_bind (wpAny_dictFind_heap (s:={s with toks:=s.toks+knd.draws k}) hu hkey ho hd he his hn (fun z=>?_) fun j q hj=>?_)
 ·rw[atKey_none_of_get z] at hp;cases hp
 ·have hq:q=p:=by
   have z:=atKey_of_get hn hj
   rw[hp] at z
   exact (Option.some.inj z).symm
  subst hq
  refine wpAny_bind (wpAny_dictEntries (s:={s with toks:=s.toks+knd.draws k}) ho hd ?_)
  rw[entry_at he j,hj]
  have big:es.size≤sizeLine:=by have:=size_of_entries he;(first|assumption|lia)
  refine wpAny_bind (wpAny_updateDictKeys (hz:=big) (s:={s with toks:=s.toks+knd.draws k}) ho hd (wpAny_pure (fin _ _ rfl ⟨_,_,ep+1,Heap.get?_update_self _ ho (Obj.isFreed_of_dict (Obj.data_mapDictKeys hd _)),hc.mapDictKeys _,Obj.data_mapDictKeys hd _,?_,fun x hx=>?_,?_⟩ (Heap.SameBut.update ..))))
  ·rw[← zht hn hj]
   obtain ⟨l⟩:=es
   have he':l=xs.map (entryOfKey knd):=he
   subst he'
   simp[zos]
  ·exact knd.keeps (his x (List.mem_filter.mp hx).1) ho hd (Heap.SameBut.update ..)
  ·exact List.Sublist.nodup (List.Sublist.map (fun x:κ × Addr × Value=>x.1) List.filter_sublist) hn
theorem zyj {W:Value→Shared→Prop} (hu:knd.room A.in1) (hkey:knd.is s.heap k a) (hm:s.heap.DictOfH knd d xs) (hp:atKey xs k=some p) (hsz:xs.length≤sizeLine)
  (fin:∀h',h'.DictOfH knd d (xs.filter fun x=>decide (x.1≠k))→Heap.SameBut d s.heap h'→W p.2 {s with heap:=h',toks:=s.toks+knd.draws k}) :
  wpAny (model prog w) A (call (.builtin "dict.pop") [.ref d, .ref a]) W E s := by
 have M:MeetsIn prog w (Builtin.«dict.pop» ⟨[.ref d,.ref a],[]⟩) (fun B R g=>B=A∧g=s∧∀h',h'.DictOfH knd d (xs.filter fun x=>decide (x.1≠k))→Heap.SameBut d s.heap h'→R (.ok (.ret p.2)) {s with heap:=h',toks:=s.toks+knd.draws k}) :=
  .of_wp fun B R g hq0=>by
   obtain ⟨hB,hg,q⟩:=hq0
   subst hB hg
   unfold Builtin.«dict.pop» Builtin.Dict.keyAndDefault
   refine wpAny_bind (wpAny_bind (wpAny_notOrdered_dict hm.typeIs (wpAny_pure ?_)))
   obtain ⟨o,es,ep,ho,hc,hd,he,his,hn⟩:=id hm
   have ne:es.isEmpty=false:=by
    have:=size_of_entries he
    cases xs with
    | nil=>cases hp
    | cons x r =>
     rw[List.length_cons] at this
     rw[Array.isEmpty_eq_false_iff]
     intro z
     rw[z] at this
     simp at this
   simp only[keyPart,Option.isSome_none,Bool.false_eq_true,if_false]
   refine wpAny_bind (wpAny_dictEntries ho hd (wpAny_bind (wpAny_pure ?_)))
   rw[ne]
   simp only[Bool.false_eq_true,if_false]
   refine wpAny_bind (ztt hu hkey hm hp hsz fun e h' hv dd hs=>?_)
   simp only[Option.isNone_some,Bool.false_eq_true,if_false]
   exact wpAny_bind (wpAny_letGo (wpAny_pure ⟨e.val,rfl,by rw[hv];exact q h' dd hs⟩))
 exact call_meetsIn PySem.F.slot_dict_pop hm.typeIs PySem.F.entry_dict_pop (PySem.F.args_dict_pop_2 _ _) M ⟨rfl,rfl,fin⟩
end
theorem KT.drop {H:Hp} {kvs:List (List Key × V)} {xs:List (List Key × Addr × Value)} (r:KT H kvs xs) (k:List Key):KT H (dropK kvs k) (xs.filter fun x=>decide (x.1≠k)):=by
 unfold dropK
 induction r with
 | nil=>exact .nil
 | @cons p q ps qs h t ih =>
  by_cases e:p.1=k
  ·rw[List.filter_cons_of_neg (by simp[e]),List.filter_cons_of_neg (by simp[← h.1,e])]
   exact ih
  ·rw[List.filter_cons_of_pos (by simp[e]),List.filter_cons_of_pos (by simp[← h.1,e])]
   exact .cons h ih
section
variable {X:Cx} {pins:List (Addr × Obj)} {σ:St} {H:Hp} {s:Shared} {a b:Addr} {kvs:List (List Key × V)} {k:List Key}
theorem d_popT {v:V} {Q:Value→Shared→Prop} {E:Value→Shared→Prop} (hu:X.A.units+1 < cLine) (I:Inv X pins σ H s) (e:H a=some (.dT kvs)) (eb:H b=some (.tup (k.map kV))) (l:valV kvs k=some v)
  (h : ∀ w' s', Inv X pins σ (upd H a (.dT (dropK kvs k))) s' → RelV v w' → Q w' s') : wpAny (model X.prog X.w) X.A (call (.builtin "dict.pop") [.ref a, .ref b]) Q E s := by
 obtain ⟨z,hd,xs,rel,dd⟩:=dt_of I.hok e
 obtain ⟨w',hw,rw'⟩:=RelO.some_of (v:=v) (o:=(atKey xs k).map (·.2)) (by rw[← l];exact rel.val k)
 cases hp:atKey xs k with
 | none=>rw[hp] at hw;cases hw
 | some p =>
  rw[hp] at hw
  have hw':p.2=w':=Option.some.inj hw
  subst hw'
  refine zyj (tupleKind_room_in1 hu) (key_of I.hok eb) dd hp (by rw[← Paired.length rel];exact z) fun h' dd' hs=>h _ _ ?_ rw'
  obtain ⟨q,es,ep,hq,h2,h3,h4,_,h5⟩:=dd'
  refine zsq I (by rw[e];exact True.intro) hs ⟨q,hq⟩ ⟨Nat.le_trans (List.length_filter_le _ _) z,hd,_,(rel.drop k).keeps fun c ys ec=>?_,q,es,ep,hq,h2,h3,h4,h5⟩
  rw[upd_ne (ne_of ec e (fun z=>nomatch z))]
  exact ec
end
noncomputable def tDPopT (td ty:TE):TE:=fun σ H Q=>td σ H fun x H1=>∃a,x=.ref a∧IsD H1 a∧ty σ H1 fun y H2=>∃kvs k v b,H2 a=some (.dT kvs)∧y=.ref b∧H2 b=some (.tup (k.map kV))∧valV kvs k=some v∧Q v (upd H2 a (.dT (dropK kvs k)))
section
variable {X:Cx} {o e:Expr} {apos cpos:Pos} {td ty:TE}
theorem zyo (hu : X.A.units + 1 < cLine) (ho : PE X o td) (he : PE X e ty) (m : M1 X o "pop" apos e cpos) : PE X (.Call (.Attribute o "pop" apos) [e] [] cpos) (tDPopT td ty) := by
 intro pins s σ H Q I h
 refine wpAny_Call_method m.base m.few m.line PySem.F.plainAttrs_dict PySem.F.slot_dict_pop PySem.F.type_dict_pop (thn (ho pins s σ H _ I h) fun u s1 hq0=>?_)
 obtain ⟨x,H1,I1,rx,a,ex,d,q1⟩:=hq0
 subst ex
 obtain rfl:u=Value.ref a:=rx
 obtain ⟨t1,t2,_⟩:=isD_at I1 d
 refine ⟨t1,t2,?_⟩
 rw[m.trees]
 refine Calls.callWith_builtin rfl (Calls.evalArgs_plain (Calls.spliced_cons (thn (he pins s1 σ H1 _ I1 q1) fun iv s2 ⟨y,H2,I2,ry,kvs,k,v,b,ea,ey,eb,l,q2⟩=>Calls.spliced_nil ?_)))
 subst ey
 cases (show iv=Value.ref b from ry)
 exact d_popT hu I2 ea eb l fun w' s3 I3 rw'=>⟨v,_,I3,rw',q2⟩
end
noncomputable def rCatA (K:PySem.W.Frag):R2:=fun x y H Q=>∃a b xs ys,x=.ref a∧y=.ref b∧SqT K H a xs∧SqT K H b ys∧xs.length+ys.length≤sizeLine ∧
 (xs=[]→Q (.ref b) H)∧(xs≠[]→ys=[]→Q (.ref a) H)∧(xs≠[]→ys≠[]→∀p,H p=none→Q (.ref p) (upd H p (.tup (xs++ys))))
section
variable {X:Cx}
theorem zbbz:OpR X (binaryOp .Add) (rCatA X.K):=by
 intro pins s σ H x y v u Q I rx ry h
 obtain ⟨a,b,xs,ys,rfl,rfl,ha,hb,hz,q0,q1,q2⟩:=h
 by_cases hx:xs=[]
 ·cases rx
  cases ry
  obtain ⟨its,r1,p1,_⟩:=I.tuple ha
  obtain ⟨its2,r2,p2,_⟩:=I.tuple hb
  obtain ⟨⟨cls,dd,data,sl⟩,ho,hc,n,hd⟩:=id p1
  obtain ⟨⟨cls2,dd2,data2,sl2⟩,ho2,hc2,n2,hd2⟩:=id p2
  simp only at hc hd hc2 hd2
  subst hc hd hc2 hd2
  have e:its=[]:=r1.nil_iff.mpr hx
  exact concat_meets ⟨_,ho,rfl⟩ ⟨_,ho2,rfl⟩ noFill_tuple_add seq_tuple_add PySem.F.slot_tuple_add PySem.F.entry_tuple_add (PySem.F.args_tuple_add_2 _ _)
   (tuple_addW0 a b its.toArray its2.toArray n n2 dd dd2 sl sl2 (by simp[e])) ⟨ho,ho2,⟨.ref b,H,I,rfl,q0 hx⟩⟩
 ·exact zbby pins s σ H _ _ v u Q I rx ry ⟨a,b,xs,ys,rfl,rfl,ha,hb,hx,hz,fun z=>q1 hx z,fun z=>q2 hx z⟩
end
end L2
set_option maxHeartbeats 4000000
namespace L2
open PySem PySem.Spec PyProof.Rows
section
variable {prog:Program} {w:World} {A:Around} {E:Value→Shared→Prop} {s:Shared}
theorem zvv {t sl:Addr} {its:Array Value} {vl vu:Value} {lo hi:Option Int} {W:Value→Shared→Prop} (ht:IsTup s.heap t its) (hs:s.heap.IsSliceOf sl vl vu .none) (pl:IsPart vl lo) (pu:IsPart vu hi)
  (h0:HT.sIx its.size 0 lo=0) (h1:HT.sIx its.size its.size hi=its.size) (fin:W (.ref t) s):wpAny (model prog w) A (getItem (.ref t) (.ref sl)) W E s:=by
 obtain ⟨os,hos,hcs,hds⟩:=id hs
 unfold getItem
 try with_reducible refine wpAny_holding ?_
 first | refine wpAny_bind (wpAny_pure ?_) | skip
 refine wpAny_bind (wpAny_sequenceKey ht.typeIs (by decide) ?_)
 refine wpAny_bind (wpAny_callSpecial?_slot (name := Str.ofString "__getitem__") ht.typeIs slot_tuple_getitem (wpAny_call_entry slot_tuple_getitem ht.typeIs entry_tuple_getitem ?_ (args_tuple_getitem _ _)))
 show wpAny _ _ (Builtin.Tuple.tupleItemsOf (.ref t) >>= _) _ _ s
 refine wpAny_bind (tupleItemsOf_ ht ?_)
 have hTs : s.TypeIs (.ref sl) "slice" := ⟨os, hos, hcs⟩
 refine wpAny_bind (wpAny_typeOf hTs ?_)
 rw[if_pos (by decide)]
 refine wpAny_bind (HT.zdn hs pl pu ?_)
 have yes:(((HT.sIx its.size 0 lo:Nat):Int) == 0 && (1:Int) == 1 && (HT.sIx its.size its.size hi - HT.sIx its.size 0 lo) == its.size)=true:=by
  rw[h0,h1]
  simp
 show wpAny _ _ (if (((HT.sIx its.size 0 lo:Nat):Int) == 0 && (1:Int) == 1 && (HT.sIx its.size its.size hi - HT.sIx its.size 0 lo) == its.size)=true then _ else _) _ _ s
 rw[if_pos yes]
 refine wpAny_bind (?_:wpAny _ _ (Builtin.Tuple.tupleIsExact (.ref t)) _ _ s)
 unfold Builtin.Tuple.tupleIsExact
 refine wpAny_bind (wpAny_typeOf ht.typeIs (wpAny_pure ?_))
 rw[if_pos (by decide)]
 exact wpAny_bind (wpAny_rule (wpAny_pure ⟨_,rfl,wpAny_pure fin⟩))
end
noncomputable def rSlA (K:PySem.W.Frag):V→Option Int→Option Int→Hp→VK→Prop:=fun x lo hi H Q=>∃a xs,x=.ref a∧SqT K H a xs∧(cutV xs lo hi=xs→Q (.ref a) H)∧∀p,H p=none→Q (.ref p) (upd H p (.tup (cutV xs lo hi)))
theorem zbay {X:Cx}:SlR X (rSlA X.K):=by
 intro pins s σ H x v vl vu lo hi sl Q I rx hs pl pu h
 obtain ⟨a,xs,rfl,hx,q1,q2⟩:=h
 by_cases hw:HT.sIx xs.length 0 lo=0∧HT.sIx xs.length xs.length hi=xs.length
 ·cases rx
  obtain ⟨its,r,ht,hz⟩:=I.tuple hx
  have hlen:its.toArray.size=xs.length:=by rw[List.size_toArray];exact r.length.symm
  refine ⟨"tuple", _, slot_tuple_getitem.lookup, ht.typeIs, ?_⟩
  refine zvv ht hs pl pu (by rw[hlen];exact hw.1) (by rw[hlen];exact hw.2) ⟨.ref a,H,I,rfl,q1 ?_⟩
  unfold cutV
  rw[hw.1,hw.2]
  simp
 ·exact sl_tup pins s σ H _ v vl vu lo hi sl Q I rx hs pl pu ⟨a,xs,rfl,hx,hw,q2⟩
theorem zim (ns:List Int):∀k,k≤ns.length→preSum (fun i=>ns.getD i 0) k=(ns.take k).sum
 | 0,_=>rfl
 | k+1,h=>by
  show preSum (fun i=>ns.getD i 0) k+ns.getD k 0=_
  rw[zim ns k (by (first|assumption|lia)),List.take_succ_eq_append_getElem (by (first|assumption|lia)),List.sum_append,List.getD_eq_getElem?_getD,List.getElem?_eq_getElem (by (first|assumption|lia))]
  simp
theorem zlv:∀{ns:List Int} {us:List Value} {i:Nat} {v:Value},Vals (ns.map V.int) us→us[i]?=some v→∃t,v=.int (ns.getD i 0) t
 | [],_,_,_,.nil,e=>by simp at e
 | n::ns,_,0,_,.cons r _,e=>by
  simp at e;subst e
  obtain ⟨t,rfl⟩:=r
  exact ⟨t,rfl⟩
 | n::ns,_,i+1,v,.cons _ t,e=>by
  have:=zlv (i:=i) t (by simpa using e)
  simpa using this
noncomputable def rSum (K:PySem.W.Frag):List V→Hp→VK→Prop:=fun xs H Q=>∃(a:Addr) (ns:List Int),xs=[.ref a]∧(SqL K H a (ns.map V.int)∨SqT K H a (ns.map V.int))∧Q (.int ns.sum) H
theorem zgx {X : Cx} (hc : X.calm = true) : CallR X (.builtin "sum") (rSum X.K) := by
 intro pins s σ H xs us Q I r h
 obtain ⟨a,ns,rfl,hs,q⟩:=h
 obtain ⟨u,rfl,ru⟩:=vals1 r
 cases ru
 have key:∀{its:List Value} (h':Heap) (tk:Nat) (t':Tok) (nn:Nat),nn=ns.length→(∀b o,b≠s.heap.objs.size→s.heap.get? b=some o→h'.get? b=some o) →
   EP X pins σ Q (.int (preSum (fun i=>ns.getD i 0) nn) t') {s with heap:=h',toks:=tk}:=fun h' tk t' nn hn hk=>by
  subst hn
  rw[zim ns _ (Nat.le_refl _),List.take_length]
  exact ⟨.int ns.sum,H,I.kept (t':=tk) fun b o e=>hk b o (Nat.ne_of_lt (Heap.lt_size e)) e,⟨_,rfl⟩,q⟩
 refine call_sum_walkG ?_
 rcases hs with hs | hs
 ·obtain ⟨its,rv,pl,hz⟩:=I.list hs
  have hlt:a < s.heap.objs.size:=by obtain ⟨o,n,e,_⟩:=pl;exact Heap.lt_size e
  have hl:=rv.length
  rw[List.length_map] at hl
  refine wpAny_pyIter_list pl.isList ?_
  refine ⟨s.heap.objs.size,_,[s.heap.objs.size],_,_,_,fun i=>ns.getD i 0,rfl,Walks.list (A:=X.A.in1) (I.ok.hd hc) _ a (Nat.ne_of_lt hlt) its.toArray,⟨⟨_,Heap.get?_push_size _ rfl,rfl,rfl⟩,pl.isList.push _⟩,?_,fun i v e=>zlv rv (by simpa using e),fun h' tk t' hk=>?_⟩
  ·intro b hb
   show b < (s.heap.push _).objs.size
   rw[show ∀o:Obj,(s.heap.push o).objs.size=s.heap.objs.size+1 from fun o=>by simp[Heap.push]]
   rcases List.mem_cons.mp hb with rfl | hb
   ·exact Nat.lt_succ_self _
   ·rcases List.mem_cons.mp hb with rfl | hb
    ·exact Nat.lt_succ_of_lt hlt
    ·cases hb
  ·exact key (its:=its) h' tk t' _ (by simp[hl]) fun b o hb e=>hk b o (by simpa using hb) (Heap.get?_push_of_some _ e)
 ·obtain ⟨its,rv,pl,hz⟩:=I.tuple hs
  have hlt:a < s.heap.objs.size:=pl.lt
  have hl:=rv.length
  rw[List.length_map] at hl
  have pt:s.heap.IsTuple a its.toArray:=pl
  refine wpAny_pyIter_tuple pt ?_
  refine ⟨s.heap.objs.size,_,[s.heap.objs.size],_,_,_,fun i=>ns.getD i 0,rfl,Walks.tuple (A:=X.A.in1) (I.ok.hd hc) _ a (Nat.ne_of_lt hlt) its.toArray,⟨⟨_,Heap.get?_push_size _ rfl,rfl,rfl⟩,pt.push _⟩,?_,fun i v e=>zlv rv (by simpa using e),fun h' tk t' hk=>?_⟩
  ·intro b hb
   show b < (s.heap.push _).objs.size
   rw[show ∀o:Obj,(s.heap.push o).objs.size=s.heap.objs.size+1 from fun o=>by simp[Heap.push]]
   rcases List.mem_cons.mp hb with rfl | hb
   ·exact Nat.lt_succ_self _
   ·rcases List.mem_cons.mp hb with rfl | hb
    ·exact Nat.lt_succ_of_lt hlt
    ·cases hb
  ·exact key (its:=its) h' tk t' _ (by simp[hl]) fun b o hb e=>hk b o (by simpa using hb) (Heap.get?_push_of_some _ e)
end L2
set_option maxHeartbeats 4000000
namespace L2
open PySem PySem.Spec PyProof.Rows
section
variable {X:Cx} {pins:List (Addr × Obj)} {σ:St} {H:Hp} {s:Shared} {h':Heap}
end
end L2
set_option maxHeartbeats 4000000
namespace L2
open PySem PySem.Spec PyProof.Rows
section
variable {X:Cx}
end
end L2
set_option maxHeartbeats 4000000
namespace L2
open PySem PySem.Spec PyProof.Rows
noncomputable def bestI (gt:Bool) (n:Int) (ns:List Int):Int:=ns.foldl (fun i j=>if (if gt then decide (j > i) else decide (j < i))=true then j else i) n
theorem zno:∀(ns:List Int) (n:Int),bestI true n ns∈n::ns∧∀a∈n::ns,a≤bestI true n ns
 | [],n=>⟨by simp[bestI],by simp[bestI]⟩
 | m::ns,n=>by
  have e:bestI true n (m::ns)=bestI true (if m > n then m else n) ns:=by simp[bestI]
  obtain ⟨h1,h2⟩:=zno ns (if m > n then m else n)
  rw[e]
  refine ⟨?_,fun a ha=>?_⟩
  ·rcases List.mem_cons.mp h1 with z | z
   ·rw[z];split<;>simp
   ·simp[z]
  ·have h3:=h2 _ List.mem_cons_self
   rcases List.mem_cons.mp ha with rfl | ha
   ·refine Int.le_trans ?_ h3;split<;>(first|assumption|lia)
   ·rcases List.mem_cons.mp ha with rfl | ha
    ·refine Int.le_trans ?_ h3;split<;>(first|assumption|lia)
    ·exact h2 a (List.mem_cons_of_mem _ ha)
theorem ztc {n:Int} {ns:List Int} {k:Nat} (hk:k=ns.length):(n::ns).getD (argBest (fun i j=>decide ((n::ns).getD i 0 > (n::ns).getD j 0)) k) 0=bestI true n ns:=by
 subst hk
 obtain ⟨h1,h2⟩:=argBest_gt (fun i=>(n::ns).getD i 0) ns.length
 obtain ⟨g1,g2⟩:=zno ns n
 have hl:argBest (fun i j=>decide ((n::ns).getD i 0 > (n::ns).getD j 0)) ns.length < (n::ns).length:=by rw[List.length_cons];(first|assumption|lia)
 obtain ⟨j,hj,ej⟩:=List.getElem_of_mem g1
 have a1:=h2 j (by simp at hj;(first|assumption|lia))
 have a2:=g2 ((n::ns).getD (argBest (fun i j=>decide ((n::ns).getD i 0 > (n::ns).getD j 0)) ns.length) 0) (by rw[List.getD_eq_getElem?_getD,List.getElem?_eq_getElem hl];exact List.getElem_mem hl)
 have e:(n::ns).getD j 0=bestI true n ns:=by rw[List.getD_eq_getElem?_getD,List.getElem?_eq_getElem hj,ej];rfl
 rw[e] at a1
 (first|assumption|lia)
noncomputable def rBest (K:PySem.W.Frag) (gt:Bool):List V→Hp→VK→Prop:=fun xs H Q=>∃(a:Addr) (n:Int) (ns:List Int),xs=[.ref a]∧(SqL K H a ((n::ns).map V.int)∨SqT K H a ((n::ns).map V.int))∧Q (.int (bestI gt n ns)) H
section
variable {X:Cx}
theorem ztm {pins:List (Addr × Obj)} {σ:St} {H:Hp} {s:Shared} {E:Value→Shared→Prop} {a:Addr} {ns:List Int} {R:Value→Shared→Prop} (hc:X.calm=true) (I:Inv X pins σ H s) (hs:SqL X.K H a (ns.map V.int)∨SqT X.K H a (ns.map V.int))
  (h:∀I' fp wr P St s2,Walks X.prog X.w X.A.in1 I' fp wr ns.length P St→St 0 s2.heap→(∀b∈fp,b < s2.heap.objs.size)→(∀i v,P i v→∃t,v=.int (ns.getD i 0) t) →
   (∀h' tk,(∀b o,b∉wr→s2.heap.get? b=some o→h'.get? b=some o)→Inv X pins σ H {s2 with heap:=h',toks:=tk})→R (.ref I') s2) :
  wpAny (model X.prog X.w) X.A.in1 (pyIter (.ref a)) R E s:=by
 have key:∀(o:Obj) (h':Heap) (tk:Nat),(∀b u,b∉[s.heap.objs.size]→(s.heap.push o).get? b=some u→h'.get? b=some u)→Inv X pins σ H {s with heap:=h',toks:=tk}:=fun o h' tk hk =>
  I.kept (t':=tk) fun b u e=>hk b u (by simp;exact Nat.ne_of_lt (Heap.lt_size e)) (Heap.get?_push_of_some _ e)
 have low:∀(o:Obj),a < s.heap.objs.size→∀b∈[s.heap.objs.size,a],b < (s.heap.push o).objs.size:=fun o hlt b hb=>by
  rw[Heap.size_push]
  have hb':b=s.heap.objs.size∨b=a:=by simpa using hb
  rcases hb' with z | z
  ·rw[z];exact Nat.lt_succ_self _
  ·rw[z];exact Nat.lt_succ_of_lt hlt
 rcases hs with hs | hs
 ·obtain ⟨its,rv,pl,hz⟩:=I.list hs
  have hlt:a < s.heap.objs.size:=by obtain ⟨o,n,e,_⟩:=pl;exact Heap.lt_size e
  have hl:=rv.length
  rw[List.length_map] at hl
  have W:=Walks.list (prog:=X.prog) (w:=X.w) (A:=X.A.in1) (I.ok.hd hc) s.heap.objs.size a (Nat.ne_of_lt hlt) its.toArray
  rw[show its.toArray.size=ns.length from by rw[List.size_toArray];exact hl.symm] at W
  exact wpAny_pyIter_list pl.isList (h _ _ _ _ _ { s with heap := s.heap.push { cls := .type "list_iterator", data := .fields #[.ref a, .int 0 0] } } W ⟨⟨_, Heap.get?_push_size _ rfl, rfl, rfl⟩, pl.isList.push _⟩ (low _ hlt) (fun i v e => zlv rv (by simpa using e)) fun h' tk hk => key _ h' tk hk)
 ·obtain ⟨its,rv,pl,hz⟩:=I.tuple hs
  have hlt:a < s.heap.objs.size:=pl.lt
  have hl:=rv.length
  rw[List.length_map] at hl
  have pt:s.heap.IsTuple a its.toArray:=pl
  have W:=Walks.tuple (prog:=X.prog) (w:=X.w) (A:=X.A.in1) (I.ok.hd hc) s.heap.objs.size a (Nat.ne_of_lt hlt) its.toArray
  rw[show its.toArray.size=ns.length from by rw[List.size_toArray];exact hl.symm] at W
  exact wpAny_pyIter_tuple pt (h _ _ _ _ _ { s with heap := s.heap.push { cls := .type "tuple_iterator", data := .fields #[.ref a, .int 0 0] } } W ⟨⟨_, Heap.get?_push_size _ rfl, rfl, rfl⟩, pt.push _⟩ (low _ hlt) (fun i v e => zlv rv (by simpa using e)) fun h' tk hk => key _ h' tk hk)
theorem zwb (hc : X.calm = true) : CallR X (.builtin "max") (rBest X.K true) := by
 intro pins s σ H xs us Q I r h
 obtain ⟨a,n,ns,rfl,hs,q⟩:=h
 obtain ⟨u,rfl,ru⟩:=vals1 r
 cases ru
 refine call_max_walk (ztm hc I hs fun I' fp wr P St s2 W st low val keep=>?_)
 refine ⟨I',fp,wr,_,P,St,_,rfl,W,st,low,by simp,CmpOf.ints_gt (fun i=>(n::ns).getD i 0) val,fun v h' tk hP hk=>?_⟩
 obtain ⟨t,rfl⟩:=val _ _ hP
 rw[ztc (by simp)]
 exact ⟨.int (bestI true n ns),H,keep h' tk hk,⟨_,rfl⟩,q⟩
end
end L2
set_option maxHeartbeats 4000000
namespace L2
open PySem PySem.Spec PyProof.Rows
section
variable {prog:Program} {w:World} {A:Around} {E:Value→Shared→Prop} {s:Shared} {z TI TO i1 i2 t1 t2:Addr} {xs ys:Array Value} {j:Nat}
end
end L2
set_option maxHeartbeats 4000000
namespace L2
open PySem PySem.Spec PyProof.Rows
section
variable {prog:Program} {w:World} {A:Around} {E:Value→Shared→Prop} {s:Shared} {z TI TO i1 i2 t1 t2:Addr} {xs ys:Array Value} {j:Nat}
end
section
variable {prog:Program} {w:World} {A:Around} {E:Value→Shared→Prop} {s:Shared}
end
section
variable {X:Cx}
end
end L2
set_option maxHeartbeats 4000000
namespace Dd
open PySem L2
set_option genInjectivity true in
inductive D where
 | non | bl (b:Bool) | int (i:Int) | str (x:Str) | ty (n:String) | ref (n:Nat) | tup (ds:List D) | lst (ds:List D) | scr (ds:List D) | exn (c:Str) (l:List Int)
set_option genInjectivity true in
inductive O where
 /-- a list that may change;a dict by tuples of ints;one that is only read;gone -/
 | lst (xs:List D) | dT (kvs:List (List Int × D)) | fT (kvs:List (List Int × D)) | dead
noncomputable abbrev Store:=List O
structure Exc where
 cls:Str
 at_:List Int
set_option genInjectivity true in
inductive Res (α:Type) where
 | ok (a:α) (st:Store) | exc (x:Exc) (st:Store) | stuck
noncomputable def Res.bind {α β:Type}:Res α→(α→Store→Res β)→Res β
 | .ok a st,f=>f a st
 | .exc x st,_=>.exc x st
 | .stuck,_=>.stuck
@[simp] theorem zgn {α β:Type} (a:α) (st:Store) (f:α→Store→Res β):(Res.ok a st).bind f=f a st:=rfl
@[simp] theorem zbef {α β:Type} (x:Exc) (st:Store) (f:α→Store→Res β):(Res.exc x st:Res α).bind f=.exc x st:=rfl
@[simp] theorem zbdu {α β:Type} (f:α→Store→Res β):(Res.stuck:Res α).bind f=.stuck:=rfl
theorem zc {α β:Type} {r:Res α} {f:α→Store→Res β} {b:β} {st':Store} (h:r.bind f=.ok b st'):∃a st,r=.ok a st∧f a st=.ok b st':=by
 cases r with
 | ok a st=>exact ⟨a,st,rfl,h⟩
 | exc x st=>cases h
 | stuck=>cases h
noncomputable abbrev DS:=List (Option D)
noncomputable abbrev SE:=DS→Store→Res D
noncomputable abbrev ST:=DS→Store→Res Bool
noncomputable abbrev SA:=DS→Store→Res (List D)
set_option genInjectivity true in
inductive Fl where
 | nx (σ:DS) | ret (v:D) | brk (σ:DS) | ct (σ:DS)
noncomputable abbrev SS:=DS→Store→Res Fl
noncomputable abbrev DFn:=List D→Store→Res D
structure Loc where
 m:List (Option Addr)
 g:List Addr
noncomputable def Out (ρ:Loc) (a:Addr):Prop:=some a∉ρ.m∧a∉ρ.g
noncomputable def Ls (K:PySem.W.Frag) (ρ:Loc) (H:Hp) (a:Addr) (vs:List V):Prop:=(Rd H a (.lst vs)∧Out ρ a)∨∀H':Hp,SqL K H' a vs
noncomputable def XAt (K:PySem.W.Frag) (ρ:Loc) (H:Hp) (c:Str) (l:List Int) (a:Addr):Prop:=∃C o,PySem.W.nsIn K mainGlobals c=some (some (.ref C))∧(H a=some (.frz o (.ext fun _=>True))∧Out ρ a)∧o.cls=.ref C∧(∃vs,o.data=.fields vs) ∧
 ((l = [] ∧ o.dict = none) ∨ ∃ i dx od, l = [i] ∧ o.dict = some dx ∧ H dx = some (.frz od (.xd [("at", .int i)])) ∧ Out ρ dx)
theorem XAt.map {K:PySem.W.Frag} {ρ ρ':Loc} {H H':Hp} {c:Str} {l:List Int} {a:Addr} (h:XAt K ρ H c l a) (f:∀b ob u,H b=some (.frz ob u)→Out ρ b→H' b=some (.frz ob u)∧Out ρ' b):XAt K ρ' H' c l a:=by
 obtain ⟨C,o,h1,h2,h3,h4,h5⟩:=h
 refine ⟨C,o,h1,f _ _ _ h2.1 h2.2,h3,h4,?_⟩
 rcases h5 with h5 | ⟨i,dx,od,h6,h7,h8,h9⟩
 ·exact .inl h5
 ·exact .inr ⟨i,dx,od,h6,h7,(f _ _ _ h8 h9).1,(f _ _ _ h8 h9).2⟩
mutual
inductive At (K:PySem.W.Frag) (ρ:Loc) (H:Hp):D→V→Prop
 | non:At K ρ H .non .non
 | bl (b:Bool):At K ρ H (.bl b) (.bl b)
 | int (i:Int):At K ρ H (.int i) (.int i)
 | str (x:Str):At K ρ H (.str x) (.str x)
 | ty (n:String):At K ρ H (.ty n) (.ty n)
 | ref {n:Nat} {v:V}:n < ρ.m.length→(∀a,ρ.m[n]?=some (some a)→v=.ref a)→At K ρ H (.ref n) v
 | tup {a:Addr} {ds:List D} {vs:List V}:H a=some (.tup vs)→Out ρ a→AtAll K ρ H ds vs→At K ρ H (.tup ds) (.ref a)
 | lst {a:Addr} {ds:List D} {vs:List V}:H a=some (.lst vs)→Out ρ a→AtAll K ρ H ds vs→At K ρ H (.lst ds) (.ref a)
 | scr {a:Addr} {ds:List D} {vs:List V}:Ls K ρ H a vs→AtAll K ρ H ds vs→At K ρ H (.scr ds) (.ref a)
 | exn {c:Str} {l:List Int} {a:Addr}:XAt K ρ H c l a→At K ρ H (.exn c l) (.ref a)
inductive AtAll (K:PySem.W.Frag) (ρ:Loc) (H:Hp):List D→List V→Prop
 | nil:AtAll K ρ H [] []
 | cons {d:D} {ds:List D} {v:V} {vs:List V}:At K ρ H d v→AtAll K ρ H ds vs→AtAll K ρ H (d::ds) (v::vs)
end
structure Mv (ρ:Loc) (H:Hp) (ρ':Loc) (H':Hp):Prop where
 out:∀{a:Addr} {o:HO},H a=some o→Out ρ a→H' a=some o∧Out ρ' a
 len:ρ.m.length≤ρ'.m.length
 old:∀(n:Nat) (a:Addr),n < ρ.m.length→ρ'.m[n]?=some (some a)→ρ.m[n]?=some (some a)
theorem Ls.mv {K:PySem.W.Frag} {ρ ρ':Loc} {H H':Hp} {a:Addr} {vs:List V} (x:Mv ρ H ρ' H') (h:Ls K ρ H a vs):Ls K ρ' H' a vs:=by
 rcases h with ⟨h | ⟨o,h⟩,n⟩ | h
 ·exact .inl ⟨.inl (x.out h n).1,(x.out h n).2⟩
 ·exact .inl ⟨.inr ⟨o,(x.out h n).1⟩,(x.out h n).2⟩
 ·exact .inr h
theorem At.mv {K:PySem.W.Frag} {ρ ρ':Loc} {H H':Hp} (x:Mv ρ H ρ' H') {d:D} {v:V} (h:At K ρ H d v):At K ρ' H' d v :=
 At.rec (motive_1:=fun d v _=>At K ρ' H' d v) (motive_2:=fun d v _=>AtAll K ρ' H' d v) .non .bl .int .str .ty (fun h e=>.ref (Nat.lt_of_lt_of_le h x.len) fun a q=>e a (x.old _ a h q)) (fun h n _ ih=>.tup (x.out h n).1 (x.out h n).2 ih) (fun h n _ ih=>.lst (x.out h n).1 (x.out h n).2 ih) (fun h _ ih=>.scr (h.mv x) ih) (fun h=>.exn (h.map fun _ _ _ e n=>x.out e n)) .nil (fun _ _ a b=>.cons a b) h
theorem AtAll.mv {K:PySem.W.Frag} {ρ ρ':Loc} {H H':Hp} (x:Mv ρ H ρ' H') {d:List D} {v:List V} (h:AtAll K ρ H d v):AtAll K ρ' H' d v :=
 AtAll.rec (motive_1:=fun _ _ _=>True) (motive_2:=fun d v _=>AtAll K ρ' H' d v) trivial (fun _=>trivial) (fun _=>trivial) (fun _=>trivial) (fun _=>trivial) (fun _ _=>trivial) (fun _ _ _ _=>trivial) (fun _ _ _ _=>trivial) (fun _ _ _=>trivial) (fun _=>trivial) .nil (fun a _ _ b=>.cons (a.mv x) b) h
structure Ext (ρ:Loc) (H:Hp) (ρ':Loc) (H':Hp):Prop where
 len:ρ.m.length≤ρ'.m.length
 old:∀(n:Nat) (a:Addr),n < ρ.m.length→ρ'.m[n]?=some (some a)→ρ.m[n]?=some (some a)
 keep:∀a o,H a=some o→some a∉ρ.m→H' a=some o∧some a∉ρ'.m
 gho:ρ'.g=ρ.g
 frz:∀a ob u,H a=some (.frz ob u)→H' a=some (.frz ob u)
theorem Ext.out {ρ ρ':Loc} {H H':Hp} (x:Ext ρ H ρ' H') {a:Addr} {o:HO} (h:H a=some o) (n:Out ρ a):H' a=some o∧Out ρ' a :=
 ⟨(x.keep a o h n.1).1,(x.keep a o h n.1).2,by rw[x.gho];exact n.2⟩
theorem Ext.mv {ρ ρ':Loc} {H H':Hp} (x:Ext ρ H ρ' H'):Mv ρ H ρ' H':=⟨fun h n=>x.out h n,x.len,x.old⟩
theorem Ls.sq {K:PySem.W.Frag} {ρ:Loc} {H:Hp} {a:Addr} {vs:List V} (h:Ls K ρ H a vs):SqL K H a vs:=by
 rcases h with h | h
 ·exact .inl h.1
 ·exact h H
section
variable {K:PySem.W.Frag}
theorem Ext.refl (ρ:Loc) (H:Hp):Ext ρ H ρ H:=⟨Nat.le_refl _,fun _ _ _ e=>e,fun _ _ e n=>⟨e,n⟩,rfl,fun _ _ _ e=>e⟩
theorem Ext.trans {ρ ρ1 ρ2:Loc} {H H1 H2:Hp} (a:Ext ρ H ρ1 H1) (b:Ext ρ1 H1 ρ2 H2):Ext ρ H ρ2 H2 :=
 ⟨Nat.le_trans a.len b.len,fun n c h e=>a.old n c h (b.old n c (Nat.lt_of_lt_of_le h a.len) e),fun c o e n=>by
  obtain ⟨e1,n1⟩:=a.keep c o e n
  exact b.keep c o e1 n1,b.gho.trans a.gho,fun c ob u e=>b.frz c ob u (a.frz c ob u e)⟩
theorem At.ext {ρ ρ':Loc} {H H':Hp} (x:Ext ρ H ρ' H') {d:D} {v:V} (h:At K ρ H d v):At K ρ' H' d v:=h.mv x.mv
theorem AtAll.ext {ρ ρ':Loc} {H H':Hp} (x:Ext ρ H ρ' H') {d:List D} {v:List V} (h:AtAll K ρ H d v):AtAll K ρ' H' d v:=h.mv x.mv
theorem AtAll.length {ρ:Loc} {H:Hp}:∀{ds:List D} {vs:List V},AtAll K ρ H ds vs→vs.length=ds.length
 | _,_,.nil=>rfl
 | _,_,.cons _ t=>by rw[List.length_cons,List.length_cons,AtAll.length t]
theorem AtAll.get {ρ:Loc} {H:Hp}:∀{ds:List D} {vs:List V} {i:Nat} {d:D},AtAll K ρ H ds vs→ds[i]?=some d→∃v,vs[i]?=some v∧At K ρ H d v
 | _,_,_,_,.nil,e=>by simp at e
 | _,_,0,_,.cons a _,e=>by simp at e;subst e;exact ⟨_,rfl,a⟩
 | _,_,i+1,d,.cons _ t,e=>by
  obtain ⟨u,h1,h2⟩:=AtAll.get (i:=i) (d:=d) t (by simpa using e)
  exact ⟨u,by simpa using h1,h2⟩
theorem AtAll.append {ρ:Loc} {H:Hp}:∀{ds es:List D} {vs us:List V},AtAll K ρ H ds vs→AtAll K ρ H es us→AtAll K ρ H (ds++es) (vs++us)
 | _,_,_,_,.nil,b=>b
 | _,_,_,_,.cons a t,b=>.cons a (AtAll.append t b)
theorem AtAll.take {ρ:Loc} {H:Hp}:∀{ds:List D} {vs:List V} (n:Nat),AtAll K ρ H ds vs→AtAll K ρ H (ds.take n) (vs.take n)
 | _,_,0,_=>.nil
 | _,_,_+1,.nil=>.nil
 | _,_,n+1,.cons a t=>.cons a (AtAll.take n t)
theorem AtAll.drop {ρ:Loc} {H:Hp}:∀{ds:List D} {vs:List V} (n:Nat),AtAll K ρ H ds vs→AtAll K ρ H (ds.drop n) (vs.drop n)
 | _,_,0,h=>h
 | _,_,_+1,.nil=>.nil
 | _,_,n+1,.cons a t=>AtAll.drop n t
theorem AtAll.set {ρ:Loc} {H:Hp} {d:D} {v:V} (a:At K ρ H d v):∀{ds:List D} {vs:List V} (n:Nat),AtAll K ρ H ds vs→AtAll K ρ H (ds.set n d) (vs.set n v)
 | _,_,_,.nil=>.nil
 | _,_,0,.cons _ t=>.cons a t
 | _,_,n+1,.cons b t=>.cons b (AtAll.set a n t)
noncomputable def KvAt (K:PySem.W.Frag) (ρ:Loc) (H:Hp):List (List Int × D)→List (List Key × V)→Prop:=Paired fun p q=>q.1=p.1.map Sum.inl∧At K ρ H p.2 q.2
theorem KvAt.ext {ρ ρ':Loc} {H H':Hp} (x:Ext ρ H ρ' H') {a:List (List Int × D)} {b:List (List Key × V)} (h:KvAt K ρ H a b):KvAt K ρ' H' a b:=Paired.mapP h fun p q z=>⟨z.1,z.2.ext x⟩
noncomputable def OAt (K:PySem.W.Frag) (ρ:Loc) (H:Hp):O→Addr→Prop
 | .lst xs,a=>∃vs,H a=some (.lst vs)∧AtAll K ρ H xs vs
 | .dT kvs,a=>∃vs,H a=some (.dT vs)∧KvAt K ρ H kvs vs
 | .fT kvs,a=>∃vs ob,H a=some (.frz ob (.dT vs))∧KvAt K ρ H kvs vs
 | .dead,_=>False
structure Rep (K:PySem.W.Frag) (ρ:Loc) (st:Store) (H:Hp):Prop where
 len:ρ.m.length=st.length
 inj:∀(n m:Nat) (a:Addr),ρ.m[n]?=some (some a)→ρ.m[m]?=some (some a)→n=m
 obj:∀(n:Nat) (a:Addr) (o:O),ρ.m[n]?=some (some a)→st[n]?=some o→OAt K ρ H o a
 gh:∀a∈ρ.g,(∃vs,H a=some (.lst vs))∧some a∉ρ.m
 live:∀(n:Nat) (o:O),st[n]?=some o→o≠.dead→∃a,ρ.m[n]?=some (some a)
noncomputable def AtO (K:PySem.W.Frag) (ρ:Loc) (H:Hp) (o:Option D) (v:Option V):Prop:=∀d,o=some d→∃u,v=some u∧At K ρ H d u
noncomputable abbrev AtS (K:PySem.W.Frag) (ρ:Loc) (H:Hp):DS→St→Prop:=Paired (AtO K ρ H)
theorem AtS.ext {ρ ρ':Loc} {H H':Hp} (x:Ext ρ H ρ' H') {σ:DS} {τ:St} (h:AtS K ρ H σ τ):AtS K ρ' H' σ τ:=Paired.mapP h fun o v z d e=>by
 obtain ⟨u,e1,a⟩:=z d e
 exact ⟨u,e1,a.ext x⟩
theorem AtS.get {ρ:Loc} {H:Hp}:∀{σ:DS} {τ:St} {i:Nat} {d:D},AtS K ρ H σ τ→σ[i]?=some (some d)→∃u,τ[i]?=some (some u)∧At K ρ H d u
 | _,_,_,_,.nil,e=>by simp at e
 | _,_,0,_,.cons a _,e=>by
  simp at e;subst e
  obtain ⟨u,e1,h⟩:=a _ rfl
  exact ⟨u,by simp[e1],h⟩
 | _,_,i+1,d,.cons _ t,e=>by
  obtain ⟨u,h1,h2⟩:=AtS.get (i:=i) (d:=d) t (by simpa using e)
  exact ⟨u,by simpa using h1,h2⟩
theorem AtS.set {ρ:Loc} {H:Hp} {d:D} {v:V} (a:At K ρ H d v):∀{σ:DS} {τ:St} (i:Nat),AtS K ρ H σ τ→AtS K ρ H (σ.set i (some d)) (τ.set i (some v))
 | _,_,_,.nil=>.nil
 | _,_,0,.cons _ t=>.cons (fun d' e=>by cases e;exact ⟨v,rfl,a⟩) t
 | _,_,i+1,.cons q t=>.cons q (AtS.set a i t)
end
noncomputable def tD (K:PySem.W.Frag) (f:SE):TE:=fun τ H Q=>∃ρ σ st v st',AtS K ρ H σ τ∧Rep K ρ st H∧f σ st=.ok v st'∧∀ρ' H' u,Ext ρ H ρ' H'→Rep K ρ' st' H'→At K ρ' H' v u→Q u H'
noncomputable def tDT (K:PySem.W.Frag) (f:ST):TT:=fun τ H Q=>∃ρ σ st v st',AtS K ρ H σ τ∧Rep K ρ st H∧f σ st=.ok v st'∧∀ρ' H',Ext ρ H ρ' H'→Rep K ρ' st' H'→Q v H'
noncomputable def tDA (K:PySem.W.Frag) (f:SA):TA:=fun τ H Q=>∃ρ σ st v st',AtS K ρ H σ τ∧Rep K ρ st H∧f σ st=.ok v st'∧∀ρ' H' u,Ext ρ H ρ' H'→Rep K ρ' st' H'→AtAll K ρ' H' v u→Q u H'
noncomputable def FlOk (K:PySem.W.Frag) (ρ:Loc) (H:Hp) (st':Store) (E:Ends):Fl→Prop
 | .nx σ=>∀ρ' H' τ,Ext ρ H ρ' H'→Rep K ρ' st' H'→AtS K ρ' H' σ τ→E.nx τ H'
 | .brk σ=>∀ρ' H' τ,Ext ρ H ρ' H'→Rep K ρ' st' H'→AtS K ρ' H' σ τ→E.bk τ H'
 | .ct σ=>∀ρ' H' τ,Ext ρ H ρ' H'→Rep K ρ' st' H'→AtS K ρ' H' σ τ→E.ct τ H'
 | .ret v=>∀ρ' H' u,Ext ρ H ρ' H'→Rep K ρ' st' H'→At K ρ' H' v u→E.rt u H'
theorem FlOk.ext {K:PySem.W.Frag} {ρ ρ1:Loc} {H H1:Hp} {st':Store} {E:Ends} {fl:Fl} (x:Ext ρ H ρ1 H1) (h:FlOk K ρ H st' E fl):FlOk K ρ1 H1 st' E fl:=by
 cases fl with
 | nx σ=>exact fun ρ' H' τ e=>h ρ' H' τ (x.trans e)
 | brk σ=>exact fun ρ' H' τ e=>h ρ' H' τ (x.trans e)
 | ct σ=>exact fun ρ' H' τ e=>h ρ' H' τ (x.trans e)
 | ret v=>exact fun ρ' H' τ e=>h ρ' H' τ (x.trans e)
noncomputable def tDS (K:PySem.W.Frag) (f:SS):TS:=fun E τ H=>∃ρ σ st fl st',AtS K ρ H σ τ∧Rep K ρ st H∧f σ st=.ok fl st'∧FlOk K ρ H st' E fl
noncomputable abbrev DE (X:Cx) (e:Expr) (f:SE):Prop:=PE X e (tD X.K f)
noncomputable abbrev DT (X:Cx) (e:Expr) (f:ST):Prop:=PT X e (tDT X.K f)
noncomputable abbrev DW (X:Cx) (e:Expr) (f:ST):Prop:=PW X e (tDT X.K f)
noncomputable abbrev DA (X:Cx) (es:List Expr) (f:SA):Prop:=PA X es (tDA X.K f)
noncomputable abbrev DSt (X:Cx) (s:Stmt) (f:SS):Prop:=PS X s (tDS X.K f)
noncomputable abbrev DSs (X:Cx) (s:List Stmt) (f:SS):Prop:=PSs X s (tDS X.K f)
section
variable {X:Cx} {e:Expr} {es:List Expr} {s:Stmt} {ss:List Stmt}
theorem pe_to {t t':TE} (h:PE X e t) (k:∀σ H Q,t' σ H Q→t σ H Q):PE X e t':=fun pins s σ H Q I q=>h pins s σ H Q I (k _ _ _ q)
theorem pt_to {t t':TT} (h:PT X e t) (k:∀σ H Q,t' σ H Q→t σ H Q):PT X e t':=fun pins s σ H Q I q=>h pins s σ H Q I (k _ _ _ q)
theorem pw_to {t t':TT} (h:PW X e t) (k:∀σ H Q,t' σ H Q→t σ H Q):PW X e t':=fun wh pins s σ H Q I q=>h wh pins s σ H Q I (k _ _ _ q)
theorem pa_to {t t':TA} (h:PA X es t) (k:∀σ H Q,t' σ H Q→t σ H Q):PA X es t':=fun pos pins s σ H Q I q=>h pos pins s σ H Q I (k _ _ _ q)
theorem ps_to {t t':TS} (h:PS X s t) (k:∀E σ H,t' E σ H→t E σ H):PS X s t':=fun pins z σ H E I q=>h pins z σ H E I (k _ _ _ q)
theorem pss_to {t t':TS} (h:PSs X ss t) (k:∀E σ H,t' E σ H→t E σ H):PSs X ss t':=fun pins z σ H E I q=>h pins z σ H E I (k _ _ _ q)
end
noncomputable def eVar (i:Nat):SE:=fun σ st=>match σ[i]? with
 | some (some d)=>.ok d st
 | _=>.stuck
noncomputable def eC (d:D):SE:=fun _ st=>.ok d st
section
variable {X:Cx}
theorem d_var {e:Expr} {i:Nat} (h:PE X e (tVar i)):DE X e (eVar i):=pe_to h fun τ H Q hq0=>by
 obtain ⟨ρ,σ,st,v,st',a,r,e,q⟩:=hq0
 unfold eVar at e
 split at e
 ·rename_i d hd
  cases e
  obtain ⟨u,e1,e2⟩:=a.get hd
  exact ⟨u,e1,q ρ H u (.refl _ _) r e2⟩
 ·cases e
theorem d_con {e:Expr} {v:V} {d:D} (h:PE X e (tC v)) (k:∀ρ H,At X.K ρ H d v):DE X e (eC d):=pe_to h fun τ H Q hq0=>by
 obtain ⟨ρ,σ,st,v,st',a,r,e,q⟩:=hq0
 cases e
 exact q ρ H _ (.refl _ _) r (k _ _)
theorem d_int {i j pos}:DE X (.Constant (.int i) j pos) (eC (.int i)):=d_con pe_int fun _ _=>.int i
theorem d_bl {b j pos}:DE X (.Constant (.bool b) j pos) (eC (.bl b)):=d_con pe_bl fun _ _=>.bl b
theorem d_non {j pos}:DE X (.Constant .none j pos) (eC .non):=d_con pe_non fun _ _=>.non
end
noncomputable def eOp (g:D→D→Store→Res D) (f f':SE):SE:=fun σ st=>(f σ st).bind fun x st1=>(f' σ st1).bind fun y st2=>g x y st2
noncomputable def eUn (g:D→Store→Res D) (f:SE):SE:=fun σ st=>(f σ st).bind fun x st1=>g x st1
noncomputable def OpD (K:PySem.W.Frag) (g:D→D→Store→Res D) (r:R2):Prop :=
 ∀ρ H st x y u v z st' (Q:VK),Rep K ρ st H→At K ρ H x u→At K ρ H y v→g x y st=.ok z st'→(∀ρ' H' w,Ext ρ H ρ' H'→Rep K ρ' st' H'→At K ρ' H' z w→Q w H')→r u v H Q
theorem opd_t {K:PySem.W.Frag} {g:D→D→Store→Res D} {r:R2} (hr:OpD K g r) {f f':SE}:∀τ H Q,tD K (eOp g f f') τ H Q→tOp r (tD K f) (tD K f') τ H Q:=fun τ H Q hq0=>by
 obtain ⟨ρ,σ,st,v,st',a,rp,e,q⟩:=hq0
 obtain ⟨x,st1,e1,e⟩:=zc e
 obtain ⟨y,st2,e2,e⟩:=zc e
 refine ⟨ρ,σ,st,x,st1,a,rp,e1,fun ρ1 H1 u x1 rp1 a1=>?_⟩
 refine ⟨ρ1,σ,st1,y,st2,a.ext x1,rp1,e2,fun ρ2 H2 w x2 rp2 a2=>?_⟩
 exact hr ρ2 H2 st2 x y u w v st' Q rp2 (a1.ext x2) a2 e fun ρ' H' z x3 rp3 a3=>q ρ' H' z (x1.trans (x2.trans x3)) rp3 a3
section
variable {X:Cx} {a b c:Expr} {f f' f'':SE} {pos:Pos}
theorem d_op {op:Operator} {r:R2} {g:D→D→Store→Res D} (ho:OpR X (binaryOp op) r) (hr:OpD X.K g r) (ha:DE X a f) (hb:DE X b f'):DE X (.BinOp a op b pos) (eOp g f f'):=pe_to (pe_op ho ha hb) (opd_t hr)
theorem d_cmp {op:CmpOp} {r:R2} {g:D→D→Store→Res D} (ho:OpR X (compareOp op) r) (hr:OpD X.K g r) (ha:DE X a f) (hb:DE X b f') (hm:behindInMarks op b=false):DE X (.Compare a [op] [b] pos) (eOp g f f'):=pe_to (zbbt ho ha hb hm) (opd_t hr)
noncomputable def eB (f:SE):ST:=fun σ st=>(f σ st).bind fun v st1=>match v with
 | .bl b=>.ok b st1
 | _=>.stuck
theorem eB_t {K:PySem.W.Frag} {f:SE}:∀τ H Q,tDT K (eB f) τ H Q→tD K f τ H fun x H1=>∃c,x=.bl c∧Q c H1:=fun τ H Q hq0=>by
 obtain ⟨ρ,σ,st,v,st',a,rp,e,q⟩:=hq0
 obtain ⟨x,st1,e1,e⟩:=zc e
 refine ⟨ρ,σ,st,x,st1,a,rp,e1,fun ρ1 H1 u x1 rp1 a1=>?_⟩
 cases x<;>try (cases e;done)
 cases e
 cases a1
 exact ⟨_,rfl,q _ _ x1 rp1⟩
theorem dt_cmp {op:CmpOp} {r:R2} {g:D→D→Store→Res D} (ho:OpR X (compareOp op) r) (hr:OpD X.K g r) (ha:DE X a f) (hb:DE X b f') (hm:behindInMarks op b=false):DT X (.Compare a [op] [b] pos) (eB (eOp g f f')) :=
 pt_to (zbbd ho ha hb hm) fun τ H Q h=>opd_t hr _ _ _ (eB_t _ _ _ h)
noncomputable def eChain (g g':D→D→Store→Res D) (f f' f'':SE):SE:=fun σ st=>(f σ st).bind fun x st1=>(f' σ st1).bind fun y st2=>(g x y st2).bind fun z st3=>match z with
 | .bl true=>(f'' σ st3).bind fun w st4=>g' y w st4
 | .bl false=>.ok (.bl false) st3
 | _=>.stuck
end
end Dd
set_option maxHeartbeats 4000000
namespace Dd
open PySem L2
section
variable {K:PySem.W.Frag} {ρ:Loc} {st:Store} {H:Hp} {p a:Addr} {o:HO} {n:Nat}
theorem Ext.new (hp:H p=none) (o:HO):Ext ρ H ρ (upd H p o):=⟨Nat.le_refl _,fun _ _ _ e=>e,fun b u e m=>⟨by rw[upd_ne (zo e hp)];exact e,m⟩,rfl,fun b ob u e=>by rw[upd_ne (zo e hp)];exact e⟩
theorem zgf {vs:List V} (h:H a=some (.lst vs)):∀ob u,H a≠some (.frz ob u):=fun ob u z=>by rw[h] at z;cases z
theorem zir {vs:List (List Key × V)} (h:H a=some (.dT vs)):∀ob u,H a≠some (.frz ob u):=fun ob u z=>by rw[h] at z;cases z
theorem Ext.wr (h:ρ.m[n]?=some (some a)) (hz:∀ob u,H a≠some (.frz ob u)) (o:HO):Ext ρ H ρ (upd H a o):=⟨Nat.le_refl _,fun _ _ _ e=>e,fun b u e m=>⟨by
 rw[upd_ne]
 ·exact e
 ·rintro rfl
  exact m (List.mem_of_getElem? h),m⟩,rfl,fun b ob u e=>by
 rw[upd_ne]
 ·exact e
 ·rintro rfl
  exact hz _ _ e⟩
theorem OAt.has {x:O} (h:OAt K ρ H x a):∃u,H a=some u:=by
 cases x with
 | lst xs=>obtain ⟨vs,e,_⟩:=h;exact ⟨_,e⟩
 | dT kvs=>obtain ⟨vs,e,_⟩:=h;exact ⟨_,e⟩
 | fT kvs=>obtain ⟨vs,ob,e,_⟩:=h;exact ⟨_,e⟩
 | dead=>exact h.elim
theorem OAt.ext {ρ':Loc} {H':Hp} {x:O} (e:Ext ρ H ρ' H') (same:H' a=H a) (h:OAt K ρ H x a):OAt K ρ' H' x a:=by
 cases x with
 | lst xs=>obtain ⟨vs,q,r⟩:=h;exact ⟨vs,by rw[same];exact q,r.ext e⟩
 | dT kvs=>obtain ⟨vs,q,r⟩:=h;exact ⟨vs,by rw[same];exact q,r.ext e⟩
 | fT kvs=>obtain ⟨vs,ob,q,r⟩:=h;exact ⟨vs,ob,by rw[same];exact q,r.ext e⟩
 | dead=>exact h.elim
theorem Rep.has (r:Rep K ρ st H) (h:ρ.m[n]?=some (some a)):∃x,st[n]?=some x∧OAt K ρ H x a:=by
 have hn:n < st.length:=by rw[← r.len];exact (List.getElem?_eq_some_iff.mp h).1
 exact ⟨st[n],List.getElem?_eq_getElem hn,r.obj n a _ h (List.getElem?_eq_getElem hn)⟩
theorem Rep.new (r:Rep K ρ st H) (hp:H p=none) (o:HO):Rep K ρ st (upd H p o):=⟨r.len,r.inj,fun m b x e1 e2=>by
 have q:=r.obj m b x e1 e2
 obtain ⟨u,hu⟩:=q.has
 exact q.ext (Ext.new hp o) (upd_ne (zo hu hp)),fun b hb=>by
 obtain ⟨⟨u,hu⟩,n⟩:=r.gh b hb
 exact ⟨⟨u,by rw[upd_ne (zo hu hp)];exact hu⟩,n⟩,r.live⟩
theorem Rep.wr (r:Rep K ρ st H) (h:ρ.m[n]?=some (some a)) (hz:∀ob u,H a≠some (.frz ob u)) {x:O} {o:HO} (q:OAt K ρ (upd H a o) x a):Rep K ρ (st.set n x) (upd H a o):=⟨by rw[r.len,List.length_set],r.inj,fun m b y e1 e2=>by
 by_cases hm:m=n
 ·subst hm
  have hb:b=a:=by rw[h] at e1;exact (Option.some.inj (Option.some.inj e1)).symm
  subst hb
  have hl:m < st.length:=by rw[← r.len];exact (List.getElem?_eq_some_iff.mp h).1
  rw[List.getElem?_set_self hl] at e2
  cases e2
  exact q
 ·rw[List.getElem?_set_ne (Ne.symm hm)] at e2
  refine (r.obj m b y e1 e2).ext (Ext.wr h hz o) (upd_ne fun z=>hm ?_)
  subst z
  exact r.inj m n b e1 h,fun b hb=>by
 obtain ⟨⟨u,hu⟩,n1⟩:=r.gh b hb
 refine ⟨⟨u,?_⟩,n1⟩
 rw[upd_ne]
 ·exact hu
 ·rintro rfl
  exact n1 (List.mem_of_getElem? h),fun m y e ne=>by
 by_cases hm:m=n
 ·subst hm;exact ⟨a,h⟩
 ·rw[List.getElem?_set_ne (Ne.symm hm)] at e
  exact r.live m y e ne⟩
theorem Rep.alloc (r:Rep K ρ st H) (hp:H p=none) {x:O} {o:HO} (q:Ext ρ H ⟨ρ.m++[some p],ρ.g⟩ (upd H p o)→OAt K ⟨ρ.m++[some p],ρ.g⟩ (upd H p o) x p):Ext ρ H ⟨ρ.m++[some p],ρ.g⟩ (upd H p o)∧Rep K ⟨ρ.m++[some p],ρ.g⟩ (st++[x]) (upd H p o):=by
 have hn:∀(m:Nat) (b:Addr),(ρ.m++[some p])[m]?=some (some b)→(m < ρ.m.length∧ρ.m[m]?=some (some b))∨(m=ρ.m.length∧b=p):=fun m b e=>by
  rcases Nat.lt_or_ge m ρ.m.length with z | z
  ·rw[List.getElem?_append_left z] at e
   exact .inl ⟨z,e⟩
  ·rw[List.getElem?_append_right z] at e
   have z2:m - ρ.m.length=0:=by
    have:=(List.getElem?_eq_some_iff.mp e).1
    simp at this
    (first|assumption|lia)
   rw[z2] at e
   simp at e
   exact .inr ⟨by (first|assumption|lia),e.symm⟩
 have nl:∀(m:Nat),ρ.m[m]?≠some (some p):=fun m e=>by
  obtain ⟨x,_,q⟩:=r.has e
  obtain ⟨u,hu⟩:=q.has
  rw[hp] at hu;cases hu
 have E:Ext ρ H ⟨ρ.m++[some p],ρ.g⟩ (upd H p o):=⟨by rw[List.length_append];(first|assumption|lia),fun m b h e=>by
   rw[List.getElem?_append_left h] at e;exact e,fun b u e m=>⟨by rw[upd_ne (zo e hp)];exact e,fun z=>by
   rcases List.mem_append.mp z with z | z
   ·exact m z
   ·simp at z;subst z;rw[hp] at e;cases e⟩,rfl,fun b ob u e=>by rw[upd_ne (zo e hp)];exact e⟩
 refine ⟨E,⟨by rw[List.length_append,List.length_append,r.len];rfl,fun m k b e1 e2=>?_,fun m b y e1 e2=>?_,fun b hb=>?_,fun m y e ne=>?_⟩⟩
 ·rcases hn m b e1 with ⟨h1,q1⟩ | ⟨h1,rfl⟩
  ·rcases hn k b e2 with ⟨h2,q2⟩ | ⟨h2,rfl⟩
   ·exact r.inj m k b q1 q2
   ·exact absurd q1 (nl m)
  ·rcases hn k b e2 with ⟨h2,q2⟩ | ⟨h2,_⟩
   ·exact absurd q2 (nl k)
   ·(first|assumption|lia)
 ·rcases hn m b e1 with ⟨h1,q1⟩ | ⟨h1,rfl⟩
  ·rw[List.getElem?_append_left (by rw[← r.len];exact h1)] at e2
   have q:=r.obj m b y q1 e2
   obtain ⟨u,hu⟩:=q.has
   exact q.ext E (upd_ne (zo hu hp))
  ·rw[h1,r.len,List.getElem?_append_right (Nat.le_refl _)] at e2
   simp at e2
   subst e2
   exact q E
 ·obtain ⟨⟨u,hu⟩,n1⟩:=r.gh b hb
  refine ⟨⟨u,by rw[upd_ne (zo hu hp)];exact hu⟩,fun z=>?_⟩
  rcases List.mem_append.mp z with z | z
  ·exact n1 z
  ·simp at z
   subst z
   rw[hp] at hu;cases hu
 ·rcases Nat.lt_or_ge m st.length with z | z
  ·rw[List.getElem?_append_left z] at e
   obtain ⟨b,hb⟩:=r.live m y e ne
   exact ⟨b,by rw[List.getElem?_append_left (by rw[r.len];exact z)];exact hb⟩
  ·have z2:=(List.getElem?_eq_some_iff.mp e).1
   simp at z2
   have z3:m=ρ.m.length:=by rw[r.len];(first|assumption|lia)
   exact ⟨p,by rw[z3,List.getElem?_append_right (Nat.le_refl _)];simp⟩
theorem Rep.kill (r:Rep K ρ st H) (h:n < ρ.m.length):Ext ρ H ⟨ρ.m.set n none,ρ.g⟩ H∧Rep K ⟨ρ.m.set n none,ρ.g⟩ (st.set n .dead) H:=by
 have hn:∀(m:Nat) (b:Addr),(ρ.m.set n none)[m]?=some (some b)→m≠n∧ρ.m[m]?=some (some b):=fun m b e=>by
  by_cases z:m=n
  ·subst z;rw[List.getElem?_set_self h] at e;simp at e
  ·rw[List.getElem?_set_ne (Ne.symm z)] at e
   exact ⟨z,e⟩
 have E:Ext ρ H ⟨ρ.m.set n none,ρ.g⟩ H:=⟨by rw[List.length_set];exact Nat.le_refl _,fun m b _ e=>(hn m b e).2,fun b o e m=>⟨e,fun z=>by
  obtain ⟨i,hi,e2⟩:=List.getElem_of_mem z
  have:(ρ.m.set n none)[i]?=some (some b):=by rw[List.getElem?_eq_getElem hi,e2]
  exact m (List.mem_of_getElem? (hn i b this).2)⟩,rfl,fun _ _ _ e=>e⟩
 refine ⟨E,⟨by rw[List.length_set,List.length_set,r.len],fun m k b e1 e2=>r.inj m k b (hn m b e1).2 (hn k b e2).2,fun m b y e1 e2=>?_,fun b hb=>⟨(r.gh b hb).1,fun z=>?_⟩,fun m y e ne=>?_⟩⟩
 rotate_left
 ·obtain ⟨i,hi,e2⟩:=List.getElem_of_mem z
  have:(ρ.m.set n none)[i]?=some (some b):=by rw[List.getElem?_eq_getElem hi,e2]
  exact (r.gh b hb).2 (List.mem_of_getElem? (hn i b this).2)
 ·have z:m≠n:=by
   rintro rfl
   rw[List.getElem?_set_self (by rw[← r.len];exact h)] at e
   cases e
   exact ne rfl
  rw[List.getElem?_set_ne (Ne.symm z)] at e
  obtain ⟨b,hb⟩:=r.live m y e ne
  exact ⟨b,by rw[List.getElem?_set_ne (Ne.symm z)];exact hb⟩
 obtain ⟨z,q⟩:=hn m b e1
 rw[List.getElem?_set_ne (Ne.symm z)] at e2
 exact (r.obj m b y q e2).ext E rfl
theorem zjs (r:Rep K ρ st H) (hp:H p=none):Out ρ p:=by
 refine ⟨fun z=>?_,fun z=>?_⟩
 ·obtain ⟨i,hi,e⟩:=List.getElem_of_mem z
  obtain ⟨x,_,q⟩:=r.has (n:=i) (a:=p) (by rw[List.getElem?_eq_getElem hi,e])
  obtain ⟨u,hu⟩:=q.has
  rw[hp] at hu;cases hu
 ·obtain ⟨⟨u,hu⟩,_⟩:=r.gh p z
  rw[hp] at hu;cases hu
theorem At.newT (r:Rep K ρ st H) (hp:H p=none) {ds:List D} {vs:List V} (h:AtAll K ρ H ds vs):At K ρ (upd H p (.tup vs)) (.tup ds) (.ref p):=.tup zw (zjs r hp) (h.ext (Ext.new hp _))
theorem At.newL (r:Rep K ρ st H) (hp:H p=none) {ds:List D} {vs:List V} (h:AtAll K ρ H ds vs):At K ρ (upd H p (.lst vs)) (.lst ds) (.ref p):=.lst zw (zjs r hp) (h.ext (Ext.new hp _))
end
noncomputable def eAnd (f f':SE):SE:=fun σ st=>(f σ st).bind fun v st1=>match v with
 | .bl true=>f' σ st1
 | .bl false=>.ok (.bl false) st1
 | _=>.stuck
noncomputable def eOr (f f':SE):SE:=fun σ st=>(f σ st).bind fun v st1=>match v with
 | .bl true=>.ok (.bl true) st1
 | .bl false=>f' σ st1
 | _=>.stuck
noncomputable def eNot (f:SE):SE:=fun σ st=>(f σ st).bind fun v st1=>match v with
 | .bl b=>.ok (.bl (!b)) st1
 | _=>.stuck
noncomputable def bAnd (f f':ST):ST:=fun σ st=>(f σ st).bind fun b st1=>if b=true then f' σ st1 else .ok false st1
noncomputable def bOr (f f':ST):ST:=fun σ st=>(f σ st).bind fun b st1=>if b=true then .ok true st1 else f' σ st1
noncomputable def bNot (f:ST):ST:=fun σ st=>(f σ st).bind fun b st1=>.ok (!b) st1
noncomputable def eIf (c:ST) (f f':SE):SE:=fun σ st=>(c σ st).bind fun b st1=>if b=true then f σ st1 else f' σ st1
section
variable {X:Cx} {a b:Expr} {rest:List Expr} {f f':SE} {t t':ST} {pos:Pos}
theorem d_one {op} (h:DE X a f):DE X (.BoolOp op [a] pos) f:=pe_one h
theorem d_and (ha:DE X a f) (hb:DE X (.BoolOp .And (b::rest) pos) f'):DE X (.BoolOp .And (a::b::rest) pos) (eAnd f f'):=pe_to (pe_and ha hb) fun τ H Q hq0=>by
 obtain ⟨ρ,σ,st,v,st',at',rp,e,q⟩:=hq0
 obtain ⟨x,st1,e1,e⟩:=zc e
 refine ⟨ρ,σ,st,x,st1,at',rp,e1,fun ρ1 H1 u x1 rp1 a1=>?_⟩
 cases x<;>try (cases e;done)
 rename_i bb
 cases a1
 refine ⟨bb,rfl,?_⟩
 cases bb with
 | true =>
  rw[if_pos rfl]
  exact ⟨ρ1,σ,st1,v,st',at'.ext x1,rp1,e,fun ρ' H' u x2=>q ρ' H' u (x1.trans x2)⟩
 | false =>
  rw[if_neg (by decide)]
  cases e
  exact q _ _ _ x1 rp1 (.bl false)
theorem d_not (ha:DE X a f):DE X (.UnaryOp .Not a pos) (eNot f):=pe_to (pe_not ha) fun τ H Q hq0=>by
 obtain ⟨ρ,σ,st,v,st',at',rp,e,q⟩:=hq0
 obtain ⟨x,st1,e1,e⟩:=zc e
 refine ⟨ρ,σ,st,x,st1,at',rp,e1,fun ρ1 H1 u x1 rp1 a1=>?_⟩
 cases x<;>try (cases e;done)
 rename_i bb
 cases a1
 cases e
 exact ⟨bb,rfl,q _ _ _ x1 rp1 (.bl _)⟩
theorem dw_one {op} (h:DT X a t) (hop:op=.And∨op=.Or):DW X (.BoolOp op [a] pos) t:=by
 rcases hop with rfl | rfl
 ·exact pw_and1 h
 ·exact pw_or1 h
theorem dw_and (ha:DT X a t) (hb:DW X (.BoolOp .And (b::rest) pos) t'):DW X (.BoolOp .And (a::b::rest) pos) (bAnd t t'):=pw_to (pw_and ha hb) fun τ H Q hq0=>by
 obtain ⟨ρ,σ,st,v,st',at',rp,e,q⟩:=hq0
 obtain ⟨x,st1,e1,e⟩:=zc e
 refine ⟨ρ,σ,st,x,st1,at',rp,e1,fun ρ1 H1 x1 rp1=>?_⟩
 cases x with
 | true=>exact iteT ⟨ρ1,σ,st1,v,st',at'.ext x1,rp1,e,fun ρ' H' x2=>q ρ' H' (x1.trans x2)⟩
 | false=>cases e;exact iteF (q _ _ x1 rp1)
theorem dw_or (ha:DT X a t) (hb:DW X (.BoolOp .Or (b::rest) pos) t'):DW X (.BoolOp .Or (a::b::rest) pos) (bOr t t'):=pw_to (pw_or ha hb) fun τ H Q hq0=>by
 obtain ⟨ρ,σ,st,v,st',at',rp,e,q⟩:=hq0
 obtain ⟨x,st1,e1,e⟩:=zc e
 refine ⟨ρ,σ,st,x,st1,at',rp,e1,fun ρ1 H1 x1 rp1=>?_⟩
 cases x with
 | false=>exact iteF ⟨ρ1,σ,st1,v,st',at'.ext x1,rp1,e,fun ρ' H' x2=>q ρ' H' (x1.trans x2)⟩
 | true=>cases e;exact iteT (q _ _ x1 rp1)
theorem dt_not (ha:DT X a t):DT X (.UnaryOp .Not a pos) (bNot t):=pt_to (pt_not ha) fun τ H Q hq0=>by
 obtain ⟨ρ,σ,st,v,st',at',rp,e,q⟩:=hq0
 obtain ⟨x,st1,e1,e⟩:=zc e
 cases e
 exact ⟨ρ,σ,st,x,_,at',rp,e1,fun ρ1 H1 x1 rp1=>q _ _ x1 rp1⟩
theorem d_if {c:Expr} (hc:DT X c t) (ha:DE X a f) (hb:DE X b f'):DE X (.IfExp c a b pos) (eIf t f f'):=pe_to (zyn hc ha hb) fun τ H Q hq0=>by
 obtain ⟨ρ,σ,st,v,st',at',rp,e,q⟩:=hq0
 obtain ⟨x,st1,e1,e⟩:=zc e
 refine ⟨ρ,σ,st,x,st1,at',rp,e1,fun ρ1 H1 x1 rp1=>?_⟩
 cases x with
 | true=>exact iteT ⟨ρ1,σ,st1,v,st',at'.ext x1,rp1,e,fun ρ' H' u x2=>q ρ' H' u (x1.trans x2)⟩
 | false=>exact iteF ⟨ρ1,σ,st1,v,st',at'.ext x1,rp1,e,fun ρ' H' u x2=>q ρ' H' u (x1.trans x2)⟩
end
noncomputable def aNil:SA:=fun _ st=>.ok [] st
noncomputable def aCons (f:SE) (g:SA):SA:=fun σ st=>(f σ st).bind fun x st1=>(g σ st1).bind fun xs st2=>.ok (x::xs) st2
noncomputable def eTup (g:SA):SE:=fun σ st=>(g σ st).bind fun xs st1=>if xs.length≤sizeLine then .ok (.tup xs) st1 else .stuck
noncomputable def eLst (g:SA):SE:=fun σ st=>(g σ st).bind fun xs st1=>if xs.length≤sizeLine then .ok (.lst xs) st1 else .stuck
noncomputable def eLstM (g:SA):SE:=fun σ st=>(g σ st).bind fun xs st1=>if xs.length≤sizeLine then .ok (.ref st1.length) (st1++[.lst xs]) else .stuck
section
variable {X:Cx} {e:Expr} {es:List Expr} {f:SE} {g:SA} {pos:Pos}
theorem da_nil:DA X [] aNil:=pa_to pa_nil fun τ H Q hq0=>by
 obtain ⟨ρ,σ,st,v,st',a,rp,e,q⟩:=hq0
 cases e
 exact q _ _ _ (.refl _ _) rp .nil
theorem zbdk (ha:DE X e f) (hr:DA X es g) (hs:starEach (e::es) X.env=(false,eval e X.env)::starEach es X.env:=by rfl):DA X (e::es) (aCons f g):=pa_to (zwp ha hr hs) fun τ H Q hq0=>by
 obtain ⟨ρ,σ,st,v,st',a,rp,e,q⟩:=hq0
 obtain ⟨x,st1,e1,e⟩:=zc e
 obtain ⟨y,st2,e2,e⟩:=zc e
 cases e
 refine ⟨ρ,σ,st,x,st1,a,rp,e1,fun ρ1 H1 u x1 rp1 a1=>?_⟩
 exact ⟨ρ1,σ,st1,y,_,a.ext x1,rp1,e2,fun ρ2 H2 w x2 rp2 a2=>q _ _ _ (x1.trans x2) rp2 (.cons (a1.ext x2) a2)⟩
theorem d_tup {x1} (h:DA X es g):DE X (.Tuple es x1 pos) (eTup g):=pe_to (pe_tup h) fun τ H Q hq0=>by
 obtain ⟨ρ,σ,st,v,st',a,rp,e,q⟩:=hq0
 obtain ⟨x,st1,e1,e⟩:=zc e
 split at e
 ·rename_i hl
  cases e
  refine ⟨ρ,σ,st,x,_,a,rp,e1,fun ρ1 H1 u x1 rp1 a1=>⟨by rw[a1.length];exact hl,fun p hp=>?_⟩⟩
  exact q ρ1 _ _ (x1.trans (Ext.new hp _)) (rp1.new hp _) (.newT rp1 hp a1)
 ·cases e
theorem d_lst (h:DA X es g):DE X (.List es pos) (eLst g):=pe_to (pe_lst h) fun τ H Q hq0=>by
 obtain ⟨ρ,σ,st,v,st',a,rp,e,q⟩:=hq0
 obtain ⟨x,st1,e1,e⟩:=zc e
 split at e
 ·rename_i hl
  cases e
  refine ⟨ρ,σ,st,x,_,a,rp,e1,fun ρ1 H1 u x1 rp1 a1=>⟨by rw[a1.length];exact hl,fun p hp=>?_⟩⟩
  exact q ρ1 _ _ (x1.trans (Ext.new hp _)) (rp1.new hp _) (.newL rp1 hp a1)
 ·cases e
theorem At.last {K:PySem.W.Frag} {ρ:Loc} {H:Hp} {p:Addr} {n:Nat} (h:n=ρ.m.length):At K ⟨ρ.m++[some p],ρ.g⟩ H (.ref n) (.ref p):=by
 subst h
 refine .ref (by simp) fun a e=>?_
 simp at e
 rw[e]
theorem d_lstM (h:DA X es g):DE X (.List es pos) (eLstM g):=pe_to (pe_lst h) fun τ H Q hq0=>by
 obtain ⟨ρ,σ,st,v,st',a,rp,e,q⟩:=hq0
 obtain ⟨x,st1,e1,e⟩:=zc e
 split at e
 ·rename_i hl
  cases e
  refine ⟨ρ,σ,st,x,_,a,rp,e1,fun ρ1 H1 u x1 rp1 a1=>⟨by rw[a1.length];exact hl,fun p hp=>?_⟩⟩
  obtain ⟨E,R⟩:=rp1.alloc hp (x:=.lst x) (o:=.lst u) fun E=>⟨u,zw,a1.ext E⟩
  exact q _ _ _ (x1.trans E) R (.last rp1.len.symm)
 ·cases e
end
end Dd
set_option maxHeartbeats 4000000
namespace Dd
open PySem L2
noncomputable def asL (st:Store):D→Option (List D)
 | .lst xs=>some xs
 | .ref n=>match st[n]? with
  | some (.lst xs)=>some xs
  | _=>none
 | _=>none
section
variable {K:PySem.W.Frag} {ρ:Loc} {st:Store} {H:Hp} {d:D} {u:V} {xs:List D}
theorem ref_at (rp:Rep K ρ st H) {n:Nat} {o:O} (a:At K ρ H (.ref n) u) (e:st[n]?=some o) (hd:o≠.dead):∃p,u=.ref p∧ρ.m[n]?=some (some p)∧OAt K ρ H o p:=by
 cases a with
 | ref h1 h2 =>
  obtain ⟨p,hp⟩:=rp.live n o e hd
  exact ⟨p,h2 p hp,hp,rp.obj n p o hp e⟩
theorem asL_at (rp:Rep K ρ st H) (a:At K ρ H d u) (e:asL st d=some xs):∃p vs,u=.ref p∧H p=some (.lst vs)∧AtAll K ρ H xs vs:=by
 cases d<;>try (cases e;done)
 ·rename_i n
  unfold asL at e
  dsimp only at e
  split at e
  ·rename_i ys hys
   cases e
   obtain ⟨p,rfl,hp,vs,q1,q2⟩:=ref_at rp a hys (by intro z;cases z)
   exact ⟨p,vs,rfl,q1,q2⟩
  ·cases e
 ·cases e
  cases a with
  | lst h1 h2 h3=>exact ⟨_,_,rfl,h1,h3⟩
end
noncomputable def oI (C:Int→Int→Prop) [DecidableRel C] (h:Int→Int→D) (x y:D) (st:Store):Res D:=match x,y with
 | .int i,.int j=>if C i j then .ok (h i j) st else .stuck
 | _,_=>.stuck
theorem oI_D {K:PySem.W.Frag} {C:Int→Int→Prop} [DecidableRel C] {h:Int→Int→D} {g:Int→Int→V} (k:∀i j ρ H,At K ρ H (h i j) (g i j)):OpD K (oI C h) (rI C g):=fun ρ H st x y u v z st' Q rp a b e q=>by
 unfold oI at e
 split at e
 ·cases a
  cases b
  split at e
  ·rename_i hc
   cases e
   exact ⟨_,_,rfl,rfl,hc,q _ _ _ (.refl _ _) rp (k _ _ _ _)⟩
  ·cases e
 ·cases e
theorem oI_D0 {K:PySem.W.Frag} {h:Int→Int→D} {g:Int→Int→V} (k:∀i j ρ H,At K ρ H (h i j) (g i j)):OpD K (oI (fun _ _=>True) h) (rI0 g):=fun ρ H st x y u v z st' Q rp a b e q=>by
 obtain ⟨i,j,e1,e2,_,e3⟩:=oI_D (C:=fun _ _=>True) k ρ H st x y u v z st' Q rp a b e q
 exact ⟨i,j,e1,e2,e3⟩
noncomputable instance:DecidableRel CMul:=fun i j=>by unfold CMul;infer_instance
noncomputable instance:DecidableRel CDivP:=fun i j=>by unfold CDivP;infer_instance
noncomputable instance:DecidableRel CPow:=fun i j=>by unfold CPow;infer_instance
noncomputable abbrev oSub:=oI (fun _ _=>True) fun i j=>.int (i - j)
noncomputable abbrev oFdiv:=oI CDivP fun i j=>.int (i / j)
noncomputable abbrev oMod:=oI (fun _ j=>0 < j) fun i j=>.int (i % j)
noncomputable abbrev oAndI:=oI (fun _ _=>True) fun i j=>.int (Builtin.bitAnd i j)
noncomputable abbrev oPow:=oI CPow fun i j=>.int (i ^ j.toNat)
noncomputable abbrev oMulI:=oI CMul fun i j=>.int (i * j)
noncomputable def oAdd (x y:D) (st:Store):Res D:=match x,y with
 | .int i,.int j=>.ok (.int (i+j)) st
 | .tup a,.tup b=>if a.length+b.length≤sizeLine then .ok (.tup (a++b)) st else .stuck
 | .str a,.str b=>if a.length+b.length≤sizeLine then .ok (.str (a++b)) st else .stuck
 | x,y=>match asL st x,asL st y with
  | some a,some b=>if a.length+b.length≤sizeLine then .ok (.lst (a++b)) st else .stuck
  | _,_=>.stuck
noncomputable abbrev rAddA (K:PySem.W.Frag):R2:=fun x y H Q=>rI0 (fun i j=>.int (i+j)) x y H Q∨rCatA K x y H Q∨(∃i j,x=.str i∧y=.str j∧i.length+j.length≤sizeLine∧Q (.str (i++j)) H)∨rCat x y H Q
section
variable {X:Cx}
theorem zba:OpR X (binaryOp .Add) (rAddA X.K):=op_add.or (zbbz.or (zrd.or op_cat))
theorem oAdd_D {K:PySem.W.Frag}:OpD K oAdd (rAddA K):=fun ρ H st x y u v z st' Q rp a b e q=>by
 unfold oAdd at e
 split at e
 ·cases a
  cases b
  cases e
  exact .inl ⟨_,_,rfl,rfl,q _ _ _ (.refl _ _) rp (.int _)⟩
 ·rename_i ds es
  split at e
  ·rename_i hl
   cases e
   refine .inr (.inl ?_)
   cases a with
   | tup h1 h2 h3 =>
    cases b with
    | tup k1 k2 k3 =>
     refine ⟨_,_,_,_,rfl,rfl,SqT.of h1,SqT.of k1,by rw[h3.length,k3.length];exact hl,fun z=>?_,fun z1 z2=>?_,fun z1 z2 p hp=>?_⟩
     ·subst z
      cases h3
      exact q _ _ _ (.refl _ _) rp (.tup k1 k2 k3)
     ·subst z2
      cases k3
      rw[List.append_nil] at q
      exact q _ _ _ (.refl _ _) rp (.tup h1 h2 h3)
     ·exact q _ _ _ (Ext.new hp _) (rp.new hp _) (.newT rp hp (h3.append k3))
  ·cases e
 ·split at e
  ·rename_i hl
   cases a
   cases b
   cases e
   exact .inr (.inr (.inl ⟨_,_,rfl,rfl,hl,q _ _ _ (.refl _ _) rp (.str _)⟩))
  ·cases e
 ·split at e
  ·rename_i h1 h2
   split at e
   ·rename_i hl
    cases e
    obtain ⟨p,vs,rfl,g1,g2⟩:=asL_at rp a h1
    obtain ⟨p',ws,rfl,k1,k2⟩:=asL_at rp b h2
    exact .inr (.inr (.inr ⟨_,_,_,_,rfl,rfl,g1,k1,by rw[g2.length,k2.length];exact hl,fun t ht=>q _ _ _ (Ext.new ht _) (rp.new ht _) (.newL rp ht (g2.append k2))⟩))
   ·cases e
  ·cases e
end
noncomputable abbrev oLe:=oI (fun _ _=>True) fun i j=>.bl (decide (i≤j))
noncomputable abbrev oGt:=oI (fun _ _=>True) fun i j=>.bl (decide (j < i))
mutual
noncomputable def toData:D→Option PyData
 | .non=>some .none
 | .bl b=>some (.bool b)
 | .int i=>some (.int i)
 | .str x=>some (.str x)
 | .tup ds=>(toDatas ds).map .tuple
 | .lst ds=>(toDatas ds).map .list
 | _=>none
noncomputable def toDatas:List D→Option (List PyData)
 | []=>some []
 | d::ds=>(toData d).bind fun x=>(toDatas ds).map fun xs=>x::xs
end
mutual
theorem zxk {K:PySem.W.Frag} {ρ:Loc} {H:Hp}:∀{d:D} {v:V} {p:PyData},At K ρ H d v→toData d=some p→DAt K H v p
 | _,_,_,.non,e=>by cases e;exact .non
 | _,_,_,.bl b,e=>by cases e;exact .bl b
 | _,_,_,.int i,e=>by cases e;exact .int i
 | _,_,_,.str x,e=>by cases e;exact .str x
 | _,_,_,.ty n,e=>by cases e
 | _,_,_,.exn _,e=>by cases e
 | _,_,_,.ref _ _,e=>by cases e
 | _,_,_,.tup h _ al,e=>by
  rw[toData] at e
  obtain ⟨ps,e1,rfl⟩:=Option.map_eq_some_iff.mp e
  exact .tup (SqT.of h) (zki al e1)
 | _,_,_,.lst h _ al,e=>by
  rw[toData] at e
  obtain ⟨ps,e1,rfl⟩:=Option.map_eq_some_iff.mp e
  exact .lst (SqL.of h) (zki al e1)
 | _,_,_,.scr _ _,e=>by cases e
theorem zki {K:PySem.W.Frag} {ρ:Loc} {H:Hp}:∀{d:List D} {v:List V} {p:List PyData},AtAll K ρ H d v→toDatas d=some p→DAll K H v p
 | _,_,_,.nil,e=>by cases e;exact .nil
 | _,_,_,.cons a b,e=>by
  rw[toDatas] at e
  obtain ⟨x,e1,e⟩:=Option.bind_eq_some_iff.mp e
  obtain ⟨xs,e2,rfl⟩:=Option.map_eq_some_iff.mp e
  exact .cons (zxk a e1) (zki b e2)
end
noncomputable def now (st:Store) (d:D):D:=match asL st d with
 | some xs=>.lst xs
 | none=>d
noncomputable def dataOf (st:Store) (d:D):Option PyData:=toData (now st d)
theorem zem {K:PySem.W.Frag} {ρ:Loc} {st:Store} {H:Hp} (rp:Rep K ρ st H) {d:D} {u:V} {p:PyData} (a:At K ρ H d u) (e:dataOf st d=some p):DAt K H u p:=by
 unfold dataOf now at e
 split at e
 ·rename_i xs hx
  obtain ⟨q,vs,rfl,h1,h2⟩:=asL_at rp a hx
  rw[toData] at e
  obtain ⟨ps,e1,rfl⟩:=Option.map_eq_some_iff.mp e
  exact .lst (SqL.of h1) (zki h2 e1)
 ·exact zxk a e
noncomputable def oEqG (neg:Bool) (x y:D) (st:Store):Res D:=match dataOf st x,dataOf st y with
 | some a,some b=>if PySem.SeqAt.shaped a=true∧PySem.SeqAt.shaped b=true then .ok (.bl (if neg then !PyData.eqv a b else PyData.eqv a b)) st else .stuck
 | _,_=>.stuck
theorem oEq_D {K:PySem.W.Frag} {neg:Bool}:OpD K (oEqG neg) (rEqX K neg):=fun ρ H st x y u v z st' Q rp a b e q=>by
 unfold oEqG at e
 split at e
 ·rename_i p1 p2 h1 h2
  split at e
  ·rename_i hs
   cases e
   exact ⟨_,_,zem rp a h1,zem rp b h2,hs.1,hs.2,q _ _ _ (.refl _ _) rp (.bl _)⟩
  ·cases e
 ·cases e
noncomputable abbrev oEq:=oEqG false
noncomputable abbrev oNe:=oEqG true
noncomputable def oIsN (neg:Bool) (x y:D) (st:Store):Res D:=match x,y with
 | .ref _,_=>.stuck
 | .non,.non=>.ok (.bl (!neg)) st
 | _,.non=>.ok (.bl neg) st
 | _,_=>.stuck
theorem oIsN_D {K:PySem.W.Frag}:OpD K (oIsN false) (fun x y H Q=>y=.non∧Q (.bl (decide (x=.non))) H):=fun ρ H st x y u v z st' Q rp a b e q=>by
 unfold oIsN at e
 split at e<;>try (cases e;done)
 ·cases a;cases b;cases e
  exact ⟨rfl,q _ _ _ (.refl _ _) rp (by simp;exact .bl _)⟩
 ·rename_i h1 h2
  cases b;cases e
  refine ⟨rfl,q _ _ _ (.refl _ _) rp ?_⟩
  have:u≠.non:=by
   rintro rfl
   cases a<;>first | exact h2 rfl | exact h1 _ rfl
  rw[decide_eq_false this]
  exact .bl _
noncomputable def asInts:List D→Option (List Int)
 | []=>some []
 | .int i::r=>(asInts r).map (i::·)
 | _::_=>none
theorem zcs {K:PySem.W.Frag} {ρ:Loc} {H:Hp}:∀{ds:List D} {vs:List V} {ns:List Int},AtAll K ρ H ds vs→asInts ds=some ns→vs=ns.map V.int
 | _,_,_,.nil,e=>by cases e;rfl
 | _,_,_,.cons (d:=d) a b,e=>by
  cases d<;>try (cases e;done)
  rw[asInts] at e
  obtain ⟨ms,e1,rfl⟩:=Option.map_eq_some_iff.mp e
  cases a
  rw[zcs b e1]
  rfl
noncomputable def oLtT (x y:D) (st:Store):Res D:=match x,y with
 | .int i,.int j=>.ok (.bl (decide (i < j))) st
 | .tup a,.tup b=>match asInts a,asInts b with
  | some ns,some ms=>.ok (.bl (HT.lexLt ns ms)) st
  | _,_=>.stuck
 | _,_=>.stuck
noncomputable abbrev rLtA (K:PySem.W.Frag):R2:=fun x y H Q=>rI0 (fun i j=>.bl (decide (i < j))) x y H Q∨rLtT K x y H Q
theorem op_ltA {X:Cx} (hu:X.A.units < cLine):OpR X (compareOp .Lt) (rLtA X.K):=op_lt.or (op_ltT hu)
theorem oLtT_D {K:PySem.W.Frag}:OpD K oLtT (rLtA K):=fun ρ H st x y u v z st' Q rp a b e q=>by
 unfold oLtT at e
 split at e
 ·cases a;cases b;cases e
  exact .inl ⟨_,_,rfl,rfl,q _ _ _ (.refl _ _) rp (.bl _)⟩
 ·split at e
  ·rename_i h1 h2
   cases e
   cases a with
   | tup g1 g2 g3 =>
    cases b with
    | tup k1 k2 k3 =>
     have e1:=zcs g3 h1
     have e2:=zcs k3 h2
     subst e1 e2
     exact .inr ⟨_,_,_,_,rfl,rfl,SqT.of g1,SqT.of k1,q _ _ _ (.refl _ _) rp (.bl _)⟩
  ·cases e
 ·cases e
noncomputable def seqOf (st:Store):D→Option (List D)
 | .tup xs=>some xs
 | .scr xs=>some xs
 | d=>asL st d
theorem zjf {K:PySem.W.Frag} {ρ:Loc} {st:Store} {H:Hp} (rp:Rep K ρ st H) {d:D} {u:V} {xs:List D} (a:At K ρ H d u) (e:seqOf st d=some xs) :
  ∃p vs,u=.ref p∧(SqL K H p vs∨SqT K H p vs)∧AtAll K ρ H xs vs:=by
 unfold seqOf at e
 split at e
 ·cases e
  cases a with
  | tup h1 h2 h3=>exact ⟨_,_,rfl,.inr (SqT.of h1),h3⟩
 ·cases e
  cases a with
  | scr h1 h3=>exact ⟨_,_,rfl,.inl h1.sq,h3⟩
 ·obtain ⟨p,vs,rfl,h1,h2⟩:=asL_at rp a e
  exact ⟨p,vs,rfl,.inl (SqL.of h1),h2⟩
theorem AtAll.atI {K:PySem.W.Frag} {ρ:Loc} {H:Hp} {ds:List D} {vs:List V} {i:Int} {d:D} (h:AtAll K ρ H ds vs) (e:L2.atI ds i=some d):∃v,L2.atI vs i=some v∧At K ρ H d v:=by
 unfold L2.atI at e ⊢
 rw[h.length]
 cases hi:ixN ds.length i with
 | none=>rw[hi] at e;cases e
 | some j =>
  rw[hi] at e
  obtain ⟨v,e1,e2⟩:=h.get (i:=j) e
  exact ⟨v,e1,e2⟩
noncomputable def oIx (x y:D) (st:Store):Res D:=match seqOf st x,y with
 | some xs,.int i=>match L2.atI xs i with
  | some v=>.ok v st
  | none=>.stuck
 | _,_=>.stuck
theorem oIx_D {K:PySem.W.Frag}:OpD K oIx (rIx K):=fun ρ H st x y u v z st' Q rp a b e q=>by
 unfold oIx at e
 split at e
 ·rename_i h1
  split at e
  ·rename_i w hw
   cases e
   cases b
   obtain ⟨p,vs,rfl,h2,h3⟩:=zjf rp a h1
   obtain ⟨w',e2,a2⟩:=h3.atI hw
   rcases h2 with h2 | h2
   ·exact .inl ⟨_,_,_,_,rfl,rfl,h2,e2,q _ _ _ (.refl _ _) rp a2⟩
   ·exact .inr (.inl ⟨_,_,_,_,rfl,rfl,h2,e2,q _ _ _ (.refl _ _) rp a2⟩)
  ·cases e
 ·cases e
noncomputable def cutD (xs:List D) (lo hi:Option Int):List D:=(xs.drop (HT.sIx xs.length 0 lo)).take (HT.sIx xs.length xs.length hi - HT.sIx xs.length 0 lo)
theorem AtAll.cut {K:PySem.W.Frag} {ρ:Loc} {H:Hp} {ds:List D} {vs:List V} (h:AtAll K ρ H ds vs) (lo hi:Option Int):AtAll K ρ H (cutD ds lo hi) (cutV vs lo hi):=by
 unfold cutD cutV
 rw[h.length]
 exact (h.drop _).take _
noncomputable def pNone:DS→Store→Res (Option Int):=fun _ st=>.ok none st
noncomputable def pSome (f:SE):DS→Store→Res (Option Int):=fun σ st=>(f σ st).bind fun v st1=>match v with
 | .int i=>.ok (some i) st1
 | _=>.stuck
noncomputable def eSl (f:SE) (lo hi:DS→Store→Res (Option Int)):SE:=fun σ st=>(f σ st).bind fun x st1=>(lo σ st1).bind fun l st2=>(hi σ st2).bind fun h st3=>match x with
 | .tup xs=>.ok (.tup (cutD xs l h)) st3
 | x=>match asL st3 x with
  | some xs=>.ok (.lst (cutD xs l h)) st3
  | none=>.stuck
noncomputable def tDO (K:PySem.W.Frag) (f:DS→Store→Res (Option Int)):TO:=fun τ H Q=>∃ρ σ st v st',AtS K ρ H σ τ∧Rep K ρ st H∧f σ st=.ok v st'∧∀ρ' H',Ext ρ H ρ' H'→Rep K ρ' st' H'→Q v H'
noncomputable abbrev DO (X:Cx) (e:Option Expr) (f:DS→Store→Res (Option Int)):Prop:=PO X e (tDO X.K f)
section
variable {X:Cx} {a b e:Expr} {f f':SE} {pos:Pos} {lo hi:Option Expr} {l h:DS→Store→Res (Option Int)}
theorem po_to {t t':TO} {e:Option Expr} (h:PO X e t) (k:∀σ H Q,t' σ H Q→t σ H Q):PO X e t':=fun pins s σ H Q I q=>h pins s σ H Q I (k _ _ _ q)
theorem zbde:DO X none pNone:=po_to zbbk fun τ H Q hq0=>by
 obtain ⟨ρ,σ,st,v,st',a,rp,e,q⟩:=hq0
 cases e
 exact q _ _ (.refl _ _) rp
theorem zbdd (he:DE X e f):DO X (some e) (pSome f):=po_to (zbbj he) fun τ H Q hq0=>by
 obtain ⟨ρ,σ,st,v,st',a,rp,e,q⟩:=hq0
 obtain ⟨x,st1,e1,e⟩:=zc e
 refine ⟨ρ,σ,st,x,st1,a,rp,e1,fun ρ1 H1 u x1 rp1 a1=>?_⟩
 cases x<;>try (cases e;done)
 cases e
 cases a1
 exact ⟨_,rfl,q _ _ x1 rp1⟩
theorem d_ix (ha:DE X a f) (hb:DE X b f') (hs:PlainIx b):DE X (.Subscript a b pos) (eOp oIx f f'):=pe_to (pe_ix ix_seq ha hb hs) (opd_t oIx_D)
theorem d_sl {p2:Pos} (he:DE X e f) (hl:DO X lo l) (hu:DO X hi h):DE X (.Subscript e (.Slice lo hi none p2) pos) (eSl f l h):=pe_to (zym (zbay.or zbaz) he hl hu) fun τ H Q hq0=>by
 obtain ⟨ρ,σ,st,v,st',a,rp,e,q⟩:=hq0
 obtain ⟨x,st1,e1,e⟩:=zc e
 obtain ⟨y,st2,e2,e⟩:=zc e
 obtain ⟨z,st3,e3,e⟩:=zc e
 refine ⟨ρ,σ,st,x,st1,a,rp,e1,fun ρ1 H1 u x1 rp1 a1=>?_⟩
 refine ⟨ρ1,σ,st1,y,st2,a.ext x1,rp1,e2,fun ρ2 H2 x2 rp2=>?_⟩
 refine ⟨ρ2,σ,st2,z,st3,a.ext (x1.trans x2),rp2,e3,fun ρ3 H3 x3 rp3=>?_⟩
 have a3:=a1.ext (x2.trans x3)
 have X3:=x1.trans (x2.trans x3)
 split at e
 ·cases e
  refine .inl ?_
  cases a3 with
  | tup h1 h2 h3 =>
   refine ⟨_,_,rfl,SqT.of h1,fun ec=>?_,fun p hp=>?_⟩
   ·refine q _ _ _ X3 rp3 (.tup h1 h2 ?_)
    have:=h3.cut y z
    rw[ec] at this
    exact this
   ·exact q _ _ _ (X3.trans (Ext.new hp _)) (rp3.new hp _) (.newT rp3 hp (h3.cut y z))
 ·split at e
  ·rename_i xs hx
   cases e
   obtain ⟨p,vs,rfl,g1,g2⟩:=asL_at rp3 a3 hx
   exact .inr ⟨_,_,rfl,SqL.of g1,fun p hp=>q _ _ _ (X3.trans (Ext.new hp _)) (rp3.new hp _) (.newL rp3 hp (g2.cut y z))⟩
  ·cases e
end
end Dd
set_option maxHeartbeats 4000000
namespace Dd
open PySem L2
noncomputable def eCall (g:List D→Store→Res D) (f:SA):SE:=fun σ st=>(f σ st).bind fun xs st1=>g xs st1
noncomputable def CaD (K:PySem.W.Frag) (g:List D→Store→Res D) (r:List V→Hp→VK→Prop):Prop :=
 ∀ρ H st xs us z st' (Q:VK),Rep K ρ st H→AtAll K ρ H xs us→g xs st=.ok z st'→(∀ρ' H' w,Ext ρ H ρ' H'→Rep K ρ' st' H'→At K ρ' H' z w→Q w H')→r us H Q
theorem cad_t {K:PySem.W.Frag} {g:List D→Store→Res D} {r:List V→Hp→VK→Prop} (hr:CaD K g r) {f:SA}:∀τ H Q,tD K (eCall g f) τ H Q→tCB r (tDA K f) τ H Q:=fun τ H Q hq0=>by
 obtain ⟨ρ,σ,st,v,st',a,rp,e,q⟩:=hq0
 obtain ⟨x,st1,e1,e⟩:=zc e
 exact ⟨ρ,σ,st,x,st1,a,rp,e1,fun ρ1 H1 u x1 rp1 a1=>hr ρ1 H1 st1 x u v st' Q rp1 a1 e fun ρ' H' w x2=>q ρ' H' w (x1.trans x2)⟩
section
variable {X:Cx} {x:Str} {p pos:Pos} {e:Expr} {es:List Expr} {f:SA} {id T:String} {r:List V→Hp→VK→Prop} {g:List D→Store→Res D}
theorem zbdo (hc : CallR X (.builtin id) r) (hr : CaD X.K g r) (hg : Gl X x) (hm : X.mg x = none) (hv : bootBuiltins x = some (.builtin id)) (ha : DA X (e :: es) f) (hn : x ≠ "__name__" := by decide) (hdb : (x == ("__debug__" : Str)) = false := by decide)
 (he:starEach (e::es) X.env=(false,eval e X.env)::starEach es X.env:=by rfl) (hpl:(backTo pos (starEach es X.env)).any (·.1)=false:=by rfl):DE X (.Call (.Name x p) (e::es) [] pos) (eCall g f):=pe_to (zra hc hg hm hv ha hn hdb he hpl) (cad_t hr)
theorem zbac (hc : CallR X (.type T) r) (hr : CaD X.K g r) (hg : Gl X x) (hm : X.mg x = none) (hv : bootBuiltins x = some (.type T)) (ha : DA X (e :: es) f) (hn : x ≠ "__name__" := by decide) (hdb : (x == ("__debug__" : Str)) = false := by decide)
 (he:starEach (e::es) X.env=(false,eval e X.env)::starEach es X.env:=by rfl) (hpl:(backTo pos (starEach es X.env)).any (·.1)=false:=by rfl):DE X (.Call (.Name x p) (e::es) [] pos) (eCall g f):=pe_to (zog hc hg hm hv ha hn hdb he hpl) (cad_t hr)
end
theorem AtAll.one {K:PySem.W.Frag} {ρ:Loc} {H:Hp} {d:D} {us:List V} (h:AtAll K ρ H [d] us):∃u,us=[u]∧At K ρ H d u:=by
 cases h with
 | cons a b=>cases b;exact ⟨_,rfl,a⟩
theorem AtAll.two {K:PySem.W.Frag} {ρ:Loc} {H:Hp} {d e:D} {us:List V} (h:AtAll K ρ H [d,e] us):∃u v,us=[u,v]∧At K ρ H d u∧At K ρ H e v:=by
 cases h with
 | cons a b =>
  obtain ⟨v,rfl,c⟩:=b.one
  exact ⟨_,_,rfl,a,c⟩
noncomputable def bLen:List D→Store→Res D:=fun xs st=>match xs with
 | [x]=>match seqOf st x with
  | some ys=>.ok (.int ys.length) st
  | none=>.stuck
 | _=>.stuck
theorem bLen_D {K:PySem.W.Frag}:CaD K bLen (fun xs H Q=>∃p ys,xs=[.ref p]∧(SqL K H p ys∨SqT K H p ys)∧Q (.int ys.length) H):=fun ρ H st xs us z st' Q rp aa e q=>by
 unfold bLen at e
 split at e
 ·split at e
  ·rename_i h
   cases e
   obtain ⟨u,rfl,a⟩:=aa.one
   obtain ⟨p,vs,rfl,h1,h2⟩:=zjf rp a h
   refine ⟨p,vs,rfl,h1,?_⟩
   rw[h2.length]
   exact q _ _ _ (.refl _ _) rp (.int _)
  ·cases e
 ·cases e
noncomputable def bAbs:List D→Store→Res D:=fun xs st=>match xs with
 | [.int i]=>.ok (.int (if i < 0 then -i else i)) st
 | _=>.stuck
theorem bAbs_D {K:PySem.W.Frag}:CaD K bAbs (fun xs H Q=>∃i,xs=[.int i]∧Q (.int (if i < 0 then -i else i)) H):=fun ρ H st xs us z st' Q rp aa e q=>by
 unfold bAbs at e
 split at e
 ·cases e
  obtain ⟨u,rfl,a⟩:=aa.one
  cases a
  exact ⟨_,rfl,q _ _ _ (.refl _ _) rp (.int _)⟩
 ·cases e
noncomputable def b2I (g:Int→Int→Int):List D→Store→Res D:=fun xs st=>match xs with
 | [.int i,.int j]=>.ok (.int (g i j)) st
 | _=>.stuck
theorem b2I_D {K:PySem.W.Frag} {g:Int→Int→Int}:CaD K (b2I g) (fun xs H Q=>∃i j,xs=[.int i,.int j]∧Q (.int (g i j)) H):=fun ρ H st xs us z st' Q rp aa e q=>by
 unfold b2I at e
 split at e
 ·cases e
  obtain ⟨u,v,rfl,a,b⟩:=aa.two
  cases a
  cases b
  exact ⟨_,_,rfl,q _ _ _ (.refl _ _) rp (.int _)⟩
 ·cases e
noncomputable abbrev bMin2:=b2I fun i j=>if j < i then j else i
noncomputable abbrev bMax2:=b2I fun i j=>if j > i then j else i
noncomputable def bSum:List D→Store→Res D:=fun xs st=>match xs with
 | [x]=>match (seqOf st x).bind asInts with
  | some ns=>.ok (.int ns.sum) st
  | none=>.stuck
 | _=>.stuck
theorem bSum_D {K:PySem.W.Frag}:CaD K bSum (rSum K):=fun ρ H st xs us z st' Q rp aa e q=>by
 unfold bSum at e
 split at e
 ·split at e
  ·rename_i ns h
   cases e
   obtain ⟨ys,h0,h⟩:=Option.bind_eq_some_iff.mp h
   obtain ⟨u,rfl,a⟩:=aa.one
   obtain ⟨p,vs,rfl,h1,h2⟩:=zjf rp a h0
   have e:=zcs h2 h
   subst e
   exact ⟨p,ns,rfl,h1,q _ _ _ (.refl _ _) rp (.int _)⟩
  ·cases e
 ·cases e
noncomputable def asBools:List D→Option (List Bool)
 | []=>some []
 | .bl i::r=>(asBools r).map (i::·)
 | _::_=>none
theorem zmj {K:PySem.W.Frag} {ρ:Loc} {H:Hp}:∀{ds:List D} {vs:List V} {ns:List Bool},AtAll K ρ H ds vs→asBools ds=some ns→vs=ns.map V.bl
 | _,_,_,.nil,e=>by cases e;rfl
 | _,_,_,.cons (d:=d) a b,e=>by
  cases d<;>try (cases e;done)
  rw[asBools] at e
  obtain ⟨ms,e1,rfl⟩:=Option.map_eq_some_iff.mp e
  cases a
  rw[zmj b e1]
  rfl
noncomputable def bAny (al:Bool):List D→Store→Res D:=fun xs st=>match xs with
 | [x]=>match (asL st x).bind asBools with
  | some bs=>.ok (.bl (if al then bs.all id else bs.any id)) st
  | none=>.stuck
 | _=>.stuck
theorem bAny_D {K:PySem.W.Frag} {al:Bool}:CaD K (bAny al) (rAny K al):=fun ρ H st xs us z st' Q rp aa e q=>by
 unfold bAny at e
 split at e
 ·split at e
  ·rename_i ns h
   cases e
   obtain ⟨ys,h0,h⟩:=Option.bind_eq_some_iff.mp h
   obtain ⟨u,rfl,a⟩:=aa.one
   obtain ⟨p,vs,rfl,h1,h2⟩:=asL_at rp a h0
   have e:=zmj h2 h
   subst e
   exact ⟨p,ns,rfl,SqL.of h1,q _ _ _ (.refl _ _) rp (.bl _)⟩
  ·cases e
 ·cases e
noncomputable def tyName (st:Store):D→Option String
 | .non => some "NoneType"
 | .bl _ => some "bool"
 | .int _ => some "int"
 | .str _ => some "str"
 | .tup _ => some "tuple"
 | .lst _ => some "list"
 | .ref n=>match st[n]? with
  | some (.lst _) => some "list"
  | some (.dT _) => some "dict"
  | _=>none
 | _=>none
noncomputable def isTy (t T : String) : Bool := t == T || (t == "bool" && T == "int")
noncomputable def bIsinst:List D→Store→Res D:=fun xs st=>match xs with
 | [x,.ty T]=>match tyName st x with
  | some t => if ["int", "bool", "str", "tuple", "list", "dict"].contains T = true then .ok (.bl (isTy t T)) st else .stuck
  | none=>.stuck
 | _=>.stuck
theorem ztq {K : PySem.W.Frag} {ρ : Loc} {st : Store} {H : Hp} (rp : Rep K ρ st H) {d : D} {u : V} {t : String} (a : At K ρ H d u) (e : tyName st d = some t) : TyOf K H u (.type t) ∧ t ∈ ["NoneType", "bool", "int", "str", "tuple", "list", "dict"] := by
 cases d<;>try (cases e;done)
 ·cases e;cases a;exact ⟨.non,by simp⟩
 ·cases e;cases a;exact ⟨.bl _,by simp⟩
 ·cases e;cases a;exact ⟨.int _,by simp⟩
 ·cases e;cases a;exact ⟨.str _,by simp⟩
 ·unfold tyName at e
  dsimp only at e
  split at e
  ·rename_i h
   cases e
   obtain ⟨p,rfl,hp,vs,q1,q2⟩:=ref_at rp a h (by intro z;cases z)
   exact ⟨.lst q1,by simp⟩
  ·rename_i h
   cases e
   obtain ⟨p,rfl,hp,vs,q1,q2⟩:=ref_at rp a h (by intro z;cases z)
   exact ⟨.dT q1,by simp⟩
  ·cases e
 ·cases e
  cases a with
  | tup h1 h2 h3=>exact ⟨.tup h1,by simp⟩
 ·cases e
  cases a with
  | lst h1 h2 h3=>exact ⟨.lst h1,by simp⟩
theorem kit_ty {K : PySem.W.Frag} {t T : String} (ht : t ∈ ["NoneType", "bool", "int", "str", "tuple", "list", "dict"]) (hT : T ∈ ["int", "bool", "str", "tuple", "list", "dict"]) : PySem.W.kitOne K (.type t) (.type T) = some (isTy t T) := by
 simp only[List.mem_cons,List.not_mem_nil,or_false] at ht hT
 rcases ht with rfl | rfl | rfl | rfl | rfl | rfl | rfl<;>rcases hT with rfl | rfl | rfl | rfl | rfl | rfl<;>rfl
theorem zfq {K:PySem.W.Frag}:CaD K bIsinst (fun xs H Q=>∃x T t b,xs=[x,.ty T]∧TyOf K H x t∧PySem.W.kitOne K t (.type T)=some b∧Q (.bl b) H):=fun ρ H st xs us z st' Q rp aa e q=>by
 unfold bIsinst at e
 split at e
 ·split at e
  ·rename_i h
   split at e
   ·rename_i hT
    cases e
    obtain ⟨u,v,rfl,a,b⟩:=aa.two
    cases b
    obtain ⟨h1,h2⟩:=ztq rp a h
    exact ⟨_,_,_,_,rfl,h1,kit_ty h2 (by simpa using hT),q _ _ _ (.refl _ _) rp (.bl _)⟩
   ·cases e
  ·cases e
 ·cases e
noncomputable def bTuple:List D→Store→Res D:=fun xs st=>match xs with
 | [.tup ys]=>.ok (.tup ys) st
 | [x]=>match asL st x with
  | some ys=>.ok (.tup ys) st
  | none=>.stuck
 | _=>.stuck
theorem zkq {K:PySem.W.Frag}:CaD K bTuple (fun xs H Q=>∃p ys,xs=[.ref p]∧((SqL K H p ys∧∀l,H l=none→Q (.ref l) (upd H l (.tup ys)))∨(SqT K H p ys∧Q (.ref p) H))):=fun ρ H st xs us z st' Q rp aa e q=>by
 unfold bTuple at e
 split at e
 ·cases e
  obtain ⟨u,rfl,a⟩:=aa.one
  cases a with
  | tup h1 h2 h3=>exact ⟨_,_,rfl,.inr ⟨SqT.of h1,q _ _ _ (.refl _ _) rp (.tup h1 h2 h3)⟩⟩
 ·split at e
  ·rename_i h
   cases e
   obtain ⟨u,rfl,a⟩:=aa.one
   obtain ⟨p,vs,rfl,h1,h2⟩:=asL_at rp a h
   exact ⟨_,_,rfl,.inl ⟨SqL.of h1,fun l hl=>q _ _ _ (Ext.new hl _) (rp.new hl _) (.newT rp hl h2)⟩⟩
  ·cases e
 ·cases e
noncomputable def bList:List D→Store→Res D:=fun xs st=>match xs with
 | [x]=>match seqOf st x with
  | some ys=>.ok (.lst ys) st
  | none=>.stuck
 | _=>.stuck
end Dd
set_option maxHeartbeats 4000000
namespace Dd
open PySem L2
noncomputable abbrev rowD (ns:List Int):D:=.tup (ns.map .int)
noncomputable abbrev rowsD (l:List (List Int)):List D:=l.map rowD
noncomputable def insR (a:List Int):List (List Int)→List (List Int)
 | []=>[a]
 | b::r=>if HT.lexLt b a=true then b::insR a r else a::b::r
noncomputable def sortR:List (List Int)→List (List Int)
 | []=>[]
 | a::r=>insR a (sortR r)
noncomputable abbrev UpR (l:List (List Int)):Prop:=l.Pairwise fun a b=>HT.lexLt b a=false
theorem zkb (a:List Int):∀l,(insR a l).Perm (a::l)
 | []=>.refl _
 | b::r=>by
  unfold insR
  split
  ·exact (List.Perm.cons b (zkb a r)).trans (.swap a b r)
  ·exact .refl _
theorem zcg:∀l,(sortR l).Perm l
 | []=>.refl _
 | a::r=>(zkb a _).trans (.cons a (zcg r))
theorem zng {a b c:List Int} (h1:HT.lexLt b a=false) (h2:HT.lexLt c b=false):HT.lexLt c a=false:=by
 cases h:HT.lexLt c a with
 | false=>rfl
 | true =>
  rcases Srt.zok a b with z | z | z
  ·have:=Srt.zgv h z
   rw[h2] at this;cases this
  ·subst z;rw[h2] at h;cases h
  ·rw[h1] at z;cases z
theorem zxb (a:List Int):∀l,UpR l→UpR (insR a l)
 | [],_=>List.pairwise_singleton _ _
 | b::r,h=>by
  obtain ⟨h1,h2⟩:=List.pairwise_cons.mp h
  unfold insR
  split
  ·rename_i c
   refine List.pairwise_cons.mpr ⟨fun x hx=>?_,zxb a r h2⟩
   rcases List.mem_cons.mp ((zkb a r).mem_iff.mp hx) with rfl | hx
   ·exact Srt.zuz c
   ·exact h1 x hx
  ·rename_i c
   have c':HT.lexLt b a=false:=by simpa using c
   refine List.pairwise_cons.mpr ⟨fun x hx=>?_,h⟩
   rcases List.mem_cons.mp hx with rfl | hx
   ·exact c'
   ·exact zng c' (h1 x hx)
theorem zmp:∀l,UpR (sortR l)
 | []=>.nil
 | a::r=>zxb a _ (zmp r)
theorem zny:∀{l m:List (List Int)},l.Perm m→UpR l→UpR m→l=m
 | [],m,p,_,_=>by rw[List.nil_perm.mp p]
 | a::l,[],p,_,_=>by cases List.perm_nil.mp p
 | a::l,b::m,p,h1,h2=>by
  obtain ⟨p1,p2⟩:=List.pairwise_cons.mp h1
  obtain ⟨q1,q2⟩:=List.pairwise_cons.mp h2
  have e:a=b:=by
   rcases List.mem_cons.mp (p.mem_iff.mp List.mem_cons_self) with z | z
   ·exact z
   ·rcases List.mem_cons.mp (p.mem_iff.mpr (List.mem_cons_self (a:=b) (l:=m))) with y | y
    ·exact y.symm
    ·have e1:=q1 a z
     have e2:=p1 b y
     rcases Srt.zok a b with w | w | w
     ·rw[e1] at w;cases w
     ·exact w
     ·rw[e2] at w;cases w
  subst e
  rw[zny (List.Perm.cons_inv p) p2 q2]
theorem zmq {l m:List (List Int)} (p:m.Perm l) (h:UpR m):m=sortR l:=zny (p.trans (zcg l).symm) h (zmp l)
theorem zmr (l:List (List Int)):(sortR l).length=l.length:=(zcg l).length_eq
noncomputable def asRows:List D→Option (List (List Int))
 | []=>some []
 | .tup ds::r=>(asInts ds).bind fun ns=>(asRows r).map (ns::·)
 | _::_=>none
theorem zpg {K:PySem.W.Frag} {ρ:Loc} {H:Hp}:∀{ds:List D} {vs:List V} {l:List (List Int)},AtAll K ρ H ds vs→asRows ds=some l →
  ∃ps:List (Addr × List Int),vs=ps.map (fun p=>V.ref p.1)∧ps.map (·.2)=l∧∀p∈ps,H p.1=some (.tup (p.2.map V.int))∧Out ρ p.1
 | _,_,_,.nil,e=>by cases e;exact ⟨[],rfl,rfl,fun _ h=>nomatch h⟩
 | _,_,_,.cons (d:=d) a b,e=>by
  cases d<;>try (cases e;done)
  rw[asRows] at e
  obtain ⟨ns,e1,e⟩:=Option.bind_eq_some_iff.mp e
  obtain ⟨l,e2,rfl⟩:=Option.map_eq_some_iff.mp e
  obtain ⟨ps,h1,h2,h3⟩:=zpg b e2
  cases a with
  | tup g1 g2 g3 =>
   rename_i ad ws
   have ew:=zcs g3 e1
   subst ew
   refine ⟨(ad,ns)::ps,by rw[h1];rfl,by rw[← h2];rfl,fun p hp=>?_⟩
   rcases List.mem_cons.mp hp with rfl | hp
   ·exact ⟨g1,g2⟩
   ·exact h3 p hp
theorem zhs {K:PySem.W.Frag} {ρ:Loc} {H:Hp}:∀ns:List Int,AtAll K ρ H (ns.map .int) (ns.map V.int)
 | []=>.nil
 | n::ns=>.cons (.int n) (zhs ns)
theorem zmt {K:PySem.W.Frag} {ρ:Loc} {H:Hp}:∀ps:List (Addr × List Int),(∀p∈ps,H p.1=some (.tup (p.2.map V.int))∧Out ρ p.1)→AtAll K ρ H (rowsD (ps.map (·.2))) (ps.map fun p=>V.ref p.1)
 | [],_=>.nil
 | p::ps,h=>.cons (.tup (h p List.mem_cons_self).1 (h p List.mem_cons_self).2 (zhs _)) (zmt ps fun q hq=>h q (List.mem_cons_of_mem _ hq))
theorem zoh {K:PySem.W.Frag} {ρ:Loc} {st:Store} {H:Hp} (r:Rep K ρ st H) {p:Addr} {vs:List V} (hp:H p=some (.tup vs)):Out ρ p:=by
 refine ⟨fun z=>?_,fun z=>?_⟩
 ·obtain ⟨i,hi,e⟩:=List.getElem_of_mem z
  obtain ⟨x,_,q⟩:=r.has (n:=i) (a:=p) (by rw[List.getElem?_eq_getElem hi,e])
  cases x with
  | lst xs=>obtain ⟨_,e,_⟩:=q;rw[hp] at e;cases e
  | dT kvs=>obtain ⟨_,e,_⟩:=q;rw[hp] at e;cases e
  | fT kvs=>obtain ⟨_,_,e,_⟩:=q;rw[hp] at e;cases e
  | dead=>exact q
 ·obtain ⟨⟨u,hu⟩,_⟩:=r.gh p z
  rw[hp] at hu;cases hu
noncomputable def valD (kvs:List (List Int × D)) (k:List Int):Option D:=(kvs.find? fun kv=>decide (kv.1=k)).map (·.2)
noncomputable def putD (kvs:List (List Int × D)) (k:List Int) (v:D):List (List Int × D) :=
 if (kvs.any fun kv=>decide (kv.1=k))=true then kvs.map (fun kv=>if kv.1=k then (kv.1,v) else kv) else kvs++[(k,v)]
noncomputable def dropD (kvs:List (List Int × D)) (k:List Int):List (List Int × D):=kvs.filter fun kv=>decide (kv.1≠k)
theorem zoo {a b:List Int}:a.map (Sum.inl:Int→Key)=b.map Sum.inl↔a=b:=by
 constructor
 ·intro h
  exact (List.map_inj_right (f:=(Sum.inl:Int→Key)) fun x y e=>Sum.inl.inj e).mp h
 ·rintro rfl;rfl
section
variable {K:PySem.W.Frag} {ρ:Loc} {H:Hp} {kvs:List (List Int × D)} {vs:List (List Key × V)}
theorem KvAt.val (h:KvAt K ρ H kvs vs) (k:List Int):match valD kvs k with
  | some d=>∃v,valV vs (k.map Sum.inl)=some v∧At K ρ H d v
  | none=>valV vs (k.map Sum.inl)=none:=by
 induction h with
 | nil=>rfl
 | @cons p q ps qs h t ih =>
  obtain ⟨h1,h2⟩:=h
  by_cases e:p.1=k
  ·have e1:valD (p::ps) k=some p.2:=by simp[valD,List.find?_cons,e]
   rw[e1]
   exact ⟨q.2,zjd (by rw[h1,e]),h2⟩
  ·have e1:valD (p::ps) k=valD ps k:=by simp[valD,List.find?_cons,e]
   have e2:valV (q::qs) (k.map Sum.inl)=valV qs (k.map Sum.inl):=zje (by rw[h1,zoo];exact e)
   rw[e1,e2]
   exact ih
theorem KvAt.keys (h:KvAt K ρ H kvs vs):vs.map (·.1)=(kvs.map (·.1)).map fun ns=>ns.map Sum.inl:=by
 induction h with
 | nil=>rfl
 | @cons p q ps qs h t ih=>rw[List.map_cons,List.map_cons,List.map_cons,ih,h.1]
theorem KvAt.put (h:KvAt K ρ H kvs vs) (k:List Int) {d:D} {v:V} (a:At K ρ H d v):KvAt K ρ H (putD kvs k d) (putK vs (k.map Sum.inl) v):=by
 have any:∀{kvs:List (List Int × D)} {vs:List (List Key × V)},KvAt K ρ H kvs vs→(kvs.any fun kv=>decide (kv.1=k))=(vs.any fun kv=>decide (kv.1=k.map Sum.inl)):=fun h=>by
  induction h with
  | nil=>rfl
  | @cons p q ps qs h t ih =>
   rw[List.any_cons,List.any_cons,ih,h.1]
   congr 1
   simp only[zoo]
 unfold putD putK
 rw[any h]
 split
 ·rename_i hh
  clear hh any
  induction h with
  | nil=>exact .nil
  | @cons p q ps qs h t ih =>
   refine .cons ?_ ih
   obtain ⟨h1,h2⟩:=h
   dsimp only
   by_cases e:p.1=k
   ·rw[if_pos e,if_pos (by rw[h1,e])]
    exact ⟨h1,a⟩
   ·rw[if_neg e,if_neg (by rw[h1,zoo];exact e)]
    exact ⟨h1,h2⟩
 ·have app:∀{kvs:List (List Int × D)} {vs:List (List Key × V)},KvAt K ρ H kvs vs→KvAt K ρ H (kvs++[(k,d)]) (vs++[(k.map Sum.inl,v)]):=fun h=>by
   induction h with
   | nil=>exact .cons ⟨rfl,a⟩ .nil
   | cons h t ih=>exact .cons h ih
  exact app h
theorem KvAt.drop (h:KvAt K ρ H kvs vs) (k:List Int):KvAt K ρ H (dropD kvs k) (dropK vs (k.map Sum.inl)):=by
 unfold dropD dropK
 induction h with
 | nil=>exact .nil
 | @cons p q ps qs h t ih =>
  by_cases e:p.1=k
  ·rw[List.filter_cons_of_neg (by simp[e]),List.filter_cons_of_neg (by simp[h.1,e])]
   exact ih
  ·rw[List.filter_cons_of_pos (by simp[e]),List.filter_cons_of_pos (by simp[h.1,zoo,e])]
   exact .cons h ih
theorem KvAt.length (h:KvAt K ρ H kvs vs):kvs.length=vs.length:=Paired.length h
end
noncomputable def pairsOf (st:Store):D→Option (List (List Int × D))
 | .ref n=>match st[n]? with
  | some (.dT kvs)=>some kvs
  | some (.fT kvs)=>some kvs
  | _=>none
 | _=>none
theorem zmw {K:PySem.W.Frag} {ρ:Loc} {st:Store} {H:Hp} (rp:Rep K ρ st H) {d:D} {u:V} {kvs:List (List Int × D)} (a:At K ρ H d u) (e:pairsOf st d=some kvs):∃p vs,u=.ref p∧Rd H p (.dT vs)∧KvAt K ρ H kvs vs:=by
 unfold pairsOf at e
 split at e
 ·split at e
  ·rename_i h
   cases e
   obtain ⟨p,rfl,hp,vs,q1,q2⟩:=ref_at rp a h (by intro z;cases z)
   exact ⟨p,vs,rfl,.inl q1,q2⟩
  ·rename_i h
   cases e
   obtain ⟨p,rfl,hp,vs,ob,q1,q2⟩:=ref_at rp a h (by intro z;cases z)
   exact ⟨p,vs,rfl,.inr ⟨ob,q1⟩,q2⟩
  ·cases e
 ·cases e
noncomputable def keyOf:D→Option (List Int)
 | .tup ds=>asInts ds
 | _=>none
theorem key_at {K:PySem.W.Frag} {ρ:Loc} {H:Hp} {d:D} {u:V} {k:List Int} (a:At K ρ H d u) (e:keyOf d=some k):∃p,u=.ref p∧H p=some (.tup ((k.map (Sum.inl:Int→Key)).map kV)):=by
 unfold keyOf at e
 split at e
 ·cases a with
  | tup h1 h2 h3 =>
   have:=zcs h3 e
   subst this
   exact ⟨_,rfl,by rw[zwy];exact h1⟩
 ·cases e
theorem zsp {K:PySem.W.Frag} {ρ:Loc} {st:Store} {H:Hp} (rp:Rep K ρ st H) {d y:D} {u w:V} {kvs:List (List Int × D)} {k:List Int} (a:At K ρ H d u) (b:At K ρ H y w) (e:pairsOf st d=some kvs) (e2:keyOf y=some k) :
  ∃p o,u=.ref p∧DGet H p w o∧match valD kvs k with
   | some z=>∃v,o=some v∧At K ρ H z v
   | none=>o=none:=by
 obtain ⟨p,vs,rfl,h1,h2⟩:=zmw rp a e
 obtain ⟨q,rfl,h3⟩:=key_at b e2
 refine ⟨p,valV vs (k.map Sum.inl),rfl,.inr ⟨vs,_,q,h1,rfl,h3,rfl⟩,?_⟩
 have:=h2.val k
 cases hv:valD kvs k with
 | none=>rw[hv] at this;exact this
 | some z=>rw[hv] at this;exact this
noncomputable def oDIn (neg:Bool) (y x:D) (st:Store):Res D:=match keyOf y,pairsOf st x with
 | some k,some kvs=>.ok (.bl (if neg then !(valD kvs k).isSome else (valD kvs k).isSome)) st
 | _,_=>.stuck
noncomputable def oDGet (x y:D) (st:Store):Res D:=match pairsOf st x,keyOf y with
 | some kvs,some k=>match valD kvs k with
  | some v=>.ok v st
  | none=>.stuck
 | _,_=>.stuck
noncomputable def eDGet2 (f g h:SE):SE:=fun σ st=>(f σ st).bind fun x st1=>match pairsOf st1 x with
 | some _=>(g σ st1).bind fun y st2=>(h σ st2).bind fun z st3=>match pairsOf st3 x,keyOf y with
  | some kvs,some k=>.ok ((valD kvs k).getD z) st3
  | _,_=>.stuck
 | none=>.stuck
noncomputable def eDPop (f g:SE):SE:=fun σ st=>(f σ st).bind fun x st1=>match pairsOf st1 x with
 | some _=>(g σ st1).bind fun y st2=>match x,keyOf y with
  | .ref n,some k=>match st2[n]? with
   | some (.dT kvs)=>match valD kvs k with
    | some v=>.ok v (st2.set n (.dT (dropD kvs k)))
    | none=>.stuck
   | _=>.stuck
  | _,_=>.stuck
 | none=>.stuck
noncomputable def sDPut (f g h:SE):SS:=fun σ st=>(h σ st).bind fun v st1=>(f σ st1).bind fun x st2=>(g σ st2).bind fun y st3=>match x,keyOf y with
 | .ref n,some k=>match st3[n]? with
  | some (.dT kvs)=>if kvs.length < sizeLine then .ok (.nx σ) (st3.set n (.dT (putD kvs k v))) else .stuck
  | _=>.stuck
 | _,_=>.stuck
noncomputable def eDNew:SE:=fun _ st=>.ok (.ref st.length) (st++[.dT []])
section
variable {X:Cx} {a b c o i e value f':Expr} {f g h:SE} {pos pos' apos cpos:Pos}
theorem isD_of {K:PySem.W.Frag} {ρ:Loc} {st:Store} {H:Hp} (rp:Rep K ρ st H) {d:D} {u:V} {kvs:List (List Int × D)} (a:At K ρ H d u) (e:pairsOf st d=some kvs):∃p,u=.ref p∧IsD H p:=by
 obtain ⟨p,vs,rfl,h1,_⟩:=zmw rp a e
 exact ⟨p,rfl,.inr ⟨vs,h1⟩⟩
theorem d_dnew:DE X (.Dict [] [] pos) eDNew:=pe_to zyp fun τ H Q hq0 p hp=>by
 obtain ⟨ρ,σ,st,v,st',a,rp,e,q⟩:=hq0
 cases e
 obtain ⟨E,R⟩:=rp.alloc hp (x:=.dT []) (o:=.dT []) fun E=>⟨[],zw,.nil⟩
 exact q _ _ _ E R (.last rp.len.symm)
theorem pc_in (hu:X.A.units+1 < cLine) (hi:DE X i g) (ho:DE X o f):PC X .In i o (tD X.K (eOp (oDIn false) g f)):=fun pins s σ H Q I hq=>by
 refine pc_din hu hi ho pins s σ H Q I ?_
 obtain ⟨ρ,σ',st,v,st',a,rp,e,q⟩:=hq
 obtain ⟨x,st1,e1,e⟩:=zc e
 obtain ⟨y,st2,e2,e⟩:=zc e
 refine ⟨ρ,σ',st,x,st1,a,rp,e1,fun ρ1 H1 u x1 rp1 a1=>?_⟩
 refine ⟨ρ1,σ',st1,y,st2,a.ext x1,rp1,e2,fun ρ2 H2 w x2 rp2 a2=>?_⟩
 unfold oDIn at e
 split at e
 ·rename_i kk vv h1 h2
  cases e
  obtain ⟨p,oo,rfl,g1,g2⟩:=zsp rp2 a2 (a1.ext x2) h2 h1
  refine ⟨p,oo,rfl,g1,?_⟩
  have:oo.isSome=(valD vv kk).isSome:=by
   revert g2
   split
   ·rename_i hv
    rintro ⟨v,rfl,_⟩
    rw[hv];rfl
   ·rename_i hv
    rintro rfl
    rw[hv];rfl
  rw[this]
  exact q _ _ _ (x1.trans x2) rp2 (.bl _)
 ·cases e
theorem dt_in {op:CmpOp} {t:SE} (h:PC X op a b (tD X.K t)) (h1:behindInMarks op b=false:=by first | exact nobehind _ (by decide) (by decide) | rfl):DT X (.Compare a [op] [b] pos) (eB t):=pt_to (pt_cmp h h1) fun τ H Q hh=>eB_t _ _ _ hh
theorem d_dget (hu:X.A.units+1 < cLine) (ho:DE X o f) (hi:DE X i g) (hs:NoSl i):DE X (.Subscript o i pos) (eOp oDGet f g):=pe_to (zbbr hu ho hi hs) fun τ H Q hq0=>by
 obtain ⟨ρ,σ,st,v,st',a,rp,e,q⟩:=hq0
 obtain ⟨x,st1,e1,e⟩:=zc e
 obtain ⟨y,st2,e2,e⟩:=zc e
 refine ⟨ρ,σ,st,x,st1,a,rp,e1,fun ρ1 H1 u x1 rp1 a1=>?_⟩
 refine ⟨ρ1,σ,st1,y,st2,a.ext x1,rp1,e2,fun ρ2 H2 w x2 rp2 a2=>?_⟩
 unfold oDGet at e
 split at e
 ·rename_i h1 h2
  split at e
  ·rename_i z hv
   cases e
   obtain ⟨p,oo,rfl,g1,g2⟩:=zsp rp2 (a1.ext x2) a2 h1 h2
   rw[hv] at g2
   obtain ⟨vv,rfl,g3⟩:=g2
   exact ⟨p,vv,rfl,g1,q _ _ _ (x1.trans x2) rp2 g3⟩
  ·cases e
 ·cases e
theorem zbdn (hu : X.A.units + 1 < cLine) (ho : DE X o f) (he : DE X e g) (hf : DE X f' h) (m : M2 X o "get" apos e f' cpos) : DE X (.Call (.Attribute o "get" apos) [e, f'] [] cpos) (eDGet2 f g h) := pe_to (zyq hu ho he hf m) fun τ H Q hq0 => by
 obtain ⟨ρ,σ,st,v,st',a,rp,e,q⟩:=hq0
 obtain ⟨x,st1,e1,e⟩:=zc e
 refine ⟨ρ,σ,st,x,st1,a,rp,e1,fun ρ1 H1 u x1 rp1 a1=>?_⟩
 split at e
 ·rename_i h0
  obtain ⟨p,rfl,hd⟩:=isD_of rp1 a1 h0
  obtain ⟨y,st2,e2,e⟩:=zc e
  obtain ⟨z,st3,e3,e⟩:=zc e
  refine ⟨p,rfl,hd,?_⟩
  refine ⟨ρ1,σ,st1,y,st2,a.ext x1,rp1,e2,fun ρ2 H2 w x2 rp2 a2=>?_⟩
  refine ⟨ρ2,σ,st2,z,st3,a.ext (x1.trans x2),rp2,e3,fun ρ3 H3 t x3 rp3 a3=>?_⟩
  split at e
  ·rename_i h1 h2
   cases e
   obtain ⟨p',oo,ep,g1,g2⟩:=zsp rp3 (a1.ext (x2.trans x3)) (a2.ext x3) h1 h2
   cases ep
   refine ⟨oo,g1,q _ _ _ (x1.trans (x2.trans x3)) rp3 ?_⟩
   revert g2
   split
   ·rename_i hv
    rintro ⟨vv,rfl,g3⟩
    rw[hv]
    exact g3
   ·rename_i hv
    rintro rfl
    rw[hv]
    exact a3
  ·cases e
 ·cases e
theorem d_dpop (hu : X.A.units + 1 < cLine) (ho : DE X o f) (he : DE X e g) (m : M1 X o "pop" apos e cpos) : DE X (.Call (.Attribute o "pop" apos) [e] [] cpos) (eDPop f g) := pe_to (zyo hu ho he m) fun τ H Q hq0 => by
 obtain ⟨ρ,σ,st,v,st',a,rp,e,q⟩:=hq0
 obtain ⟨x,st1,e1,e⟩:=zc e
 refine ⟨ρ,σ,st,x,st1,a,rp,e1,fun ρ1 H1 u x1 rp1 a1=>?_⟩
 split at e
 ·rename_i h0
  obtain ⟨p,rfl,hd⟩:=isD_of rp1 a1 h0
  obtain ⟨y,st2,e2,e⟩:=zc e
  refine ⟨p,rfl,hd,?_⟩
  refine ⟨ρ1,σ,st1,y,st2,a.ext x1,rp1,e2,fun ρ2 H2 w x2 rp2 a2=>?_⟩
  split at e
  ·rename_i n k hk _
   split at e
   ·rename_i kvs hn
    split at e
    ·rename_i z hv
     cases e
     obtain ⟨p',ep,hp,vs,g1,g2⟩:=ref_at rp2 (a1.ext x2) hn (by intro z;cases z)
     cases ep
     obtain ⟨b,rfl,g3⟩:=key_at a2 hk
     have g4:=g2.val k
     rw[hv] at g4
     obtain ⟨vv,g5,g6⟩:=g4
     have E:Ext ρ2 H2 ρ2 (upd H2 p (.dT (dropK vs (k.map Sum.inl)))):=Ext.wr hp (zir g1) _
     exact ⟨vs,_,vv,b,g1,rfl,g3,g5,q _ _ _ ((x1.trans x2).trans E) (rp2.wr hp (zir g1) ⟨_,zw,(g2.drop k).ext E⟩) (g6.ext E)⟩
    ·cases e
   ·cases e
  ·cases e
 ·cases e
theorem zbda (hu:X.A.units+1 < cLine) (ho:DE X o f) (hi:DE X i g) (hv:DE X value h) (hs:swapsWith value (some (.Subscript o i pos')) pos.line X.env=pure false) :
  DSt X (.Assign [.Subscript o i pos'] value pos) (sDPut f g h):=ps_to (zbbi hu ho hi hv hs) fun E τ H hq0=>by
 obtain ⟨ρ,σ,st,fl,st',a,rp,e,q⟩:=hq0
 obtain ⟨v,st1,e1,e⟩:=zc e
 obtain ⟨x,st2,e2,e⟩:=zc e
 obtain ⟨y,st3,e3,e⟩:=zc e
 refine ⟨ρ,σ,st,v,st1,a,rp,e1,fun ρ1 H1 u x1 rp1 a1=>?_⟩
 refine ⟨ρ1,σ,st1,x,st2,a.ext x1,rp1,e2,fun ρ2 H2 w x2 rp2 a2=>?_⟩
 refine ⟨ρ2,σ,st2,y,st3,a.ext (x1.trans x2),rp2,e3,fun ρ3 H3 t x3 rp3 a3=>?_⟩
 split at e
 ·rename_i n k hk _
  split at e
  ·rename_i kvs hn
   split at e
   ·rename_i hl
    cases e
    obtain ⟨p,rfl,hp,vs,g1,g2⟩:=ref_at rp3 (a2.ext x3) hn (by intro z;cases z)
    obtain ⟨b,rfl,g3⟩:=key_at a3 hk
    have E:Ext ρ3 H3 ρ3 (upd H3 p (.dT (putK vs (k.map Sum.inl) u))):=Ext.wr hp (zir g1) _
    refine ⟨p,_,rfl,DPut.t g1 g3 (by rw[← g2.length];exact hl),?_⟩
    exact q _ _ _ ((x1.trans (x2.trans x3)).trans E) (rp3.wr hp (zir g1) ⟨_,zw,(g2.put k (a1.ext (x2.trans x3))).ext E⟩) (a.ext ((x1.trans (x2.trans x3)).trans E))
   ·cases e
  ·cases e
 ·cases e
end
noncomputable def bSorted:List D→Store→Res D:=fun xs st=>match xs with
 | [x]=>match (asL st x).bind asRows with
  | some l=>if l.length≤1000000 then .ok (.lst (rowsD (sortR l))) st else .stuck
  | none=>match pairsOf st x with
   | some kvs=>if kvs.length≤1000000 then .ok (.lst (rowsD (sortR (kvs.map (·.1))))) st else .stuck
   | none=>.stuck
 | _=>.stuck
theorem zpf {K:PySem.W.Frag}:CaD K bSorted (fun xs H Q=>rSortedAL K xs H Q∨rSortedDAL xs H Q):=fun ρ H st xs us z st' Q rp aa e q=>by
 unfold bSorted at e
 split at e
 ·obtain ⟨u,rfl,a⟩:=aa.one
  split at e
  ·rename_i l hl
   obtain ⟨ys,h0,hl⟩:=Option.bind_eq_some_iff.mp hl
   split at e
   ·rename_i few
    cases e
    obtain ⟨p,vs,rfl,h1,h2⟩:=asL_at rp a h0
    obtain ⟨ps,rfl,rfl,h3⟩:=zpg h2 hl
    rw[List.length_map] at few
    refine .inl ⟨p,ps,rfl,SqL.of h1,few,fun x hx=>SqT.of (h3 x hx).1,fun t qs ht hp hs=>?_⟩
    have e2:qs.map (·.2)=sortR (ps.map (·.2)):=zmq (hp.map _) hs
    refine q _ _ _ (Ext.new ht _) (rp.new ht _) (.newL rp ht ?_)
    rw[← e2]
    exact zmt qs fun x hx=>h3 x (hp.mem_iff.mp hx)
   ·cases e
  ·split at e
   ·rename_i kvs hk
    split at e
    ·rename_i few
     cases e
     obtain ⟨p,vs,rfl,h1,h2⟩:=zmw rp a hk
     refine .inr ⟨p,vs,kvs.map (·.1),rfl,h1,h2.keys,by rw[List.length_map];exact few,fun t qs ht hp hs hq=>?_⟩
     have e2:qs.map (·.2)=sortR (kvs.map (·.1)):=zmq hp hs
     refine q _ _ _ (Ext.new ht _) (rp.new ht _) (.newL rp ht ?_)
     rw[← e2]
     exact zmt qs fun x hx=>⟨hq x hx,zoh rp (hq x hx)⟩
    ·cases e
   ·cases e
 ·cases e
theorem zhy {X : Cx} (hc : X.calm = true) (hu : X.A.units + 64 < cLine) : CallR X (.builtin "sorted") (fun xs H Q => rSortedAL X.K xs H Q ∨ rSortedDAL xs H Q) := (zme hu).or (zkm hc hu)
end Dd
set_option maxHeartbeats 4000000
namespace Dd
open PySem L2
noncomputable def eAppend (f:SE) (g:SA):SE:=fun σ st=>(f σ st).bind fun x st1=>match x,asL st1 x with
 | .ref n,some _=>(g σ st1).bind fun ys st2=>match ys,st2[n]? with
  | [y],some (.lst xs)=>if xs.length < sizeLine then .ok .non (st2.set n (.lst (xs++[y]))) else .stuck
  | _,_=>.stuck
 | _,_=>.stuck
noncomputable def eExtend (f:SE) (g:SA):SE:=fun σ st=>(f σ st).bind fun x st1=>match x,asL st1 x with
 | .ref n,some _=>(g σ st1).bind fun ys st2=>match ys,st2[n]? with
  | [y],some (.lst xs)=>match asL st2 y with
   | some zs=>if xs.length+zs.length≤sizeLine then .ok .non (st2.set n (.lst (xs++zs))) else .stuck
   | none=>.stuck
  | _,_=>.stuck
 | _,_=>.stuck
section
variable {X:Cx} {o e i value:Expr} {es:List Expr} {f g h:SE} {ga:SA} {pos apos cpos:Pos}
theorem zbad (ho : DE X o f) (ha : DA X (e :: es) ga) (hbase : attributeBase o "append" X.env (eval o X.env) = eval o X.env := by rfl)
  (hfew:((backTo cpos (starEach (e::es) X.env)).all (fun x=>!x.1) && (backToKw cpos (keywordEach [] X.env)).all (fun x=>x.1.isSome)
   && decide ((e::es).length+([]:List Keyword).length+(if ([]:List Keyword).isEmpty then 0 else 1) < 30))=true:=by rfl)
  (hline:(apos.endLine == cpos.line)=true:=by rfl) (hs:starEach (e::es) X.env=(false,eval e X.env)::starEach es X.env:=by rfl) (hplain:(backTo cpos (starEach es X.env)).any (·.1)=false:=by rfl) :
  DE X (.Call (.Attribute o "append" apos) (e :: es) [] cpos) (eAppend f ga) := pe_to (pe_bm PySem.F.plainAttrs_list PySem.F.slot_list_append PySem.F.type_list_append zoi ho ha hbase hfew hline hs hplain) fun τ H Q hq0 => by
 obtain ⟨ρ,σ,st,v,st',a,rp,e,q⟩:=hq0
 obtain ⟨x,st1,e1,e⟩:=zc e
 refine ⟨ρ,σ,st,x,st1,a,rp,e1,fun ρ1 H1 u x1 rp1 a1=>?_⟩
 split at e
 ·rename_i n _ hL
  obtain ⟨ys,st2,e2,e⟩:=zc e
  obtain ⟨p,vs,rfl,g1,g2⟩:=asL_at rp1 a1 hL
  refine ⟨.inl ⟨rfl,_,SqL.of g1⟩,ρ1,σ,st1,ys,st2,a.ext x1,rp1,e2,fun ρ2 H2 ws x2 rp2 a2=>?_⟩
  split at e
  ·rename_i y xs hn
   split at e
   ·rename_i hl
    cases e
    obtain ⟨w,rfl,a3⟩:=a2.one
    obtain ⟨p',ep,hp,vs2,k1,k2⟩:=ref_at rp2 (a1.ext x2) hn (by intro z;cases z)
    cases ep
    have E:Ext ρ2 H2 ρ2 (upd H2 p (.lst (vs2++[w]))):=Ext.wr hp (zgf k1) _
    exact ⟨p,vs2,w,rfl,rfl,k1,by rw[k2.length];exact hl,q _ _ _ ((x1.trans x2).trans E) (rp2.wr hp (zgf k1) ⟨_,zw,(k2.append (.cons a3 .nil)).ext E⟩) .non⟩
   ·cases e
  ·cases e
 ·cases e
theorem zbaa (ho : DE X o f) (ha : DA X (e :: es) ga) (hbase : attributeBase o "extend" X.env (eval o X.env) = eval o X.env := by rfl)
  (hfew:((backTo cpos (starEach (e::es) X.env)).all (fun x=>!x.1) && (backToKw cpos (keywordEach [] X.env)).all (fun x=>x.1.isSome)
   && decide ((e::es).length+([]:List Keyword).length+(if ([]:List Keyword).isEmpty then 0 else 1) < 30))=true:=by rfl)
  (hline:(apos.endLine == cpos.line)=true:=by rfl) (hs:starEach (e::es) X.env=(false,eval e X.env)::starEach es X.env:=by rfl) (hplain:(backTo cpos (starEach es X.env)).any (·.1)=false:=by rfl) :
  DE X (.Call (.Attribute o "extend" apos) (e :: es) [] cpos) (eExtend f ga) := pe_to (pe_bm PySem.F.plainAttrs_list PySem.F.slot_list_extend PySem.F.type_list_extend zuo ho ha hbase hfew hline hs hplain) fun τ H Q hq0 => by
 obtain ⟨ρ,σ,st,v,st',a,rp,e,q⟩:=hq0
 obtain ⟨x,st1,e1,e⟩:=zc e
 refine ⟨ρ,σ,st,x,st1,a,rp,e1,fun ρ1 H1 u x1 rp1 a1=>?_⟩
 split at e
 ·rename_i n _ hL
  obtain ⟨ys,st2,e2,e⟩:=zc e
  obtain ⟨p,vs,rfl,g1,g2⟩:=asL_at rp1 a1 hL
  refine ⟨.inl ⟨rfl,_,SqL.of g1⟩,ρ1,σ,st1,ys,st2,a.ext x1,rp1,e2,fun ρ2 H2 ws x2 rp2 a2=>?_⟩
  split at e
  ·rename_i y xs hn
   split at e
   ·rename_i zs hz
    split at e
    ·rename_i hl
     cases e
     obtain ⟨w,rfl,a3⟩:=a2.one
     obtain ⟨p',ep,hp,vs2,k1,k2⟩:=ref_at rp2 (a1.ext x2) hn (by intro z;cases z)
     cases ep
     obtain ⟨b,ws2,rfl,m1,m2⟩:=asL_at rp2 a3 hz
     have E:Ext ρ2 H2 ρ2 (upd H2 p (.lst (vs2++ws2))):=Ext.wr hp (zgf k1) _
     exact ⟨p,b,vs2,ws2,rfl,rfl,k1,m1,by rw[k2.length,m2.length];exact hl,q _ _ _ ((x1.trans x2).trans E) (rp2.wr hp (zgf k1) ⟨_,zw,(k2.append m2).ext E⟩) .non⟩
    ·cases e
   ·cases e
  ·cases e
 ·cases e
noncomputable def eFz (f:SE):SE:=fun σ st=>(f σ st).bind fun x st1=>match x with
 | .ref n=>match st1[n]? with
  | some (.lst xs)=>.ok (.lst xs) (st1.set n .dead)
  | _=>.stuck
 | _=>.stuck
theorem d_fz (ho:DE X o f):DE X o (eFz f):=pe_to ho fun τ H Q hq0=>by
 obtain ⟨ρ,σ,st,v,st',a,rp,e,q⟩:=hq0
 obtain ⟨x,st1,e1,e⟩:=zc e
 refine ⟨ρ,σ,st,x,st1,a,rp,e1,fun ρ1 H1 u x1 rp1 a1=>?_⟩
 split at e
 ·rename_i n
  split at e
  ·rename_i xs hn
   cases e
   obtain ⟨p,rfl,hp,vs2,k1,k2⟩:=ref_at rp1 a1 hn (by intro z;cases z)
   have hlen:=(List.getElem?_eq_some_iff.mp hp).1
   obtain ⟨E,R⟩:=rp1.kill hlen
   refine q _ _ _ (x1.trans E) R (.lst k1 ⟨fun z=>?_,fun z=>(rp1.gh p z).2 (List.mem_of_getElem? hp)⟩ (k2.ext E))
   obtain ⟨i,hi,e2⟩:=List.getElem_of_mem z
   have e3:(ρ1.m.set n none)[i]?=some (some p):=by rw[List.getElem?_eq_getElem hi,e2]
   by_cases hin:i=n
   ·subst hin
    rw[List.getElem?_set_self hlen] at e3
    simp at e3
   ·rw[List.getElem?_set_ne (Ne.symm hin)] at e3
    exact hin (rp1.inj i n p e3 hp)
  ·cases e
 ·cases e
end
noncomputable def sNx:SS:=fun σ st=>.ok (.nx σ) st
noncomputable def sBrk:SS:=fun σ st=>.ok (.brk σ) st
noncomputable def sCt:SS:=fun σ st=>.ok (.ct σ) st
noncomputable def sRet (f:SE):SS:=fun σ st=>(f σ st).bind fun v st1=>.ok (.ret v) st1
noncomputable def sRetN:SS:=fun _ st=>.ok (.ret .non) st
noncomputable def sDrop (f:SE):SS:=fun σ st=>(f σ st).bind fun _ st1=>.ok (.nx σ) st1
noncomputable def sSet (i:Nat) (f:SE):SS:=fun σ st=>(f σ st).bind fun v st1=>.ok (.nx (σ.set i (some v))) st1
noncomputable def sSeq (s t:SS):SS:=fun σ st=>match s σ st with
 | .ok (.nx σ1) st1=>t σ1 st1
 | r=>r
noncomputable def sIf (c:ST) (s t:SS):SS:=fun σ st=>(c σ st).bind fun b st1=>if b=true then s σ st1 else t σ st1
noncomputable def sAug (i:Nat) (g:D→D→Store→Res D) (f:SE):SS:=fun σ st=>match σ[i]? with
 | some (some x)=>(f σ st).bind fun y st1=>(g x y st1).bind fun z st2=>.ok (.nx (σ.set i (some z))) st2
 | _=>.stuck
noncomputable def sSetIx (f g h:SE):SS:=fun σ st=>(h σ st).bind fun v st1=>(f σ st1).bind fun x st2=>(g σ st2).bind fun y st3=>match x,y with
 | .ref n,.int k=>match st3[n]? with
  | some (.lst xs)=>match ixN xs.length k with
   | some j=>.ok (.nx σ) (st3.set n (.lst (xs.set j v)))
   | none=>.stuck
  | _=>.stuck
 | _,_=>.stuck
section
variable {X:Cx} {e c o i value:Expr} {sm:Stmt} {rest:List Stmt} {f g h:SE} {s t:SS} {b:ST} {pos pos':Pos}
theorem ds_nil:DSs X [] sNx:=pss_to zbbf fun E τ H hq0=>by
 obtain ⟨ρ,σ,st,fl,st',a,rp,e,q⟩:=hq0
 cases e
 exact q _ _ _ (.refl _ _) rp a
theorem ds_ret (he:DE X e f):DSt X (.Return (some e) pos) (sRet f):=ps_to (ps_ret he) fun E τ H hq0=>by
 obtain ⟨ρ,σ,st,fl,st',a,rp,e,q⟩:=hq0
 obtain ⟨x,st1,e1,e⟩:=zc e
 cases e
 exact ⟨ρ,σ,st,x,_,a,rp,e1,fun ρ1 H1 u x1 rp1 a1=>q _ _ _ x1 rp1 a1⟩
theorem zbcz (he:DE X e f) (hs:swapsWith e none pos.line X.env=pure false:=by rfl):DSt X (.Expr e pos) (sDrop f):=ps_to (zbbh he hs) fun E τ H hq0=>by
 obtain ⟨ρ,σ,st,fl,st',a,rp,e,q⟩:=hq0
 obtain ⟨x,st1,e1,e⟩:=zc e
 cases e
 exact ⟨ρ,σ,st,x,_,a,rp,e1,fun ρ1 H1 u x1 rp1 a1=>q _ _ _ x1 rp1 (a.ext x1)⟩
theorem set_t {K:PySem.W.Frag} {i:Nat} {f:SE}:∀E τ H,tDS K (sSet i f) E τ H→tAsg (tD K f) (gName i) E τ H:=fun E τ H hq0=>by
 obtain ⟨ρ,σ,st,fl,st',a,rp,e,q⟩:=hq0
 obtain ⟨x,st1,e1,e⟩:=zc e
 cases e
 exact ⟨ρ,σ,st,x,_,a,rp,e1,fun ρ1 H1 u x1 rp1 a1=>q _ _ _ x1 rp1 ((a.ext x1).set a1 i)⟩
theorem ds_set {i:Nat} {x:Str} (hN:X.N.Nodup) (hi:X.N[i]?=some x) (hx:L2.Loc X.env.scope x) (he:DE X e f) (hs:swapsWith e (some (.Name x pos')) pos.line X.env=pure false:=by rfl) (hf:X.fn x=true∨X.env.scope.names.lookup x=some .local:=by first | exact .inl rfl | exact .inr rfl | assumption) :
 DSt X (.Assign [.Name x pos'] e pos) (sSet i f):=ps_to (ps_set hN hi hx he hs hf) set_t
theorem ds_one (h1:DSt X sm s):DSs X [sm] s:=zbbe h1
theorem zbdb (h1:DSt X sm s) (h2:DSs X rest t):DSs X (sm::rest) (sSeq s t):=pss_to (zyh h1 h2) fun E τ H hq0=>by
 obtain ⟨ρ,σ,st,fl,st',a,rp,e,q⟩:=hq0
 unfold sSeq at e
 split at e
 ·rename_i σ1 st1 e1
  exact ⟨ρ,σ,st,_,st1,a,rp,e1,fun ρ1 H1 τ1 x1 rp1 a1=>⟨ρ1,σ1,st1,fl,st',a1,rp1,e,q.ext x1⟩⟩
 ·rename_i hne
  refine ⟨ρ,σ,st,fl,st',a,rp,e,?_⟩
  cases fl with
  | nx σ'=>exact absurd e (hne σ' st')
  | brk σ'=>exact q
  | ct σ'=>exact q
  | ret v=>exact q
theorem ds_if {a' b':List Stmt} (hc:DT X c b) (ha:DSs X a' s) (hb:DSs X b' t):DSt X (.If c a' b' pos) (sIf b s t):=ps_to (ps_if hc ha hb) fun E τ H hq0=>by
 obtain ⟨ρ,σ,st,fl,st',a,rp,e,q⟩:=hq0
 obtain ⟨x,st1,e1,e⟩:=zc e
 refine ⟨ρ,σ,st,x,st1,a,rp,e1,fun ρ1 H1 x1 rp1=>?_⟩
 cases x with
 | true=>exact iteT ⟨ρ1,σ,st1,fl,st',a.ext x1,rp1,e,q.ext x1⟩
 | false=>exact iteF ⟨ρ1,σ,st1,fl,st',a.ext x1,rp1,e,q.ext x1⟩
noncomputable def IpD (K:PySem.W.Frag) (g:D→D→Store→Res D) (r:TIp):Prop :=
 ∀ρ H st x y u v z st' (Q:VK),Rep K ρ st H→At K ρ H x u→At K ρ H y v→g x y st=.ok z st'→(∀ρ' H' w,Ext ρ H ρ' H'→Rep K ρ' st' H'→At K ρ' H' z w→Q w H')→r u v H Q
theorem ds_aug {i:Nat} {x:Str} {op:Operator} {ti:TIp} {g:D→D→Store→Res D} (hN:X.N.Nodup) (hi:X.N[i]?=some x) (hx:L2.Loc X.env.scope x) (he:DE X e f) (ho:PIp X op ti) (hr:IpD X.K g ti) (hf:X.fn x=true∨X.env.scope.names.lookup x=some .local:=by first | exact .inl rfl | exact .inr rfl | assumption) :
  DSt X (.AugAssign (.Name x pos') op e pos) (sAug i g f):=ps_to (ps_aug hN hi hx he ho hf) fun E τ H hq0=>by
 obtain ⟨ρ,σ,st,fl,st',a,rp,e,q⟩:=hq0
 unfold sAug at e
 split at e
 ·rename_i d hd
  obtain ⟨y,st1,e1,e⟩:=zc e
  obtain ⟨z,st2,e2,e⟩:=zc e
  cases e
  obtain ⟨u,hu,a0⟩:=a.get hd
  refine ⟨u,hu,ρ,σ,st,y,st1,a,rp,e1,fun ρ1 H1 w x1 rp1 a1=>?_⟩
  exact hr ρ1 H1 st1 d y u w z st' _ rp1 (a0.ext x1) a1 e2 fun ρ2 H2 zz x2 rp2 a2=>q _ _ _ (x1.trans x2) rp2 ((a.ext (x1.trans x2)).set a2 i)
 ·cases e
theorem ip_D {K:PySem.W.Frag} {p:Int→Int→Int}:IpD K (oI (fun _ _=>True) fun i j=>.int (p i j)) (ipI p):=fun ρ H st x y u v z st' Q rp a b e q=>by
 unfold oI at e
 split at e
 ·cases a
  cases b
  rw[if_pos True.intro] at e
  cases e
  exact ⟨_,_,rfl,rfl,q _ _ _ (.refl _ _) rp (.int _)⟩
 ·cases e
theorem zzt (he:DE X value h) (ho:DE X o f) (hi:DE X i g) (ha:∀v,assign (.Subscript o i pos') X.env v=(do
   let ov ← holding [v] (eval o X.env)
   let iv ← holding [v,ov] (eval i X.env)
   standAt pos'
   holding [v,ov,iv] (setItem ov iv v)
   release [v,ov,iv] []):=by intro _;rfl)
  (hs:swapsWithSole [.Subscript o i pos'] value pos.line X.env=pure false:=by rfl) (hw:swappedStores [.Subscript o i pos'] value X.env=pure none:=by rfl)
  (h1:(assignEach [.Subscript o i pos'] X.env).map (·.2)=[assign (.Subscript o i pos') X.env]:=by rfl):DSt X (.Assign [.Subscript o i pos'] value pos) (sSetIx f g h) :=
 ps_to (ps_asg he (pg_sub ho hi zyc ha) hs hw h1) fun E τ H hq0=>by
 obtain ⟨ρ,σ,st,fl,st',a,rp,e,q⟩:=hq0
 obtain ⟨v,st1,e1,e⟩:=zc e
 obtain ⟨x,st2,e2,e⟩:=zc e
 obtain ⟨y,st3,e3,e⟩:=zc e
 refine ⟨ρ,σ,st,v,st1,a,rp,e1,fun ρ1 H1 u x1 rp1 a1=>?_⟩
 refine ⟨ρ1,σ,st1,x,st2,a.ext x1,rp1,e2,fun ρ2 H2 w x2 rp2 a2=>?_⟩
 refine ⟨ρ2,σ,st2,y,st3,a.ext (x1.trans x2),rp2,e3,fun ρ3 H3 t x3 rp3 a3=>?_⟩
 split at e
 ·rename_i n k _
  split at e
  ·rename_i xs hn
   split at e
   ·rename_i j hj
    cases e
    cases a3
    obtain ⟨p,rfl,hp,vs,g1,g2⟩:=ref_at rp3 (a2.ext x3) hn (by intro z;cases z)
    have E:Ext ρ3 H3 ρ3 (upd H3 p (.lst (vs.set j u))):=Ext.wr hp (zgf g1) _
    refine ⟨p,vs,k,j,rfl,rfl,g1,by rw[g2.length];exact hj,?_⟩
    exact q _ _ _ ((x1.trans (x2.trans x3)).trans E) (rp3.wr hp (zgf g1) ⟨_,zw,(g2.set (a1.ext (x2.trans x3)) j).ext E⟩) (a.ext ((x1.trans (x2.trans x3)).trans E))
   ·cases e
  ·cases e
 ·cases e
end
end Dd
set_option maxHeartbeats 4000000
namespace Dd
open PySem L2
noncomputable abbrev SG:=D→DS→Option DS
noncomputable def gN (i:Nat):SG:=fun d σ=>some (σ.set i (some d))
noncomputable def gsNil:List D→DS→Option DS:=fun ds σ=>match ds with
 | []=>some σ
 | _=>none
noncomputable def gsCons (t:SG) (u:List D→DS→Option DS):List D→DS→Option DS:=fun ds σ=>match ds with
 | d::r=>(t d σ).bind fun σ1=>u r σ1
 | _=>none
noncomputable def gT (n:Nat) (u:List D→DS→Option DS):SG:=fun d σ=>match d with
 | .tup ds=>if ds.length=n then u ds σ else none
 | _=>none
noncomputable def gD (K:PySem.W.Frag) (b:SG):TG:=fun v τ H Q=>∃ρ σ d σ',AtS K ρ H σ τ∧At K ρ H d v∧b d σ=some σ'∧∀τ',AtS K ρ H σ' τ'→Q τ' H
noncomputable def gDs (K:PySem.W.Frag) (b:List D→DS→Option DS):TGs:=fun vs τ H Q=>∃ρ σ ds σ',AtS K ρ H σ τ∧AtAll K ρ H ds vs∧b ds σ=some σ'∧∀τ',AtS K ρ H σ' τ'→Q τ' H
noncomputable abbrev DG (X:Cx) (tg:Expr) (b:SG):Prop:=PG X tg (gD X.K b)
noncomputable abbrev DGs (X:Cx) (ts:List Expr) (b:List D→DS→Option DS):Prop:=PGs X ts (gDs X.K b)
section
variable {X:Cx} {pos:Pos} {e:Expr} {es:List Expr} {t:SG} {u:List D→DS→Option DS}
theorem pg_to {g g':TG} (h:PG X e g) (k:∀v τ H Q,g' v τ H Q→g v τ H Q):PG X e g':=fun pins s σ H v u Q I r q=>h pins s σ H v u Q I r (k _ _ _ _ q)
theorem pgs_to {g g':TGs} (h:PGs X es g) (k:∀v τ H Q,g' v τ H Q→g v τ H Q):PGs X es g':=fun pins s σ H v u Q I r q=>h pins s σ H v u Q I r (k _ _ _ _ q)
theorem zbdj {i:Nat} {x:Str} (hN:X.N.Nodup) (hi:X.N[i]?=some x) (hx:L2.Loc X.env.scope x) (hf:X.fn x=true∨X.env.scope.names.lookup x=some .local:=by first | exact .inl rfl | exact .inr rfl | assumption):DG X (.Name x pos) (gN i) :=
 pg_to (zbbq hN hi hx hf) fun v τ H Q hq0=>by
 obtain ⟨ρ,σ,d,σ',a,b,e,q⟩:=hq0
 cases e
 exact q _ (a.set b i)
theorem zbdi:DGs X [] gsNil:=pgs_to zbbp fun v τ H Q hq0=>by
 obtain ⟨ρ,σ,d,σ',a,b,e,q⟩:=hq0
 unfold gsNil at e
 split at e
 ·cases e
  cases b
  exact ⟨rfl,q _ a⟩
 ·cases e
theorem zzx (h1:DG X e t) (h2:DGs X es u) (hs:(assignEach (e::es) X.env).map (·.2)=assign e X.env::(assignEach es X.env).map (·.2):=by rfl):DGs X (e::es) (gsCons t u) :=
 pgs_to (zyl h1 h2 hs) fun v τ H Q hq0=>by
 obtain ⟨ρ,σ,d,σ',a,b,e,q⟩:=hq0
 unfold gsCons at e
 split at e
 ·obtain ⟨σ1,e1,e2⟩:=Option.bind_eq_some_iff.mp e
  cases b with
  | cons b1 b2=>exact ⟨_,_,rfl,ρ,σ,_,σ1,a,b1,e1,fun τ1 a1=>⟨ρ,σ1,_,σ',a1,b2,e2,q⟩⟩
 ·cases e
theorem dg_tup {k:Nat} {n:Nat} (hc:X.calm=true) (h:DGs X es u) (hn:(assignEach es X.env).length=n:=by rfl) (hst:(assignEach es X.env).findIdx? (·.1)=none:=by rfl):DG X (.Tuple es k pos) (gT n u) :=
 pg_to (pg_tup hc h hn hst) fun v τ H Q hq0=>by
 obtain ⟨ρ,σ,d,σ',a,b,e,q⟩:=hq0
 unfold gT at e
 split at e
 ·split at e
  ·rename_i hl
   cases b with
   | tup h1 h2 h3=>exact ⟨_,_,rfl,SqT.of h1,by rw[h3.length];exact hl,ρ,σ,_,σ',a,h3,e,q⟩
  ·cases e
 ·cases e
end
structure ExtG (ρ:Loc) (H:Hp) (ρ':Loc) (H':Hp):Prop where
 len:ρ.m.length≤ρ'.m.length
 old:∀(n:Nat) (a:Addr),n < ρ.m.length→ρ'.m[n]?=some (some a)→ρ.m[n]?=some (some a)
 keep:∀a o,H a=some o→some a∉ρ.m→H' a=some o∧some a∉ρ'.m
 gho:∀a∈ρ'.g,a∈ρ.g∨H a=none
 frz:∀a ob u,H a=some (.frz ob u)→H' a=some (.frz ob u)
theorem Ext.toG {ρ ρ':Loc} {H H':Hp} (x:Ext ρ H ρ' H'):ExtG ρ H ρ' H':=⟨x.len,x.old,x.keep,fun a h=>.inl (by rw[← x.gho];exact h),x.frz⟩
theorem ExtG.then {ρ ρ1 ρ2:Loc} {H H1 H2:Hp} (a:ExtG ρ H ρ1 H1) (b:Ext ρ1 H1 ρ2 H2):ExtG ρ H ρ2 H2 :=
 ⟨Nat.le_trans a.len b.len,fun n c h e=>a.old n c h (b.old n c (Nat.lt_of_lt_of_le h a.len) e),fun c o e n=>by
  obtain ⟨e1,n1⟩:=a.keep c o e n
  exact b.keep c o e1 n1,fun c h=>a.gho c (by rw[← b.gho];exact h),fun c ob u e=>b.frz c ob u (a.frz c ob u e)⟩
theorem ExtG.out {ρ ρ':Loc} {H H':Hp} (x:ExtG ρ H ρ' H') {a:Addr} {o:HO} (h:H a=some o) (n:Out ρ a):H' a=some o∧Out ρ' a :=
 ⟨(x.keep a o h n.1).1,(x.keep a o h n.1).2,fun z=>by
  rcases x.gho a z with q | q
  ·exact n.2 q
  ·rw[h] at q;cases q⟩
theorem ExtG.mv {ρ ρ':Loc} {H H':Hp} (x:ExtG ρ H ρ' H'):Mv ρ H ρ' H':=⟨fun h n=>x.out h n,x.len,x.old⟩
theorem At.extG {K:PySem.W.Frag} {ρ ρ':Loc} {H H':Hp} (x:ExtG ρ H ρ' H') {d:D} {v:V} (h:At K ρ H d v):At K ρ' H' d v:=h.mv x.mv
theorem Ls.extG {K:PySem.W.Frag} {ρ ρ':Loc} {H H':Hp} {a:Addr} {vs:List V} (x:ExtG ρ H ρ' H') (h:Ls K ρ H a vs):Ls K ρ' H' a vs:=h.mv x.mv
structure ItOk (K:PySem.W.Frag) (ρ:Loc) (H:Hp) (J:It) (xs:List D):Prop where
 item:∀ρ2 H2,ExtG ρ H ρ2 H2→∀(i:Nat) (x:D),xs[i]?=some x→J.go i H2∧∀y H3,J.yld i H2 y H3→Ext ρ2 H2 ρ2 H3∧∀st,Rep K ρ2 st H2→Rep K ρ2 st H3∧At K ρ2 H3 x y
 done:∀ρ2 H2,ExtG ρ H ρ2 H2→∀i:Nat,xs.length≤i→J.stop i H2
noncomputable def iD (K:PySem.W.Frag) (f:SA):TI:=fun τ H R=>∃ρ σ st xs st',AtS K ρ H σ τ∧Rep K ρ st H∧f σ st=.ok xs st'∧∀ρ' H' J,Ext ρ H ρ' H'→Rep K ρ' st' H'→ItOk K ρ' H' J xs→R J H'
noncomputable abbrev DI (X:Cx) (tg iter:Expr) (f:SA):Prop:=PI X tg iter (iD X.K f)
noncomputable def seqV:D→Option (List D)
 | .tup xs=>some xs
 | .lst xs=>some xs
 | .scr xs=>some xs
 | _=>none
noncomputable def iSeq (f:SE):SA:=fun σ st=>(f σ st).bind fun x st1=>match seqV x with
 | some xs=>.ok xs st1
 | none=>.stuck
noncomputable def rng (lo:Int) (n:Nat):List D:=(List.range n).map fun (i:Nat)=>D.int (lo+i)
noncomputable def iR1 (g:SA):SA:=fun σ st=>(g σ st).bind fun xs st1=>match xs with
 | [.int j]=>if -(2 ^ 62)≤j∧j < 2 ^ 62 then .ok (rng 0 j.toNat) st1 else .stuck
 | _=>.stuck
noncomputable def iR2 (g:SA):SA:=fun σ st=>(g σ st).bind fun xs st1=>match xs with
 | [.int i,.int j]=>if -(2 ^ 62)≤i∧i < 2 ^ 62∧-(2 ^ 62)≤j∧j < 2 ^ 62 then .ok (rng i (j - i).toNat) st1 else .stuck
 | _=>.stuck
theorem zfg {lo:Int} {n i:Nat} {x:D} (h:(rng lo n)[i]?=some x):i < n∧x=.int (lo+i):=by
 unfold rng at h
 rw[List.getElem?_map] at h
 rcases Nat.lt_or_ge i n with z | z
 ·rw[List.getElem?_range z] at h
  exact ⟨z,(Option.some.inj h).symm⟩
 ·rw[List.getElem?_eq_none (by rw[List.length_range];exact z)] at h
  cases h
theorem it_rng {K:PySem.W.Frag} {ρ:Loc} {H:Hp} {lo:Int} {n:Nat}:ItOk K ρ H (Itr lo n) (rng lo n) where
 item:=fun ρ2 H2 x i d e=>by
  obtain ⟨h1,rfl⟩:=zfg e
  refine ⟨h1,fun y H3 hy=>?_⟩
  obtain ⟨rfl,rfl⟩:=hy
  exact ⟨.refl _ _,fun _ r=>⟨r,.int _⟩⟩
 done:=fun ρ2 H2 x i h=>by
  unfold rng at h
  rw[List.length_map,List.length_range] at h
  exact h
section
variable {X:Cx} {tg l a b:Expr} {f:SE} {g:SA} {p pos:Pos}
theorem pi_to {t t':TI} (h:PI X tg l t) (k:∀τ H R,t' τ H R→t τ H R):PI X tg l t':=fun pins s σ H R I q=>h pins s σ H R I (k _ _ _ q)
theorem pi_or {t t':TI} (h:PI X tg l t) (h':PI X tg l t'):PI X tg l (fun τ H R=>t τ H R∨t' τ H R):=fun pins s σ H R I q=>by
 rcases q with q | q
 ·exact h pins s σ H R I q
 ·exact h' pins s σ H R I q
theorem zxs {K:PySem.W.Frag} {ρ:Loc} {H:Hp} {p:Addr} {xs:List D} {vs:List V} (hs:∀ρ2 H2,ExtG ρ H ρ2 H2→SqL K H2 p vs) (al:AtAll K ρ H xs vs):ItOk K ρ H (Itl K p) xs where
 item:=fun ρ2 H2 x i d e=>by
  obtain ⟨v,hv,a⟩:=al.get e
  refine ⟨⟨vs,v,hs _ _ x,hv⟩,fun y H3 hy=>?_⟩
  obtain ⟨rfl,h2⟩:=hy
  have:=h2 vs (hs _ _ x)
  rw[hv] at this
  cases this
  exact ⟨.refl _ _,fun _ r=>⟨r,a.extG x⟩⟩
 done:=fun ρ2 H2 x i h=>⟨vs,hs _ _ x,by rw[al.length];exact h⟩
theorem It_tup {K:PySem.W.Frag} {ρ:Loc} {H:Hp} {p:Addr} {xs:List D} {vs:List V} (hs:∀ρ2 H2,ExtG ρ H ρ2 H2→SqT K H2 p vs) (al:AtAll K ρ H xs vs):ItOk K ρ H (Itt K p) xs where
 item:=fun ρ2 H2 x i d e=>by
  obtain ⟨v,hv,a⟩:=al.get e
  refine ⟨⟨vs,v,hs _ _ x,hv⟩,fun y H3 hy=>?_⟩
  obtain ⟨rfl,h2⟩:=hy
  have:=h2 vs (hs _ _ x)
  rw[hv] at this
  cases this
  exact ⟨.refl _ _,fun _ r=>⟨r,a.extG x⟩⟩
 done:=fun ρ2 H2 x i h=>⟨vs,hs _ _ x,by rw[al.length];exact h⟩
theorem di_seq (hl:DE X l f):DI X tg l (iSeq f):=pi_to (pi_or (zbbn hl) (pi_tup hl)) fun τ H R hq0=>by
 obtain ⟨ρ,σ,st,xs,st',a,rp,e,q⟩:=hq0
 obtain ⟨x,st1,e1,e⟩:=zc e
 cases x with
 | tup ys =>
  cases e
  refine .inr ⟨ρ,σ,st,_,_,a,rp,e1,fun ρ1 H1 u x1 rp1 a1=>?_⟩
  cases a1 with
  | tup h1 h2 h3=>exact ⟨_,rfl,⟨_,SqT.of h1⟩,q _ _ _ x1 rp1 (It_tup (fun ρ2 H2 x2=>SqT.of (x2.out h1 h2).1) h3)⟩
 | lst ys =>
  cases e
  refine .inl ⟨ρ,σ,st,_,_,a,rp,e1,fun ρ1 H1 u x1 rp1 a1=>?_⟩
  cases a1 with
  | lst h1 h2 h3=>exact ⟨_,rfl,⟨_,SqL.of h1⟩,q _ _ _ x1 rp1 (zxs (fun ρ2 H2 x2=>SqL.of (x2.out h1 h2).1) h3)⟩
 | scr ys =>
  cases e
  refine .inl ⟨ρ,σ,st,_,_,a,rp,e1,fun ρ1 H1 u x1 rp1 a1=>?_⟩
  cases a1 with
  | scr h1 h3=>exact ⟨_,rfl,⟨_,h1.sq⟩,q _ _ _ x1 rp1 (zxs (fun ρ2 H2 x2=>(h1.extG x2).sq) h3)⟩
 | _=>cases e
theorem zvq (hg : Gl X "range") (hm : X.mg "range" = none) (ha : DA X [a] g) (hs : starEach [a] X.env = [(false, eval a X.env)] := by rfl) : DI X tg (.Call (.Name "range" p) [a] [] pos) (iR1 g) :=
 pi_to (zul hg hm ha hs) fun τ H R hq0=>by
 obtain ⟨ρ,σ,st,xs,st',a,rp,e,q⟩:=hq0
 obtain ⟨x,st1,e1,e⟩:=zc e
 split at e
 ·split at e
  ·rename_i hj
   cases e
   refine ⟨ρ,σ,st,_,_,a,rp,e1,fun ρ1 H1 u x1 rp1 a1=>?_⟩
   obtain ⟨w,rfl,a2⟩:=a1.one
   cases a2
   exact ⟨_,rfl,hj.1,hj.2,q _ _ _ x1 rp1 it_rng⟩
  ·cases e
 ·cases e
theorem zvp (hg : Gl X "range") (hm : X.mg "range" = none) (ha : DA X [a, b] g) (hs : starEach [a, b] X.env = [(false, eval a X.env), (false, eval b X.env)] := by rfl) (hs2 : starEach [b] X.env = [(false, eval b X.env)] := by rfl) : DI X tg (.Call (.Name "range" p) [a, b] [] pos) (iR2 g) :=
 pi_to (zuk hg hm ha hs hs2) fun τ H R hq0=>by
 obtain ⟨ρ,σ,st,xs,st',a,rp,e,q⟩:=hq0
 obtain ⟨x,st1,e1,e⟩:=zc e
 split at e
 ·split at e
  ·rename_i hj
   cases e
   refine ⟨ρ,σ,st,_,_,a,rp,e1,fun ρ1 H1 u x1 rp1 a1=>?_⟩
   obtain ⟨w,w2,rfl,a2,a3⟩:=a1.two
   cases a2
   cases a3
   exact ⟨_,_,rfl,hj,q _ _ _ x1 rp1 it_rng⟩
  ·cases e
 ·cases e
end
noncomputable def iDict (f:SE):SA:=fun σ st=>(f σ st).bind fun x st1=>match x with
 | .ref n=>match st1[n]? with
  | some (.dT kvs)=>.ok (rowsD (kvs.map (·.1))) (st1.set n (.fT kvs))
  | _=>.stuck
 | _=>.stuck
section
variable {X:Cx} {tg l:Expr} {f:SE}
theorem zbdh (hl:DE X l f):DI X tg l (iDict f):=pi_to (zbbo hl) fun τ H R hq0=>by
 obtain ⟨ρ,σ,st,xs,st',a,rp,e,q⟩:=hq0
 obtain ⟨x,st1,e1,e⟩:=zc e
 refine ⟨ρ,σ,st,x,st1,a,rp,e1,fun ρ1 H1 u x1 rp1 a1=>?_⟩
 split at e
 ·rename_i n
  split at e
  ·rename_i kvs hn
   cases e
   obtain ⟨p,rfl,hp,vs,g1,g2⟩:=ref_at rp1 a1 hn (by intro z;cases z)
   refine ⟨p,vs,kvs.map (·.1),rfl,g1,g2.keys,fun ob ps h1 h2=>?_⟩
   have E:Ext ρ1 H1 ρ1 (upd H1 p (.frz ob (.dT vs))):=Ext.wr hp (zir g1) _
   have R:Rep X.K ρ1 (st1.set n (.fT kvs)) (upd H1 p (.frz ob (.dT vs))):=rp1.wr hp (zir g1) ⟨vs,ob,zw,g2.ext E⟩
   refine q _ _ _ (x1.trans E) R ⟨fun ρ2 H2 x2 i d e=>?_,fun ρ2 H2 x2 i h=>?_⟩
   ·have e2:(ps.map (·.2))[i]?=(kvs.map (·.1))[i]?:=by rw[h1]
    unfold rowsD at e
    rw[List.getElem?_map,← e2,List.getElem?_map] at e
    cases hi:ps[i]? with
    | none=>rw[hi] at e;cases e
    | some x =>
     rw[hi] at e
     cases e
     refine ⟨⟨(List.getElem?_eq_some_iff.mp hi).1,x2.frz _ _ _ zw⟩,fun y H3 hy=>?_⟩
     obtain ⟨rfl,x',hx',rfl⟩:=hy
     rw[hi] at hx'
     cases hx'
     have ht:=h2 x (List.mem_of_getElem? hi)
     have a3:At X.K ρ1 H1 (rowD x.2) (.ref x.1):=.tup ht (zoh rp1 ht) (zhs _)
     exact ⟨.refl _ _,fun _ r=>⟨r,(a3.ext E).extG x2⟩⟩
   ·have e2:=congrArg List.length h1
    rw[List.length_map] at e2
    unfold rowsD at h
    rw[List.length_map,← e2] at h
    exact ⟨h,x2.frz _ _ _ zw⟩
  ·cases e
 ·cases e
end
end Dd
set_option maxHeartbeats 4000000
namespace Dd
open PySem L2
noncomputable def forF (bd:SG) (body:SS):List D→SS
 | [],σ,st=>.ok (.nx σ) st
 | x::xs,σ,st=>match bd x σ with
  | none=>.stuck
  | some σ1=>match body σ1 st with
   | .ok (.nx σ2) st2=>forF bd body xs σ2 st2
   | .ok (.ct σ2) st2=>forF bd body xs σ2 st2
   | .ok (.brk σ2) st2=>.ok (.nx σ2) st2
   | r=>r
noncomputable def sFor (it:SA) (bd:SG) (body:SS):SS:=fun σ st=>(it σ st).bind fun xs st1=>forF bd body xs σ st1
noncomputable def whileF (c:ST) (body:SS):Nat→SS
 | 0,_,_=>.stuck
 | n+1,σ,st=>(c σ st).bind fun b st1=>if b=true then (match body σ st1 with
  | .ok (.nx σ2) st2=>whileF c body n σ2 st2
  | .ok (.ct σ2) st2=>whileF c body n σ2 st2
  | .ok (.brk σ2) st2=>.ok (.nx σ2) st2
  | r=>r) else .ok (.nx σ) st1
noncomputable def wCap:Nat:=1000000
noncomputable def sWhile (c:ST) (body:SS):SS:=whileF c body wCap
theorem zxj {α:Type} {xs:List α} {i:Nat} (h:i < xs.length):∃x,xs[i]?=some x∧xs.drop i=x::xs.drop (i+1):=⟨xs[i],List.getElem?_eq_getElem h,List.drop_eq_getElem_cons h⟩
section
variable {X:Cx} {tg iter c:Expr} {body:List Stmt} {it:SA} {bd:SG} {b:SS} {t:ST} {pos:Pos}
theorem ds_for (hp:PassesOwn (model X.prog X.w) X.A X.env X.xe) (hc:X.calm=true) (hi:DI X tg iter it) (hg:DG X tg bd) (hb:DSs X body b) (hs:∀x,foldedSetIterable iter X.env x=pure x:=by intro _;rfl) :
  DSt X (.For tg iter body [] pos) (sFor it bd b):=ps_to (ps_for hp hc hi hg hb hs) fun E τ H hq0=>by
 obtain ⟨ρ,σ,st,fl,st',a,rp,e,q⟩:=hq0
 obtain ⟨xs,st1,e1,e⟩:=zc e
 refine ⟨ρ,σ,st,xs,st1,a,rp,e1,fun ρ1 H1 J x1 rp1 ok=>?_⟩
 have q1:=q.ext x1
 refine ⟨fun i m τ' H'=>i+m=xs.length∧∃ρ2 σ2 st2,Ext ρ1 H1 ρ2 H'∧AtS X.K ρ2 H' σ2 τ'∧Rep X.K ρ2 st2 H'∧forF bd b (xs.drop i) σ2 st2=.ok fl st',⟨xs.length,by (first|assumption|lia),ρ1,σ,st1,.refl _ _,a.ext x1,rp1,e⟩,?_⟩
 rintro i m τ' H' ⟨him,ρ2,σ2,st2,x2,a2,rp2,e2⟩
 rcases Nat.lt_or_ge i xs.length with hlt | hge
 ·obtain ⟨x,hx,hd⟩:=zxj hlt
  rw[hd] at e2
  obtain ⟨go,yl⟩:=ok.item ρ2 H' x2.toG i x hx
  refine .inr ⟨go,fun τ3 H3=>∃ρ3 σ3 st3,Ext ρ1 H1 ρ3 H3∧AtS X.K ρ3 H3 σ3 τ3∧Rep X.K ρ3 st3 H3∧forF bd b (xs.drop (i+1)) σ3 st3=.ok fl st',fun τ3 H3 ⟨ρ3,σ3,st3,n1,n2,n3,n4⟩=>⟨m - 1,by (first|assumption|lia),by (first|assumption|lia),ρ3,σ3,st3,n1,n2,n3,n4⟩,fun y H3 hy=>?_⟩
  obtain ⟨y1,y4⟩:=yl y H3 hy
  obtain ⟨y2,y3⟩:=y4 _ rp2
  unfold forF at e2
  cases hbd:bd x σ2 with
  | none=>rw[hbd] at e2;cases e2
  | some σ1 =>
   rw[hbd] at e2
   dsimp only at e2
   have X3:=x2.trans y1
   refine ⟨ρ2,σ2,x,σ1,a2.ext y1,y3,hbd,fun τ4 a4=>?_⟩
   cases hr:b σ1 st2 with
   | stuck=>rw[hr] at e2;cases e2
   | exc z w=>rw[hr] at e2;cases e2
   | ok fb st3 =>
    rw[hr] at e2
    refine ⟨ρ2,σ1,st2,fb,st3,a4,y2,hr,?_⟩
    cases fb with
    | nx σ3=>exact fun ρ' H'' τ5 x5 rp5 a5=>⟨ρ',σ3,st3,X3.trans x5,a5,rp5,e2⟩
    | ct σ3=>exact fun ρ' H'' τ5 x5 rp5 a5=>⟨ρ',σ3,st3,X3.trans x5,a5,rp5,e2⟩
    | brk σ3 =>
     dsimp only at e2
     cases e2
     exact fun ρ' H'' τ5 x5 rp5 a5=>q1 _ _ _ (X3.trans x5) rp5 a5
    | ret v =>
     dsimp only at e2
     cases e2
     exact fun ρ' H'' u x5 rp5 a5=>q1 _ _ _ (X3.trans x5) rp5 a5
 ·rw[List.drop_eq_nil_of_le hge] at e2
  unfold forF at e2
  cases e2
  exact .inl ⟨ok.done ρ2 H' x2.toG i hge,q1 _ _ _ x2 rp2 a2⟩
theorem zzs (hp:PassesOwn (model X.prog X.w) X.A X.env X.xe) (hc:DT X c t) (hb:DSs X body b):DSt X (.While c body [] pos) (sWhile t b):=ps_to (zyi hp hc hb) fun E τ H hq0=>by
 obtain ⟨ρ,σ,st,fl,st',a,rp,e,q⟩:=hq0
 unfold sWhile at e
 generalize wCap=n at e
 refine ⟨fun m τ' H'=>∃ρ2 σ2 st2,Ext ρ H ρ2 H'∧AtS X.K ρ2 H' σ2 τ'∧Rep X.K ρ2 st2 H'∧whileF t b m σ2 st2=.ok fl st',⟨n,ρ,σ,st,.refl _ _,a,rp,e⟩,?_⟩
 rintro m τ' H' ⟨ρ2,σ2,st2,x2,a2,rp2,e2⟩
 cases m with
 | zero=>unfold whileF at e2;cases e2
 | succ m =>
  unfold whileF at e2
  obtain ⟨x,st3,e3,e4⟩:=zc e2
  refine ⟨ρ2,σ2,st2,x,st3,a2,rp2,e3,fun ρ3 H3 x3 rp3=>?_⟩
  have X3:=x2.trans x3
  cases x with
  | false =>
   rw[if_neg (by decide)] at e4
   cases e4
   exact iteF (q _ _ _ X3 rp3 (a2.ext x3))
  | true =>
   rw[if_pos rfl] at e4
   refine iteT ⟨fun τ4 H4=>∃ρ4 σ4 st4,Ext ρ H ρ4 H4∧AtS X.K ρ4 H4 σ4 τ4∧Rep X.K ρ4 st4 H4∧whileF t b m σ4 st4=.ok fl st',fun τ4 H4 hh=>⟨m,Nat.lt_succ_self m,hh⟩,?_⟩
   cases hr:b σ2 st3 with
   | stuck=>rw[hr] at e4;cases e4
   | exc z w=>rw[hr] at e4;cases e4
   | ok fb st5 =>
    rw[hr] at e4
    refine ⟨ρ3,σ2,st3,fb,st5,a2.ext x3,rp3,hr,?_⟩
    cases fb with
    | nx σ3=>exact fun ρ' H'' τ5 x5 rp5 a5=>⟨ρ',σ3,st5,X3.trans x5,a5,rp5,e4⟩
    | ct σ3=>exact fun ρ' H'' τ5 x5 rp5 a5=>⟨ρ',σ3,st5,X3.trans x5,a5,rp5,e4⟩
    | brk σ3 =>
     dsimp only at e4
     cases e4
     exact fun ρ' H'' τ5 x5 rp5 a5=>q _ _ _ (X3.trans x5) rp5 a5
    | ret v =>
     dsimp only at e4
     cases e4
     exact fun ρ' H'' u x5 rp5 a5=>q _ _ _ (X3.trans x5) rp5 a5
end
noncomputable def compF (bd:SG) (c:ST) (f:SE):List D→DS→Store→Res (List D)
 | [],_,st=>.ok [] st
 | x::xs,σ,st=>match bd x σ with
  | none=>.stuck
  | some σ1=>(c σ1 st).bind fun b st1=>if b=true then (f σ1 st1).bind fun y st2=>(compF bd c f xs σ1 st2).bind fun ys st3=>.ok (y::ys) st3 else compF bd c f xs σ1 st1
noncomputable def startD (k:Nat) (is:List Nat) (σ:DS):DS:=List.replicate k none++is.map fun i=>(σ[i]?).getD none
noncomputable def eComp (it:SA) (k:Nat) (is:List Nat) (bd:SG) (c:ST) (f:SE):SE:=fun σ st=>(it σ st).bind fun xs st1=>if xs.length≤sizeLine then (compF bd c f xs (startD k is σ) st1).bind fun ys st2=>.ok (.lst ys) st2 else .stuck
noncomputable def bYes:ST:=fun _ st=>.ok true st
theorem AtS.start {K:PySem.W.Frag} {ρ:Loc} {H:Hp} {σ:DS} {τ:St} (h:AtS K ρ H σ τ) (k:Nat) (is:List Nat):AtS K ρ H (startD k is σ) (startC k is τ):=by
 have app:∀{a c:DS} {b d:St},AtS K ρ H a b→AtS K ρ H c d→AtS K ρ H (a++c) (b++d):=fun h1 h2=>by
  induction h1 with
  | nil=>exact h2
  | cons r t ih=>exact .cons r ih
 refine app ?_ ?_
 ·induction k with
  | zero=>exact .nil
  | succ k ih=>exact .cons (fun d e=>nomatch e) ih
 ·induction is with
  | nil=>exact .nil
  | cons i is ih =>
   refine .cons (fun d e=>?_) ih
   have e:(σ[i]?).getD none=some d:=e
   have e':σ[i]?=some (some d):=by
    cases q:σ[i]? with
    | none=>rw[q] at e;cases e
    | some o=>rw[q] at e;exact congrArg some e
   obtain ⟨u,hu,a⟩:=h.get e'
   exact ⟨u,by show (τ[i]?).getD none=some u;rw[hu];rfl,a⟩
noncomputable def Loc.with (ρ:Loc) (p:Addr):Loc:=⟨ρ.m,p::ρ.g⟩
theorem zbas {ρ:Loc} {H:Hp} {p:Addr} {o:HO} (hp:H p=none):Mv ρ H (ρ.with p) (upd H p o):=⟨fun e n=>⟨by rw[upd_ne (zo e hp)];exact e,n.1,fun z=>by
 rcases List.mem_cons.mp z with z | z
 ·exact zo e hp z
 ·exact n.2 z⟩,Nat.le_refl _,fun _ _ _ e=>e⟩
theorem At.with {K:PySem.W.Frag} {ρ:Loc} {H:Hp} {p:Addr} {o:HO} (hp:H p=none) {d:D} {v:V} (h:At K ρ H d v):At K (ρ.with p) (upd H p o) d v:=h.mv (zbas hp)
theorem zxd {ρ ρ':Loc} {H:Hp} {p:Addr} {o:HO} (hm:ρ'.m=ρ.m) (hg:p∈ρ.g) (hs:∀a,a∈ρ'.g→a∈ρ.g):Mv ρ H ρ' (upd H p o):=⟨fun e n=>⟨by rw[upd_ne (by rintro rfl;exact n.2 hg)];exact e,by rw[hm];exact n.1,fun z=>n.2 (hs _ z)⟩,by rw[hm];exact Nat.le_refl _,fun _ _ _ e=>by rw[hm] at e;exact e⟩
theorem At.grow {K:PySem.W.Frag} {ρ ρ':Loc} {H:Hp} {p:Addr} {o:HO} (hm:ρ'.m=ρ.m) (hg:p∈ρ.g) (hs:∀a,a∈ρ'.g→a∈ρ.g) {d:D} {v:V} (h:At K ρ H d v):At K ρ' (upd H p o) d v:=h.mv (zxd hm hg hs)
theorem AtAll.grow {K:PySem.W.Frag} {ρ ρ':Loc} {H:Hp} {p:Addr} {o:HO} (hm:ρ'.m=ρ.m) (hg:p∈ρ.g) (hs:∀a,a∈ρ'.g→a∈ρ.g) {d:List D} {v:List V} (h:AtAll K ρ H d v):AtAll K ρ' (upd H p o) d v:=h.mv (zxd hm hg hs)
theorem OAt.map {K:PySem.W.Frag} {ρ ρ':Loc} {H H':Hp} {a:Addr} {x:O} (k:∀d v,At K ρ H d v→At K ρ' H' d v) (same:H' a=H a) (h:OAt K ρ H x a):OAt K ρ' H' x a:=by
 have ka:∀{d:List D} {v:List V},AtAll K ρ H d v→AtAll K ρ' H' d v:=fun {d v} h=>by
  induction d generalizing v with
  | nil=>cases h;exact .nil
  | cons x xs ih=>cases h with | cons a b=>exact .cons (k _ _ a) (ih b)
 cases x with
 | lst xs=>obtain ⟨vs,q,r⟩:=h;exact ⟨vs,by rw[same];exact q,ka r⟩
 | dT kvs=>obtain ⟨vs,q,r⟩:=h;exact ⟨vs,by rw[same];exact q,Paired.mapP r fun p q z=>⟨z.1,k _ _ z.2⟩⟩
 | fT kvs=>obtain ⟨vs,ob,q,r⟩:=h;exact ⟨vs,ob,by rw[same];exact q,Paired.mapP r fun p q z=>⟨z.1,k _ _ z.2⟩⟩
 | dead=>exact h.elim
theorem Rep.with {K:PySem.W.Frag} {ρ:Loc} {st:Store} {H:Hp} {p:Addr} (r:Rep K ρ st H) (hp:H p=none) (vs:List V):Rep K (ρ.with p) st (upd H p (.lst vs)) :=
 ⟨r.len,r.inj,fun m b y e1 e2=>by
  have q:=r.obj m b y e1 e2
  obtain ⟨u,hu⟩:=q.has
  exact q.map (fun d v h=>h.with hp) (upd_ne (zo hu hp)),fun a ha=>by
  rcases List.mem_cons.mp ha with rfl | ha
  ·exact ⟨⟨vs,zw⟩,(zjs r hp).1⟩
  ·obtain ⟨⟨ws,h1⟩,h2⟩:=r.gh a ha
   exact ⟨⟨ws,by rw[upd_ne (zo h1 hp)];exact h1⟩,h2⟩,r.live⟩
theorem Rep.grow {K:PySem.W.Frag} {ρ ρ':Loc} {st:Store} {H:Hp} {p:Addr} (r:Rep K ρ st H) (hm:ρ'.m=ρ.m) (hg:p∈ρ.g) (hs:∀a,a∈ρ'.g→a∈ρ.g) (vs:List V):Rep K ρ' st (upd H p (.lst vs)) :=
 ⟨by rw[hm];exact r.len,by rw[hm];exact r.inj,fun m b y e1 e2=>by
  rw[hm] at e1
  refine (r.obj m b y e1 e2).map (fun d v h=>h.grow hm hg hs) (upd_ne ?_)
  rintro rfl
  exact (r.gh b hg).2 (List.mem_of_getElem? e1),fun a ha=>by
  obtain ⟨⟨ws,h1⟩,h2⟩:=r.gh a (hs a ha)
  refine ⟨?_,by rw[hm];exact h2⟩
  by_cases e:a=p
  ·subst e;exact ⟨vs,zw⟩
  ·exact ⟨ws,by rw[upd_ne e];exact h1⟩,by rw[hm];exact r.live⟩
theorem AtS.map {K:PySem.W.Frag} {ρ ρ':Loc} {H H':Hp} {σ:DS} {τ:St} (k:∀d v,At K ρ H d v→At K ρ' H' d v) (h:AtS K ρ H σ τ):AtS K ρ' H' σ τ:=Paired.mapP h fun o v z d e=>by
 obtain ⟨u,e1,a⟩:=z d e
 exact ⟨u,e1,k _ _ a⟩
section
variable {X:Cx} {tg iter elt:Expr} {ifs:List Expr} {it:SA} {bd:SG} {c:ST} {f:SE} {N:List Str} {k:Nat} {is:List Nat} {scope:Scope} {pos:Pos}
inductive CI (K:PySem.W.Frag) (bd:SG) (c:ST) (f:SE) (xs ys:List D) (st2:Store) (ρ1:Loc) (H1:Hp) (p:Addr) (i:Nat) (τ:St) (H':Hp):Prop where
 | mk {ρ2:Loc} {σ2:DS} {st3:Store} {acc:List D} {accV:List V} {zs:List D} (x2:ExtG ρ1 H1 ρ2 H') (hg:ρ2.g=p::ρ1.g) (hpp:H' p=some (.lst accV)) (hal:AtAll K ρ2 H' acc accV) (hli:acc.length≤i) (a2:AtS K ρ2 H' σ2 τ) (rp2:Rep K ρ2 st3 H') (e3:compF bd c f (xs.drop i) σ2 st3=.ok zs st2) (hac:acc++zs=ys):CI K bd c f xs ys st2 ρ1 H1 p i τ H'
theorem comp_g {K:PySem.W.Frag} {τ:St} {H:Hp} {Q:V→Hp→Prop} {ρ:Loc} {σ:DS} {st st1 st2:Store} {xs ys:List D} (a:AtS K ρ H σ τ) (rp:Rep K ρ st H) (e1:it σ st=.ok xs st1) (hlen:xs.length≤sizeLine) (e2:compF bd c f xs (startD k is σ) st1=.ok ys st2)
 (fin:∀ρ1 H1 p ρ2 H' accV,Ext ρ H ρ1 H1→Rep K ρ1 st1 H1→H1 p=none→ExtG ρ1 H1 ρ2 H'→ρ2.g=p::ρ1.g→H' p=some (.lst accV)→AtAll K ρ2 H' ys accV→Rep K ρ2 st2 H'→Q (.ref p) H'):tComp (iD K it) k is (gD K bd) (tDT K c) (tD K f) τ H Q:=by
 refine ⟨ρ,σ,st,xs,st1,a,rp,e1,fun ρ1 H1 J x1 rp1 ok p hp=>?_⟩
 refine ⟨fun i m τ' H'=>i+m=xs.length∧CI K bd c f xs ys st2 ρ1 H1 p i τ' H',
  ⟨xs.length,by (first|assumption|lia),.mk ?_ rfl zw .nil (Nat.zero_le _) (((a.ext x1).start k is).map fun d v h=>h.with hp) (rp1.with hp []) e2 rfl⟩,?_⟩
 ·have E:Ext ρ1 H1 ρ1 (upd H1 p (.lst [])):=Ext.new hp _
  exact ⟨E.len,E.old,E.keep,fun a h=>by
   rcases List.mem_cons.mp h with rfl | h
   ·exact .inr hp
   ·exact .inl h,E.frz⟩
 rintro i m τ' H' ⟨him,@⟨ρ2,σ2,st3,acc,accV,zs,x2,hg,hpp,hal,hli,a2,rp2,e3,hac⟩⟩
 have hpg:p∈ρ2.g:=by rw[hg];exact List.mem_cons_self
 rcases Nat.lt_or_ge i xs.length with hlt | hge
 ·obtain ⟨x,hx,hd⟩:=zxj hlt
  rw[hd] at e3
  obtain ⟨go,yl⟩:=ok.item ρ2 H' x2 i x hx
  refine .inr ⟨go,CI K bd c f xs ys st2 ρ1 H1 p (i+1),
   fun τ4 H4 hh=>⟨m - 1,by (first|assumption|lia),by (first|assumption|lia),hh⟩,fun y H3 hy=>?_⟩
  obtain ⟨y1,y4⟩:=yl y H3 hy
  obtain ⟨y2,y3⟩:=y4 _ rp2
  unfold compF at e3
  cases hbd:bd x σ2 with
  | none=>rw[hbd] at e3;cases e3
  | some σ1 =>
   rw[hbd] at e3
   dsimp only at e3
   obtain ⟨bb,st4,e4,e5⟩:=zc e3
   refine ⟨ρ2,σ2,x,σ1,a2.ext y1,y3,hbd,fun τ4 a4=>?_⟩
   have hpm:some p∉ρ2.m:=(rp2.gh p hpg).2
   have hpp3:=(y1.keep p _ hpp hpm).1
   refine ⟨ρ2,σ1,st3,bb,st4,a4,y2,e4,fun ρ5 H5 x5 rp5=>?_⟩
   have hpp5:=(x5.keep p _ hpp3 hpm).1
   have hal5:=(hal.ext y1).ext x5
   have g5:ρ5.g=p::ρ1.g:=x5.gho.trans hg
   cases bb with
   | false =>
    rw[if_neg (by decide)] at e5
    exact iteF (.mk ((x2.then y1).then x5) g5 hpp5 hal5 (Nat.le_succ_of_le hli) (a4.ext x5) rp5 e5 hac)
   | true =>
    rw[if_pos rfl] at e5
    obtain ⟨w,st6,e6,e7⟩:=zc e5
    obtain ⟨zs',st7,e8,e9⟩:=zc e7
    cases e9
    refine iteT ⟨ρ5,σ1,st4,w,st6,a4.ext x5,rp5,e6,fun ρ6 H6 u x6 rp6 a6=>?_⟩
    have hpm5:some p∉ρ5.m:=(x5.keep p _ hpp3 hpm).2
    have hpp6:=(x6.keep p _ hpp5 hpm5).1
    have g6:ρ6.g=p::ρ1.g:=x6.gho.trans g5
    have hp6:p∈ρ6.g:=by rw[g6];exact List.mem_cons_self
    have hl6:accV.length≤i:=by rw[hal.length];exact hli
    refine ⟨accV,hpp6,Nat.lt_of_le_of_lt hl6 (Nat.lt_of_lt_of_le hlt hlen),.mk (acc:=acc++[w]) (accV:=accV++[u]) ?_ g6 zw ?_ (by rw[List.length_append];exact Nat.succ_le_succ hli) ?_ (rp6.grow rfl hp6 (fun _ h=>h) _) e8 (by rw[← hac,List.append_assoc];rfl)⟩
    ·have G:=((x2.then y1).then x5).then x6
     refine ⟨G.len,G.old,fun b o e n=>?_,G.gho,fun b ob uu e=>?_⟩
     ·rw[upd_ne (zo e hp)]
      exact G.keep b o e n
     ·rw[upd_ne (zo e hp)]
      exact G.frz b ob uu e
    ·exact ((hal5.ext x6).append (.cons a6 .nil)).grow rfl hp6 (fun _ h=>h)
    ·exact (a4.ext (x5.trans x6)).map fun d v h=>h.grow rfl hp6 (fun _ h=>h)
 ·rw[List.drop_eq_nil_of_le hge] at e3
  unfold compF at e3
  cases e3
  rw[List.append_nil] at hac
  subst hac
  exact .inl ⟨ok.done _ _ x2 i hge,fin _ _ _ _ _ _ x1 rp1 hp x2 hg hpp hal rp2⟩
theorem comp_t {K:PySem.W.Frag}:∀τ H Q,tD K (eComp it k is bd c f) τ H Q→tComp (iD K it) k is (gD K bd) (tDT K c) (tD K f) τ H Q:=fun τ H Q hq0=>by
 obtain ⟨ρ,σ,st,v,st',a,rp,e,q⟩:=hq0
 obtain ⟨xs,st1,e1,e⟩:=zc e
 split at e
 ·rename_i hlen
  obtain ⟨ys,st2,e2,e⟩:=zc e
  cases e
  refine comp_g a rp e1 hlen e2 fun ρ1 H1 p ρ2 H' accV x1 rp1 hp x2 hg hpp hal rp2=>?_
  have hpg:p∈ρ2.g:=by rw[hg];exact List.mem_cons_self
  have hpm:some p∉ρ2.m:=(rp2.gh p hpg).2
  have self:upd H' p (.lst accV)=H':=zxu hpp
  have sub:∀a,a∈(⟨ρ2.m,ρ1.g⟩:Loc).g→a∈ρ2.g:=fun b hb=>by rw[hg];exact List.mem_cons_of_mem _ hb
  have E:Ext ρ1 H1 ⟨ρ2.m,ρ1.g⟩ H':=⟨x2.len,x2.old,x2.keep,rfl,x2.frz⟩
  have R:=rp2.grow (ρ':=⟨ρ2.m,ρ1.g⟩) rfl hpg sub accV
  have L:=AtAll.grow (ρ:=ρ2) (ρ':=⟨ρ2.m,ρ1.g⟩) (o:=.lst accV) rfl hpg sub hal
  rw[self] at R L
  refine q _ _ _ (x1.trans E) R (.lst hpp ⟨hpm,fun z=>?_⟩ L)
  obtain ⟨⟨ws,h1⟩,_⟩:=rp1.gh p z
  rw[hp] at h1;cases h1
 ·cases e
theorem d_comp (hcalm:X.calm=true) (hi:DI X tg iter it) (hg:∀cl C fp s H,DG (cxC X N scope cl C fp s H) tg bd) (hc:∀cl C fp s H,PIf (cxC X N scope cl C fp s H) ifs (tDT X.K c)) (he:∀cl C fp s H,DE (cxC X N scope cl C fp s H) elt f)
 (S:CompScope X N k is scope) (hs:∀x,foldedSetIterable iter X.env x=pure x:=by intro _;rfl):DE X (.ListComp elt [⟨tg,iter,ifs,0⟩] scope pos) (eComp it k is bd c f):=pe_to (zbbs hcalm hi hg hc he S hs) comp_t
theorem zbcy {i:Nat} {x:Str} {pos' spos:Pos} (hcalm:X.calm=true) (hN:X.N.Nodup) (hxi:X.N[i]?=some x) (hx:L2.Loc X.env.scope x) (hi:DI X tg iter it) (hg:∀cl C fp s H,DG (cxC X N scope cl C fp s H) tg bd)
  (hc:∀cl C fp s H,PIf (cxC X N scope cl C fp s H) ifs (tDT X.K c)) (he:∀cl C fp s H,DE (cxC X N scope cl C fp s H) elt f) (S:CompScope X N k is scope)
  (hsw:swapsWith (.ListComp elt [⟨tg,iter,ifs,0⟩] scope pos) (some (.Name x pos')) spos.line X.env=pure true:=by rfl)
  (hf:X.fn x=true∨X.env.scope.names.lookup x=some .local:=by first | exact .inl rfl | exact .inr rfl | assumption)
  (hs:∀x,foldedSetIterable iter X.env x=pure x:=by intro _;rfl):DSt X (.Assign [.Name x pos'] (.ListComp elt [⟨tg,iter,ifs,0⟩] scope pos) spos) (sSet i (eComp it k is bd c f)) :=
 ps_to (zbbg hcalm hN hxi hx hi hg hc he S hsw hf hs) fun E τ H h=>by
  obtain ⟨ρ,σ,st,fl,st',a,rp,e,q⟩:=h
  obtain ⟨v,st1,e1,e⟩:=zc e
  cases e
  exact comp_t τ H _ ⟨ρ,σ,st,v,_,a,rp,e1,fun ρ' H' u x r t=>q _ _ _ x r ((a.ext x).set t i)⟩
theorem zbdg {X:Cx}:PIf X [] (tDT X.K bYes):=fun pins s σ H Q I hq0=>by
 obtain ⟨ρ,σ',st,v,st',a,rp,e,q⟩:=hq0
 cases e
 exact zbbm pins s σ H Q I (q _ _ (.refl _ _) rp)
theorem zbdf {X:Cx} {c:Expr} {t:ST} (h:DT X c t):PIf X [c] (tDT X.K t):=zbbl h
end
end Dd
set_option maxHeartbeats 4000000
namespace Dd
open PySem L2 PyProof.Rows
noncomputable def spD (K:PySem.W.Frag) (np:Nat) (F:DFn):Sp:=fun vs H Q _=>∃ρ ds st v st',AtAll K ρ H ds vs∧Rep K ρ st H∧F ds st=.ok v st'∧vs.length=np∧∀ρ' H' u,Ext ρ H ρ' H'→Rep K ρ' st' H'→At K ρ' H' v u→Q u H'
noncomputable def CalD (P:Program) (w:World) (K:PySem.W.Frag) (mg:Str→Option Value) (base:Heap) (x:Str) (k:Nat) (ps:List Str) (F:DFn):Prop:=Callee P w K mg base x k ps (spD K ps.length F)
noncomputable def fnD (n np:Nat) (body:SS):DFn:=fun ds st=>if ds.length=np then (match body (ds.map some++List.replicate (n - np) none) st with
 | .ok (.ret v) st'=>.ok v st'
 | .ok (.nx _) st'=>.ok .non st'
 | .exc x st'=>.exc x st'
 | _=>.stuck) else .stuck
section
variable {X:Cx} {x:Str} {k:Nat} {ps:List Str} {F:DFn} {p pos:Pos} {e:Expr} {es:List Expr} {g:SA}
theorem call_t {K:PySem.W.Frag} {np:Nat} {f:SA} (hn:∀ds st v st',F ds st=.ok v st'→ds.length=np):∀τ H Q,tD K (eCall F f) τ H Q→tCall (spD K np F) [] E0 (tDA K f) τ H Q:=fun τ H Q hq0=>by
 obtain ⟨ρ,σ,st,v,st',a,rp,e,q⟩:=hq0
 obtain ⟨x,st1,e1,e⟩:=zc e
 refine ⟨ρ,σ,st,x,st1,a,rp,e1,fun ρ1 H1 u x1 rp1 a1=>?_⟩
 show spD K np F (u++[]) H1 Q E0
 rw[List.append_nil]
 exact ⟨ρ1,x,st1,v,st',a1,rp1,e,by rw[a1.length];exact hn _ _ _ _ e,fun ρ' H' w x2=>q ρ' H' w (x1.trans x2)⟩
theorem d_call (c : CalD X.prog X.w X.K X.mg X.base x k ps F) (hn : ∀ ds st v st', F ds st = .ok v st' → ds.length = ps.length) (hr : Room k X.A) (hg : Gl X x) (ha : DA X (e :: es) g) (hdb : (x == ("__debug__" : Str)) = false := by decide)
 (he:starEach (e::es) X.env=(false,eval e X.env)::starEach es X.env:=by rfl) (hpl:(backTo pos (starEach es X.env)).any (·.1)=false:=by rfl) :
 DE X (.Call (.Name x p) (e::es) [] pos) (eCall F g):=pe_to (zyr c hr hg ha hdb he hpl) (call_t hn)
theorem zk {n np:Nat} {b:SS} {ds:List D} {st st':Store} {v:D} (h:fnD n np b ds st=.ok v st'):ds.length=np:=by
 unfold fnD at h
 split at h
 ·assumption
 ·cases h
end
theorem AtAll.some {K:PySem.W.Frag} {ρ:Loc} {H:Hp}:∀{ds:List D} {vs:List V},AtAll K ρ H ds vs→AtS K ρ H (ds.map Option.some) (vs.map Option.some)
 | _,_,.nil=>.nil
 | _,_,.cons a b=>.cons (fun d e=>by cases e;exact ⟨_,rfl,a⟩) (AtAll.some b)
theorem AtS.append {K:PySem.W.Frag} {ρ:Loc} {H:Hp}:∀{a c:DS} {b d:L2.St},AtS K ρ H a b→AtS K ρ H c d→AtS K ρ H (a++c) (b++d)
 | _,_,_,_,.nil,h=>h
 | _,_,_,_,.cons r t,h=>.cons r (AtS.append t h)
theorem AtS.nones {K:PySem.W.Frag} {ρ:Loc} {H:Hp}:∀n,AtS K ρ H (List.replicate n none) (List.replicate n none)
 | 0=>.nil
 | n+1=>.cons (fun d e=>nomatch e) (AtS.nones n)
theorem body_t {K:PySem.W.Frag} {N:List Str} {np:Nat} {b:SS} {vs:List V} {H:Hp} {Q:VK} {E:XK} (h:spD K np (fnD N.length np b) vs H Q E):tDS K b {nx:=fun _ H'=>Q .non H',rt:=Q} (L2.start N vs) H:=by
 obtain ⟨ρ,ds,st,v,st',a,rp,e,hl,q⟩:=h
 have hd:ds.length=np:=by rw[← a.length];exact hl
 unfold fnD at e
 rw[if_pos hd] at e
 have as:AtS K ρ H (ds.map Option.some++List.replicate (N.length - np) none) (L2.start N vs):=by
  unfold L2.start
  rw[hl]
  exact a.some.append (.nones _)
 refine ⟨ρ,ds.map Option.some++List.replicate (N.length - np) none,st,?_⟩
 cases hr:b (ds.map Option.some++List.replicate (N.length - np) none) st with
 | stuck=>rw[hr] at e;cases e
 | exc z w=>rw[hr] at e;cases e
 | ok fl st1 =>
  rw[hr] at e
  cases fl with
  | ret w =>
   dsimp only at e
   cases e
   exact ⟨.ret v,st',as,rp,rfl,fun ρ' H' u x r t=>q ρ' H' u x r t⟩
  | nx σ =>
   dsimp only at e
   cases e
   exact ⟨.nx σ,st',as,rp,rfl,fun ρ' H' τ x r t=>q ρ' H' .non x r .non⟩
  | brk σ=>cases e
  | ct σ=>cases e
theorem zbdt {P:Program} {w:World} {K:PySem.W.Frag} {mg:Str→Option Value} {base h:Heap} {x:Str} {st:Stmt} {N ps:List Str} {k:Nat} {b:SS} (T:TopF K x st) (X:K.In h) (G:h.Ns mainGlobals mg) (S:FnScope N ps (defScope st))
  (bd:∀(kV doc pm:Value) (an:Option Addr) (cdv ct:Value) (us:List Value),us.length=ps.length→bindArgs (PySem.W.fnOf x x (defArgs st) (defBody st) (defScope st) .none kV doc pm an cdv ct) ⟨us,[]⟩=pure (ps.zip us))
  (hbody:∀(f:Addr) (cdv:Value) (A:Around) (outer:List Env) (s:Shared) (H:Hp) (E:XK),Room k (A.deeper (envOfC x (defScope st) s.heap.objs.size f cdv)) →
   DSs (cxOf CX0 P w K mg base N x (defScope st) f cdv A outer s H E).nox (defBody st) b):CalD P w K mg base x (k+1) ps (fnD N.length ps.length b) :=
 zvz T X G S bd (fun vs H Q E hh=>by obtain ⟨ρ,ds,st,v,st',a,rp,e,hl,q⟩:=hh;exact hl) fun f cdv A outer s H vs Q E hr hh=>⟨_,hbody f cdv A outer s H E hr,body_t hh⟩
noncomputable def spLaw (K:PySem.W.Frag):Sp:=fun vs H Q _=>∃(a:Addr) (ns:List Int),vs=[.ref a]∧SqL K H a (ns.map V.int)∧ns.length≤63∧∀H',Q (.bl true) H'
theorem law_ok {P : Program} {w : World} {K : PySem.W.Frag} {mg : Str → Option Value} {base : Heap} {st : Stmt} {N ps : List Str} {k : Nat} {b : SS} {f : Addr} {fd : FuncData} (F : Fun K "law" "law" st f fd) (S : FnScope N ps (defScope st)) (hp : ps.length = 1)
  (hbody : ∀ (cdv : Value) (A : Around) (outer : List Env) (s : Shared) (H : Hp) (E : XK), Room k (A.deeper (envOfC "law" (defScope st) s.heap.objs.size f cdv)) →
   DSs (cxOf CX0 P w K mg base N "law" (defScope st) f cdv A outer s H E).nox (defBody st) b)
  (holds:∀ns:List Int,ns.length≤63→∃st',fnD N.length 1 b [.scr (ns.map .int)] []=.ok (.bl true) st'):FnOk P w K mg base CX0 (k+1) f fd ps (spLaw K):=by
 refine F.ok S (fun vs H Q E hh=>?_) (fun cdv A outer s H vs Q E hr hh=>⟨_,hbody cdv A outer s H E hr,?_⟩)
 ·obtain ⟨a,ns,rfl,_⟩:=hh
  exact hp.symm
 ·obtain ⟨a,ns,rfl,hS,hl,q⟩:=hh
  obtain ⟨st',e⟩:=holds ns hl
  refine body_t (np:=1) (E:=E) ⟨⟨[],[]⟩,[.scr (ns.map .int)],[],_,st',.cons (.scr ?_ (zhs ns)) .nil,⟨rfl,fun n m a e _=>by simp at e,fun n a o e _=>by simp at e,fun a h=>(by cases h),fun n o e _=>by simp at e⟩,e,rfl,fun ρ' H' u x r t=>?_⟩
  ·rcases hS with h | h
   ·exact .inl ⟨h,by simp[Out]⟩
   ·exact .inr fun H'=>.inr h
  ·cases t
   exact q H'
end Dd
set_option maxHeartbeats 4000000
namespace Dd
open PySem L2
noncomputable def oNeg:D→Store→Res D:=fun x st=>match x with
 | .int i=>.ok (.int (-i)) st
 | _=>.stuck
noncomputable def sStuck:SS:=fun _ _=>.stuck
noncomputable def tru (st:Store):D→Option Bool
 | .non=>some false
 | .bl b=>some b
 | .int i=>some (i != 0)
 | .tup xs=>some !xs.isEmpty
 | d=>(asL st d).map fun xs=>!xs.isEmpty
noncomputable def eTru (f:SE):ST:=fun σ st=>(f σ st).bind fun v st1=>match tru st1 v with
 | some b=>.ok b st1
 | none=>.stuck
theorem zlu {K:PySem.W.Frag} {ρ:Loc} {H:Hp} {ds:List D} {vs:List V} (h:AtAll K ρ H ds vs):ds.isEmpty=vs.isEmpty:=by
 cases h<;>rfl
theorem tru_at {K:PySem.W.Frag} {ρ:Loc} {st:Store} {H:Hp} (rp:Rep K ρ st H) {d:D} {u:V} {b:Bool} (a:At K ρ H d u) (e:tru st d=some b):TruV K u H b:=by
 unfold tru at e
 split at e
 ·cases a;cases e;exact rfl
 ·cases a;cases e;exact rfl
 ·cases a;cases e;exact rfl
 ·cases e
  cases a with
  | tup h1 h2 h3=>exact .inr (.inl ⟨_,SqT.of h1,by rw[zlu h3]⟩)
 ·obtain ⟨xs,h0,rfl⟩:=Option.map_eq_some_iff.mp e
  obtain ⟨p,vs,rfl,h1,h2⟩:=asL_at rp a h0
  exact .inl ⟨_,SqL.of h1,by rw[zlu h2]⟩
section
variable {X:Cx} {a b c e:Expr} {f f' f'':SE} {pos:Pos} {sm:Stmt}
theorem zzv:DSt X sm sStuck:=fun pins s σ H E I ⟨ρ,σ',st,fl,st',a,rp,e,q⟩=>by cases e
theorem dt_tru (h:DE X a f) (he:∀whole,isTrue a X.env whole=(do let v ← whole;standAt a.pos;holding [v] (truthy v)):=by intro _;rfl):DT X a (eTru f):=pt_to (zyg h he) fun τ H Q hq0=>by
 obtain ⟨ρ,σ,st,v,st',at',rp,e,q⟩:=hq0
 obtain ⟨x,st1,e1,e⟩:=zc e
 refine ⟨ρ,σ,st,x,st1,at',rp,e1,fun ρ1 H1 u x1 rp1 a1=>?_⟩
 split at e
 ·rename_i bb hb
  cases e
  exact ⟨_,tru_at rp1 a1 hb,q _ _ x1 rp1⟩
 ·cases e
end
end Dd
namespace Dd
open PySem PySem.Spec PyProof.Rows L2
section
variable {X:Cx} {l:Expr} {f:SE} {elts:List Expr} {k j:Nat} {tpos p pos kpos cpos:Pos}
end
end Dd
set_option maxHeartbeats 4000000
namespace Dd
open PySem L2
noncomputable def bInt:List D→Store→Res D:=fun xs st=>match xs with
 | [.int i]=>.ok (.int i) st
 | [.bl k]=>.ok (.int (if k then 1 else 0)) st
 | _=>.stuck
theorem bInt_D {K:PySem.W.Frag}:CaD K bInt (fun xs H Q=>(∃i,xs=[.int i]∧Q (.int i) H)∨∃k,xs=[.bl k]∧Q (.int (if k then 1 else 0)) H):=fun ρ H st xs us z st' Q rp aa e q=>by
 unfold bInt at e
 split at e
 ·cases e
  obtain ⟨u,rfl,a⟩:=aa.one
  cases a
  exact .inl ⟨_,rfl,q _ _ _ (.refl _ _) rp (.int _)⟩
 ·cases e
  obtain ⟨u,rfl,a⟩:=aa.one
  cases a
  exact .inr ⟨_,rfl,q _ _ _ (.refl _ _) rp (.int _)⟩
 ·cases e
noncomputable def eCompM (it:SA) (k:Nat) (is:List Nat) (bd:SG) (c:ST) (f:SE):SE:=fun σ st=>(it σ st).bind fun xs st1=>if xs.length≤sizeLine then (compF bd c f xs (startD k is σ) st1).bind fun ys st2=>.ok (.ref st2.length) (st2++[.lst ys]) else .stuck
section
variable {X:Cx} {tg iter elt:Expr} {ifs:List Expr} {it:SA} {bd:SG} {c:ST} {f:SE} {N:List Str} {k:Nat} {is:List Nat} {scope:Scope} {pos:Pos}
end
end Dd
set_option maxHeartbeats 4000000
namespace Dd
open PySem L2
noncomputable def plainE:Expr→Bool
 | .Starred _ _=>false
 | _=>true
theorem zkv {e:Expr} {es:List Expr} {env:Env} (h:plainE e=true):starEach (e::es) env=(false,eval e env)::starEach es env:=by
 cases e<;>first | rfl | cases h
theorem zzz {X:Cx} {e:Expr} {es:List Expr} {f:SE} {g:SA} (ha:DE X e f) (hr:DA X es g) (hp:plainE e=true:=by rfl):DA X (e::es) (aCons f g):=zbdk ha hr (zkv hp)
noncomputable def bBest (gt:Bool):List D→Store→Res D:=fun xs st=>match xs with
 | [x]=>match (seqOf st x).bind asInts with
  | some (n::ns)=>.ok (.int (bestI gt n ns)) st
  | _=>.stuck
 | _=>.stuck
theorem zbdw {K:PySem.W.Frag} {gt:Bool}:CaD K (bBest gt) (rBest K gt):=fun ρ H st xs us z st' Q rp aa e q=>by
 unfold bBest at e
 split at e
 ·split at e
  ·rename_i n ns h
   cases e
   obtain ⟨ys,h0,h⟩:=Option.bind_eq_some_iff.mp h
   obtain ⟨u,rfl,a⟩:=aa.one
   obtain ⟨p,vs,rfl,h1,h2⟩:=zjf rp a h0
   have e:=zcs h2 h
   subst e
   exact ⟨p,n,ns,rfl,h1,q _ _ _ (.refl _ _) rp (.int _)⟩
  ·cases e
 ·cases e
noncomputable def pairsF:List D→List D→List D
 | x::xs,y::ys=>.tup [x,y]::pairsF xs ys
 | _,_=>[]
noncomputable def iZipT (g:SA):SA:=fun σ st=>(g σ st).bind fun xs st1=>match xs with
 | [.tup a,.tup b]=>.ok (pairsF a b) st1
 | _=>.stuck
section
variable {X:Cx} {a b:Expr} {g:SA} {elts:List Expr} {k:Nat} {tpos p pos:Pos}
end
noncomputable def sSetG (bd:SG) (f:SE):SS:=fun σ st=>(f σ st).bind fun v st1=>match bd v σ with
 | some σ1=>.ok (.nx σ1) st1
 | none=>.stuck
end Dd
set_option maxHeartbeats 4000000
namespace Dd
open PySem L2 PyProof.Rows
structure JE (X:Cx) (e:Expr) (f:SE):Prop where out:DE X e f
structure JT (X:Cx) (e:Expr) (f:ST):Prop where out:DT X e f
structure JW (X:Cx) (e:Expr) (f:ST):Prop where out:DW X e f
structure JA (X:Cx) (e:List Expr) (f:SA):Prop where out:DA X e f
structure JS (X:Cx) (s:Stmt) (f:SS):Prop where out:DSt X s f
structure JB (X:Cx) (s:List Stmt) (f:SS):Prop where out:DSs X s f
structure JO (X:Cx) (e:Option Expr) (f:DS→Store→Res (Option Int)):Prop where out:DO X e f
structure JG (X:Cx) (e:Expr) (b:SG):Prop where out:DG X e b
structure JGs (X:Cx) (e:List Expr) (b:List D→DS→Option DS):Prop where out:DGs X e b
structure JI (X:Cx) (tg iter:Expr) (f:SA):Prop where out:DI X tg iter f
structure JIf (X:Cx) (ifs:List Expr) (c:ST):Prop where out:PIf X ifs (tDT X.K c)
structure JC (X:Cx) (op:CmpOp) (a b:Expr) (f:SE):Prop where out:PC X op a b (tD X.K f)
theorem JW.pt {X:Cx} {e:Expr} {t:ST} (h:JW X e t):JT X e t:=⟨PW.pt h.out⟩
section
variable {X:Cx}
theorem d_varJ {e:Expr} {i:Nat} (h:PE X e (tVar i)):JE X e (eVar i):=⟨d_var h⟩
theorem d_conJ {e:Expr} {v:V} {d:D} (h:PE X e (tC v)) (k:∀ρ H,At X.K ρ H d v):JE X e (eC d):=⟨d_con h k⟩
theorem d_intJ {i j pos}:JE X (.Constant (.int i) j pos) (eC (.int i)):=⟨d_int⟩
theorem d_blJ {b j pos}:JE X (.Constant (.bool b) j pos) (eC (.bl b)):=⟨d_bl⟩
theorem d_nonJ {j pos}:JE X (.Constant .none j pos) (eC .non):=⟨d_non⟩
end
section
variable {X:Cx} {a b c:Expr} {f f' f'':SE} {pos:Pos}
theorem d_opJ {op:Operator} {r:R2} {g:D→D→Store→Res D} (ho:OpR X (binaryOp op) r) (hr:OpD X.K g r) (ha:JE X a f) (hb:JE X b f'):JE X (.BinOp a op b pos) (eOp g f f'):=⟨d_op ho hr ha.out hb.out⟩
theorem d_cmpJ {op:CmpOp} {r:R2} {g:D→D→Store→Res D} (ho:OpR X (compareOp op) r) (hr:OpD X.K g r) (ha:JE X a f) (hb:JE X b f') (hm:behindInMarks op b=false):JE X (.Compare a [op] [b] pos) (eOp g f f'):=⟨d_cmp ho hr ha.out hb.out hm⟩
theorem zbx {op:CmpOp} {r:R2} {g:D→D→Store→Res D} (ho:OpR X (compareOp op) r) (hr:OpD X.K g r) (ha:JE X a f) (hb:JE X b f') (hm:behindInMarks op b=false):JT X (.Compare a [op] [b] pos) (eB (eOp g f f')):=⟨dt_cmp ho hr ha.out hb.out hm⟩
end
section
variable {X:Cx} {a b:Expr} {rest:List Expr} {f f':SE} {t t':ST} {pos:Pos}
theorem d_oneJ {op} (h:JE X a f):JE X (.BoolOp op [a] pos) f:=⟨d_one h.out⟩
theorem d_andJ (ha:JE X a f) (hb:JE X (.BoolOp .And (b::rest) pos) f'):JE X (.BoolOp .And (a::b::rest) pos) (eAnd f f'):=⟨d_and ha.out hb.out⟩
theorem d_notJ (ha:JE X a f):JE X (.UnaryOp .Not a pos) (eNot f):=⟨d_not ha.out⟩
theorem zot {op} (h:JT X a t) (hop:op=.And∨op=.Or):JW X (.BoolOp op [a] pos) t:=⟨dw_one h.out hop⟩
theorem zbcx (ha:JT X a t) (hb:JW X (.BoolOp .And (b::rest) pos) t'):JW X (.BoolOp .And (a::b::rest) pos) (bAnd t t'):=⟨dw_and ha.out hb.out⟩
theorem dw_orJ (ha:JT X a t) (hb:JW X (.BoolOp .Or (b::rest) pos) t'):JW X (.BoolOp .Or (a::b::rest) pos) (bOr t t'):=⟨dw_or ha.out hb.out⟩
theorem zou (ha:JT X a t):JT X (.UnaryOp .Not a pos) (bNot t):=⟨dt_not ha.out⟩
theorem d_ifJ {c:Expr} (hc:JT X c t) (ha:JE X a f) (hb:JE X b f'):JE X (.IfExp c a b pos) (eIf t f f'):=⟨d_if hc.out ha.out hb.out⟩
end
section
variable {X:Cx} {e:Expr} {es:List Expr} {f:SE} {g:SA} {pos:Pos}
theorem zb :JA X [] aNil:=⟨da_nil⟩
theorem d_tupJ {x1} (h:JA X es g):JE X (.Tuple es x1 pos) (eTup g):=⟨d_tup h.out⟩
theorem d_lstJ (h:JA X es g):JE X (.List es pos) (eLst g):=⟨d_lst h.out⟩
theorem zix (h:JA X es g):JE X (.List es pos) (eLstM g):=⟨d_lstM h.out⟩
end
section
variable {X:Cx} {a b e:Expr} {f f':SE} {pos:Pos} {lo hi:Option Expr} {l h:DS→Store→Res (Option Int)}
theorem zkh :JO X none pNone:=⟨zbde⟩
theorem zkg (he:JE X e f):JO X (some e) (pSome f):=⟨zbdd he.out⟩
theorem d_ixJ (ha:JE X a f) (hb:JE X b f') (hs:PlainIx b):JE X (.Subscript a b pos) (eOp oIx f f'):=⟨d_ix ha.out hb.out hs⟩
theorem d_slJ {p2:Pos} (he:JE X e f) (hl:JO X lo l) (hu:JO X hi h):JE X (.Subscript e (.Slice lo hi none p2) pos) (eSl f l h):=⟨d_sl he.out hl.out hu.out⟩
end
section
variable {X:Cx} {x:Str} {p pos:Pos} {e:Expr} {es:List Expr} {f:SA} {id T:String} {r:List V→Hp→VK→Prop} {g:List D→Store→Res D}
theorem zq (hc : CallR X (.builtin id) r) (hr : CaD X.K g r) (hg : Gl X x) (hm : X.mg x = none) (hv : bootBuiltins x = some (.builtin id)) (ha : JA X (e :: es) f) (hn : x ≠ "__name__" := by decide) (hdb : (x == ("__debug__" : Str)) = false := by decide) (he : starEach (e :: es) X.env = (false, eval e X.env) :: starEach es X.env := by rfl) (hpl : (backTo pos (starEach es X.env)).any (·.1) = false := by rfl) : JE X (.Call (.Name x p) (e :: es) [] pos) (eCall g f) := ⟨zbdo hc hr hg hm hv ha.out hn hdb he hpl⟩
theorem zdj (hc : CallR X (.type T) r) (hr : CaD X.K g r) (hg : Gl X x) (hm : X.mg x = none) (hv : bootBuiltins x = some (.type T)) (ha : JA X (e :: es) f) (hn : x ≠ "__name__" := by decide) (hdb : (x == ("__debug__" : Str)) = false := by decide) (he : starEach (e :: es) X.env = (false, eval e X.env) :: starEach es X.env := by rfl) (hpl : (backTo pos (starEach es X.env)).any (·.1) = false := by rfl) : JE X (.Call (.Name x p) (e :: es) [] pos) (eCall g f) := ⟨zbac hc hr hg hm hv ha.out hn hdb he hpl⟩
end
section
variable {X:Cx} {a b c o i e value f':Expr} {f g h:SE} {pos pos' apos cpos:Pos}
theorem zxl :JE X (.Dict [] [] pos) eDNew:=⟨d_dnew⟩
theorem pc_inJ (hu:X.A.units+1 < cLine) (hi:JE X i g) (ho:JE X o f):JC X .In i o (eOp (oDIn false) g f):=⟨pc_in hu hi.out ho.out⟩
theorem dt_inJ {op:CmpOp} {t:SE} (h:JC X op a b t) (h1:behindInMarks op b=false:=by first | exact nobehind _ (by decide) (by decide) | rfl):JT X (.Compare a [op] [b] pos) (eB t):=⟨dt_in h.out h1⟩
theorem zbdm (hu:X.A.units+1 < cLine) (ho:JE X o f) (hi:JE X i g) (hs:NoSl i):JE X (.Subscript o i pos) (eOp oDGet f g):=⟨d_dget hu ho.out hi.out hs⟩
theorem zbab (hu : X.A.units + 1 < cLine) (ho : JE X o f) (he : JE X e g) (hf : JE X f' h) (m : M2 X o "get" apos e f' cpos) : JE X (.Call (.Attribute o "get" apos) [e, f'] [] cpos) (eDGet2 f g h) := ⟨zbdn hu ho.out he.out hf.out m⟩
theorem zbdl (hu : X.A.units + 1 < cLine) (ho : JE X o f) (he : JE X e g) (m : M1 X o "pop" apos e cpos) : JE X (.Call (.Attribute o "pop" apos) [e] [] cpos) (eDPop f g) := ⟨d_dpop hu ho.out he.out m⟩
theorem zsm (hu:X.A.units+1 < cLine) (ho:JE X o f) (hi:JE X i g) (hv:JE X value h) (hs:swapsWith value (some (.Subscript o i pos')) pos.line X.env=pure false):JS X (.Assign [.Subscript o i pos'] value pos) (sDPut f g h):=⟨zbda hu ho.out hi.out hv.out hs⟩
end
section
variable {X:Cx} {o e i value:Expr} {es:List Expr} {f g h:SE} {ga:SA} {pos apos cpos:Pos}
theorem zkl (ho : JE X o f) (ha : JA X (e :: es) ga) (hbase : attributeBase o "append" X.env (eval o X.env) = eval o X.env := by rfl) (hfew : ((backTo cpos (starEach (e :: es) X.env)).all (fun x => !x.1) && (backToKw cpos (keywordEach [] X.env)).all (fun x => x.1.isSome)
 && decide ((e :: es).length + ([] : List Keyword).length + (if ([] : List Keyword).isEmpty then 0 else 1) < 30)) = true := by rfl) (hline : (apos.endLine == cpos.line) = true := by rfl) (hs : starEach (e :: es) X.env = (false, eval e X.env) :: starEach es X.env := by rfl) (hplain : (backTo cpos (starEach es X.env)).any (·.1) = false := by rfl) : JE X (.Call (.Attribute o "append" apos) (e :: es) [] cpos) (eAppend f ga) := ⟨zbad ho.out ha.out hbase hfew hline hs hplain⟩
theorem zkk (ho : JE X o f) (ha : JA X (e :: es) ga) (hbase : attributeBase o "extend" X.env (eval o X.env) = eval o X.env := by rfl) (hfew : ((backTo cpos (starEach (e :: es) X.env)).all (fun x => !x.1) && (backToKw cpos (keywordEach [] X.env)).all (fun x => x.1.isSome)
 && decide ((e :: es).length + ([] : List Keyword).length + (if ([] : List Keyword).isEmpty then 0 else 1) < 30)) = true := by rfl) (hline : (apos.endLine == cpos.line) = true := by rfl) (hs : starEach (e :: es) X.env = (false, eval e X.env) :: starEach es X.env := by rfl) (hplain : (backTo cpos (starEach es X.env)).any (·.1) = false := by rfl) : JE X (.Call (.Attribute o "extend" apos) (e :: es) [] cpos) (eExtend f ga) := ⟨zbaa ho.out ha.out hbase hfew hline hs hplain⟩
theorem d_fzJ (ho:JE X o f):JE X o (eFz f):=⟨d_fz ho.out⟩
end
section
variable {X:Cx} {e c o i value:Expr} {sm:Stmt} {rest:List Stmt} {f g h:SE} {s t:SS} {b:ST} {pos pos':Pos}
theorem zcp :JB X [] sNx:=⟨ds_nil⟩
theorem zr (he:JE X e f):JS X (.Return (some e) pos) (sRet f):=⟨ds_ret he.out⟩
theorem zdy (he:JE X e f) (hs:swapsWith e none pos.line X.env=pure false:=by rfl):JS X (.Expr e pos) (sDrop f):=⟨zbcz he.out hs⟩
theorem zn {i:Nat} {x:Str} (hN:X.N.Nodup) (hi:X.N[i]?=some x) (hx:L2.Loc X.env.scope x) (he:JE X e f) (hs:swapsWith e (some (.Name x pos')) pos.line X.env=pure false:=by rfl) (hf:X.fn x=true∨X.env.scope.names.lookup x=some .local:=by first | exact .inl rfl | exact .inr rfl | assumption):JS X (.Assign [.Name x pos'] e pos) (sSet i f):=⟨ds_set hN hi hx he.out hs hf⟩
theorem zf (h1:JS X sm s):JB X [sm] s:=⟨ds_one h1.out⟩
theorem zd (h1:JS X sm s) (h2:JB X rest t):JB X (sm::rest) (sSeq s t):=⟨zbdb h1.out h2.out⟩
theorem ds_ifJ {a' b':List Stmt} (hc:JT X c b) (ha:JB X a' s) (hb:JB X b' t):JS X (.If c a' b' pos) (sIf b s t):=⟨ds_if hc.out ha.out hb.out⟩
theorem zbdc {i:Nat} {x:Str} {op:Operator} {ti:TIp} {g:D→D→Store→Res D} (hN:X.N.Nodup) (hi:X.N[i]?=some x) (hx:L2.Loc X.env.scope x) (he:JE X e f) (ho:PIp X op ti) (hr:IpD X.K g ti) (hf:X.fn x=true∨X.env.scope.names.lookup x=some .local:=by first | exact .inl rfl | exact .inr rfl | assumption):JS X (.AugAssign (.Name x pos') op e pos) (sAug i g f):=⟨ds_aug hN hi hx he.out ho hr hf⟩
theorem zov (he:JE X value h) (ho:JE X o f) (hi:JE X i g) (ha:∀v,assign (.Subscript o i pos') X.env v=(do
 let ov ← holding [v] (eval o X.env)
 let iv ← holding [v,ov] (eval i X.env)
 standAt pos'
 holding [v,ov,iv] (setItem ov iv v)
 release [v,ov,iv] []):=by intro _;rfl) (hs:swapsWithSole [.Subscript o i pos'] value pos.line X.env=pure false:=by rfl) (hw:swappedStores [.Subscript o i pos'] value X.env=pure none:=by rfl) (h1:(assignEach [.Subscript o i pos'] X.env).map (·.2)=[assign (.Subscript o i pos') X.env]:=by rfl):JS X (.Assign [.Subscript o i pos'] value pos) (sSetIx f g h):=⟨zzt he.out ho.out hi.out ha hs hw h1⟩
end
section
variable {X:Cx} {pos:Pos} {e:Expr} {es:List Expr} {t:SG} {u:List D→DS→Option DS}
theorem zg {i:Nat} {x:Str} (hN:X.N.Nodup) (hi:X.N[i]?=some x) (hx:L2.Loc X.env.scope x) (hf:X.fn x=true∨X.env.scope.names.lookup x=some .local:=by first | exact .inl rfl | exact .inr rfl | assumption):JG X (.Name x pos) (gN i):=⟨zbdj hN hi hx hf⟩
theorem zdz :JGs X [] gsNil:=⟨zbdi⟩
theorem zy (h1:JG X e t) (h2:JGs X es u) (hs:(assignEach (e::es) X.env).map (·.2)=assign e X.env::(assignEach es X.env).map (·.2):=by rfl):JGs X (e::es) (gsCons t u):=⟨zzx h1.out h2.out hs⟩
theorem zgm {k:Nat} {n:Nat} (hc:X.calm=true) (h:JGs X es u) (hn:(assignEach es X.env).length=n:=by rfl) (hst:(assignEach es X.env).findIdx? (·.1)=none:=by rfl):JG X (.Tuple es k pos) (gT n u):=⟨dg_tup hc h.out hn hst⟩
end
section
variable {X:Cx} {tg l a b:Expr} {f:SE} {g:SA} {p pos:Pos}
theorem zbp (hl:JE X l f):JI X tg l (iSeq f):=⟨di_seq hl.out⟩
theorem zbi (hg : Gl X "range") (hm : X.mg "range" = none) (ha : JA X [a] g) (hs : starEach [a] X.env = [(false, eval a X.env)] := by rfl) : JI X tg (.Call (.Name "range" p) [a] [] pos) (iR1 g) := ⟨zvq hg hm ha.out hs⟩
theorem zfp (hg : Gl X "range") (hm : X.mg "range" = none) (ha : JA X [a, b] g) (hs : starEach [a, b] X.env = [(false, eval a X.env), (false, eval b X.env)] := by rfl) (hs2 : starEach [b] X.env = [(false, eval b X.env)] := by rfl) : JI X tg (.Call (.Name "range" p) [a, b] [] pos) (iR2 g) := ⟨zvp hg hm ha.out hs hs2⟩
end
section
variable {X:Cx} {tg l:Expr} {f:SE}
theorem zzw (hl:JE X l f):JI X tg l (iDict f):=⟨zbdh hl.out⟩
end
section
variable {X:Cx} {tg iter c:Expr} {body:List Stmt} {it:SA} {bd:SG} {b:SS} {t:ST} {pos:Pos}
theorem zbm (hp:PassesOwn (model X.prog X.w) X.A X.env X.xe) (hc:X.calm=true) (hi:JI X tg iter it) (hg:JG X tg bd) (hb:JB X body b) (hs:∀x,foldedSetIterable iter X.env x=pure x:=by intro _;rfl):JS X (.For tg iter body [] pos) (sFor it bd b):=⟨ds_for hp hc hi.out hg.out hb.out hs⟩
theorem zvo (hp:PassesOwn (model X.prog X.w) X.A X.env X.xe) (hc:JT X c t) (hb:JB X body b):JS X (.While c body [] pos) (sWhile t b):=⟨zzs hp hc.out hb.out⟩
end
section
variable {X:Cx} {tg iter elt:Expr} {ifs:List Expr} {it:SA} {bd:SG} {c:ST} {f:SE} {N:List Str} {k:Nat} {is:List Nat} {scope:Scope} {pos:Pos}
theorem zdb (hcalm:X.calm=true) (hi:JI X tg iter it) (hg:∀cl C fp s H,JG (cxC X N scope cl C fp s H) tg bd) (hc:∀cl C fp s H,JIf (cxC X N scope cl C fp s H) ifs c) (he:∀cl C fp s H,JE (cxC X N scope cl C fp s H) elt f) (S:CompScope X N k is scope) (hs:∀x,foldedSetIterable iter X.env x=pure x:=by intro _;rfl):JE X (.ListComp elt [⟨tg,iter,ifs,0⟩] scope pos) (eComp it k is bd c f):=⟨d_comp hcalm hi.out (fun cl C fp s H=>(hg cl C fp s H).out) (fun cl C fp s H=>(hc cl C fp s H).out) (fun cl C fp s H=>(he cl C fp s H).out) S hs⟩
theorem zzu {i:Nat} {x:Str} {pos' spos:Pos} (hcalm:X.calm=true) (hN:X.N.Nodup) (hxi:X.N[i]?=some x) (hx:L2.Loc X.env.scope x) (hi:JI X tg iter it) (hg:∀cl C fp s H,JG (cxC X N scope cl C fp s H) tg bd) (hc:∀cl C fp s H,JIf (cxC X N scope cl C fp s H) ifs c) (he:∀cl C fp s H,JE (cxC X N scope cl C fp s H) elt f) (S:CompScope X N k is scope) (hsw:swapsWith (.ListComp elt [⟨tg,iter,ifs,0⟩] scope pos) (some (.Name x pos')) spos.line X.env=pure true:=by rfl) (hf:X.fn x=true∨X.env.scope.names.lookup x=some .local:=by first | exact .inl rfl | exact .inr rfl | assumption) (hs:∀x,foldedSetIterable iter X.env x=pure x:=by intro _;rfl):JS X (.Assign [.Name x pos'] (.ListComp elt [⟨tg,iter,ifs,0⟩] scope pos) spos) (sSet i (eComp it k is bd c f)):=⟨zbcy hcalm hN hxi hx hi.out (fun cl C fp s H=>(hg cl C fp s H).out) (fun cl C fp s H=>(hc cl C fp s H).out) (fun cl C fp s H=>(he cl C fp s H).out) S hsw hf hs⟩
theorem zdi {X:Cx}:JIf X [] bYes:=⟨zbdg⟩
theorem zhv {X:Cx} {c:Expr} {t:ST} (h:JT X c t):JIf X [c] t:=⟨zbdf h.out⟩
end
section
variable {X:Cx} {x:Str} {k:Nat} {ps:List Str} {F:DFn} {p pos:Pos} {e:Expr} {es:List Expr} {g:SA}
theorem zl (c : CalD X.prog X.w X.K X.mg X.base x k ps F) (hn : ∀ ds st v st', F ds st = .ok v st' → ds.length = ps.length) (hr : Room k X.A) (hg : Gl X x) (ha : JA X (e :: es) g) (hdb : (x == ("__debug__" : Str)) = false := by decide) (he : starEach (e :: es) X.env = (false, eval e X.env) :: starEach es X.env := by rfl) (hpl : (backTo pos (starEach es X.env)).any (·.1) = false := by rfl) : JE X (.Call (.Name x p) (e :: es) [] pos) (eCall F g) := ⟨d_call c hn hr hg ha.out hdb he hpl⟩
end
section
theorem zp {P:Program} {w:World} {K:PySem.W.Frag} {mg:Str→Option Value} {base h:Heap} {x:Str} {st:Stmt} {N ps:List Str} {k:Nat} {b:SS} (T:TopF K x st) (X:K.In h) (G:h.Ns mainGlobals mg) (S:FnScope N ps (defScope st)) (bd:∀(kV doc pm:Value) (an:Option Addr) (cdv ct:Value) (us:List Value),us.length=ps.length→bindArgs (PySem.W.fnOf x x (defArgs st) (defBody st) (defScope st) .none kV doc pm an cdv ct) ⟨us,[]⟩=pure (ps.zip us)) (hbody:∀(f:Addr) (cdv:Value) (A:Around) (outer:List Env) (s:Shared) (H:Hp) (E:XK),Room k (A.deeper (envOfC x (defScope st) s.heap.objs.size f cdv)) →
 JB (cxOf CX0 P w K mg base N x (defScope st) f cdv A outer s H E).nox (defBody st) b):CalD P w K mg base x (k+1) ps (fnD N.length ps.length b):=zbdt T X G S bd (fun f cdv A outer s H E rr=>(hbody f cdv A outer s H E rr).out)
end
section
theorem zbck {P : Program} {w : World} {K : PySem.W.Frag} {mg : Str → Option Value} {base : Heap} {st : Stmt} {N ps : List Str} {k : Nat} {b : SS} {f : Addr} {fd : FuncData} (F : Fun K "law" "law" st f fd) (S : FnScope N ps (defScope st)) (hp : ps.length = 1) (hbody : ∀ (cdv : Value) (A : Around) (outer : List Env) (s : Shared) (H : Hp) (E : XK), Room k (A.deeper (envOfC "law" (defScope st) s.heap.objs.size f cdv)) →
 JB (cxOf CX0 P w K mg base N "law" (defScope st) f cdv A outer s H E).nox (defBody st) b) (holds : ∀ ns : List Int, ns.length ≤ 63 → ∃ st', fnD N.length 1 b [.scr (ns.map .int)] [] = .ok (.bl true) st') : FnOk P w K mg base CX0 (k + 1) f fd ps (spLaw K) := law_ok F S hp (fun cdv A outer s H E rr => (hbody cdv A outer s H E rr).out) holds
end
section
variable {X:Cx} {a b c e:Expr} {f f' f'':SE} {pos:Pos} {sm:Stmt}
theorem zkf :JS X sm sStuck:=⟨zzv⟩
theorem zfo (h:JE X a f) (he:∀whole,isTrue a X.env whole=(do let v ← whole;standAt a.pos;holding [v] (truthy v)):=by intro _;rfl):JT X a (eTru f):=⟨dt_tru h.out he⟩
end
section
variable {X:Cx} {l:Expr} {f:SE} {elts:List Expr} {k j:Nat} {tpos p pos kpos cpos:Pos}
end
section
variable {X:Cx} {tg iter elt:Expr} {ifs:List Expr} {it:SA} {bd:SG} {c:ST} {f:SE} {N:List Str} {k:Nat} {is:List Nat} {scope:Scope} {pos:Pos}
end
section
theorem za {X:Cx} {e:Expr} {es:List Expr} {f:SE} {g:SA} (ha:JE X e f) (hr:JA X es g) (hp:plainE e=true:=by rfl):JA X (e::es) (aCons f g):=⟨zzz ha.out hr.out hp⟩
end
section
variable {X:Cx} {a b:Expr} {g:SA} {elts:List Expr} {k:Nat} {tpos p pos:Pos}
end
section
end
end Dd
set_option maxHeartbeats 4000000
namespace L2
open PySem PySem.Spec PyProof.Rows
section
variable {prog:Program} {w:World} {A:Around} {R:Result→Shared→Prop} {I:Addr} {fp wr:List Addr} {n:Nat} {P:Nat→Value→Prop} {St:Nat→Heap→Prop}
end
section
variable {prog:Program} {w:World} {A:Around} {E:Value→Shared→Prop} {s:Shared}
end
section
variable {X:Cx} {p pos cpos kpos:Pos} {l:Expr} {t:TA} {d:Int} {j:Nat}
end
end L2
set_option maxHeartbeats 4000000
namespace L2
open PySem PySem.Spec PyProof.Rows
section
open PySem.AutoSeq1
end
end L2
set_option maxHeartbeats 4000000
namespace Dd
open PySem L2
section
variable {X:Cx} {p pos cpos kpos:Pos} {l:Expr} {f:SA} {d:Int} {j:Nat}
end
section
variable {X:Cx} {o e:Expr} {es:List Expr} {f:SE} {ga:SA} {apos cpos:Pos}
end
end Dd
set_option maxHeartbeats 4000000
namespace L2
open PySem PySem.Spec PyProof.Rows
noncomputable def rInX (K:PySem.W.Frag) (neg:Bool):R2:=fun x c H Q=>∃d p xs,DAt K H x d∧DAt K H c p∧(p=.tuple xs∨p=.list xs)∧PySem.SeqAt.shaped d=true∧PySem.SeqAt.shaped p=true∧Q (.bl (if neg then !xs.any fun y=>PyData.eqv y d else xs.any fun y=>PyData.eqv y d)) H
section
variable {X:Cx}
theorem shp_in {p:PyData} {xs:List PyData} (h:p=.tuple xs∨p=.list xs) (s:PySem.SeqAt.shaped p=true):PyData.canLayAll0 xs=true∧PyData.depthAll xs≤63:=by
 have:(PyData.canLayAll0 xs && decide (PyData.depthAll xs+1≤64))=true:=by rcases h with rfl | rfl<;>exact s
 rw[Bool.and_eq_true] at this
 exact ⟨this.1,by have:=of_decide_eq_true this.2;(first|assumption|lia)⟩
theorem zwj {d:PyData} (s:PySem.SeqAt.shaped d=true):d.canLay0=true:=by
 unfold PySem.SeqAt.shaped at s
 rw[Bool.and_eq_true] at s
 exact s.1
theorem op_inX (hu:X.A.units+64 < cLine):OpR X (compareOp .In) (rInX X.K false):=by
 intro pins s σ H x y v u Q I r1 r2 h
 obtain ⟨d,p,xs,a1,a2,a3,a4,a5,q⟩:=h
 obtain ⟨as,ra⟩:=zex I a1 r1
 obtain ⟨bs,rb⟩:=zex I a2 r2
 obtain ⟨l1,l2⟩:=shp_in a3 a5
 have hu':X.A.units+1+min (PyData.depthAll xs) d.depth < cLine:=by have:=Nat.min_le_left (PyData.depthAll xs) d.depth;(first|assumption|lia)
 rcases a3 with rfl | rfl
 ·exact SeqAt.in_tuple_reads rb ra l1 (zwj a4) hu' ⟨.bl _,H,I,rfl,q⟩
 ·exact SeqAt.in_list_reads rb ra l1 (zwj a4) hu' ⟨.bl _,H,I,rfl,q⟩
end
section
open PySem.AutoSeq1
variable (l:Addr) (items:Array Value) (n:Nat) (dd:Option Addr) (sl:Array (Option Value)) (x:Int) (u:Tok)
end
end L2
namespace Dd
open PySem L2 PyProof.Rows
noncomputable def oInG (neg:Bool) (x c:D) (st:Store):Res D:=match dataOf st x,dataOf st c with
 | some d,some (.tuple xs)=>if PySem.SeqAt.shaped d=true∧PySem.SeqAt.shaped (.tuple xs)=true then .ok (.bl (if neg then !xs.any fun y=>PyData.eqv y d else xs.any fun y=>PyData.eqv y d)) st else .stuck
 | some d,some (.list xs)=>if PySem.SeqAt.shaped d=true∧PySem.SeqAt.shaped (.list xs)=true then .ok (.bl (if neg then !xs.any fun y=>PyData.eqv y d else xs.any fun y=>PyData.eqv y d)) st else .stuck
 | _,_=>.stuck
theorem oIn_D {K:PySem.W.Frag} {neg:Bool}:OpD K (oInG neg) (rInX K neg):=fun ρ H st x y u v z st' Q rp a b e q=>by
 unfold oInG at e
 split at e
 ·rename_i d xs h1 h2
  split at e
  ·rename_i hs
   cases e
   exact ⟨_,_,xs,zem rp a h1,zem rp b h2,.inl rfl,hs.1,hs.2,q _ _ _ (.refl _ _) rp (.bl _)⟩
  ·cases e
 ·rename_i d xs h1 h2
  split at e
  ·rename_i hs
   cases e
   exact ⟨_,_,xs,zem rp a h1,zem rp b h2,.inr rfl,hs.1,hs.2,q _ _ _ (.refl _ _) rp (.bl _)⟩
  ·cases e
 ·cases e
end Dd
set_option maxHeartbeats 4000000
namespace L2
open PySem PySem.Spec PyProof.Rows PySem.W
theorem val_at {ns:List Int} {us:List Value} (r:Vals (ns.map V.int) us) {i:Nat} (hi:i < ns.length):∃t,us.getD i Value.none=Value.int (ns.getD i 0) t:=by
 have e:(ns.map V.int)[i]?=some (V.int ns[i]):=by rw[List.getElem?_map,List.getElem?_eq_getElem hi];rfl
 obtain ⟨u,h1,t,h2⟩:=r.get e
 refine ⟨t,?_⟩
 rw[List.getD_eq_getElem?_getD,h1,List.getD_eq_getElem?_getD,List.getElem?_eq_getElem hi]
 exact h2
theorem zbav {ns:List Int} {us:List Value} (r:Vals (ns.map V.int) us):∀v∈us,∃i t,v=Value.int i t:=fun v hv=>by
 obtain ⟨i,hi,rfl⟩:=List.getElem_of_mem hv
 have hl:=r.length
 rw[List.length_map] at hl
 obtain ⟨t,e⟩:=val_at r (i:=i) (by (first|assumption|lia))
 rw[List.getD_eq_getElem?_getD,List.getElem?_eq_getElem hi] at e
 exact ⟨_,t,e⟩
theorem zod (a b:Int):HT.lexLt [a] [b]=decide (a < b):=by
 by_cases h:a=b
 ·subst h;simp[HT.lexLt]
 ·simp[HT.lexLt,h]
noncomputable abbrev ones (ns:List Int):List (List Int):=ns.map fun n=>[n]
theorem zgd {ns:List Int} {i:Nat} (hi:i < ns.length):(ones ns).getD i []=[ns.getD i 0]:=by
 rw[List.getD_eq_getElem?_getD,List.getElem?_map,List.getElem?_eq_getElem hi,List.getD_eq_getElem?_getD,List.getElem?_eq_getElem hi]
 rfl
section
variable {P:Program} {w:World} {B:Around} {sg:Shared}
theorem zbam {ns:List Int} {us:List Value} (h2:2≤ns.length) (r:Vals (ns.map V.int) us):Srt.Answers P w B (Srt.rank (ones ns)) us sg:=by
 have hl:=r.length
 rw[List.length_map] at hl
 refine ⟨oneType',fun R hR=>?_,fun i j C hi hj hC=>?_⟩
 ·exact kas_kind (T := .type "int") (by (first|assumption|lia)) (fun v hv => by
   obtain ⟨i,t,rfl⟩:=zbav r v hv
   exact Looks.now) (by decide) (by decide) hR
 ·obtain ⟨t,e1⟩:=val_at r (i:=i) (by (first|assumption|lia))
  obtain ⟨t2,e2⟩:=val_at r (i:=j) (by (first|assumption|lia))
  unfold kas_ask
  rw[e1,e2]
  rw[Srt.zlf (by rw[List.length_map];(first|assumption|lia)) (by rw[List.length_map];(first|assumption|lia)),zgd (by (first|assumption|lia)),zgd (by (first|assumption|lia)),zod] at hC
  rw[keyLt'_oneType]
  exact oneLt_int hC
end
theorem zbae {ns:List Int} {us:List Value} (r:Vals (ns.map V.int) us):Srt.Coh (Srt.rank (ones ns)) us:=fun i j hi hj e=>by
 have hl:=r.length
 rw[List.length_map] at hl
 obtain ⟨t,e1⟩:=val_at r (i:=i) (by (first|assumption|lia))
 obtain ⟨t2,e2⟩:=val_at r (i:=j) (by (first|assumption|lia))
 rw[e1,e2] at e
 have:ns.getD i 0=ns.getD j 0:=by injection e
 unfold Srt.rank
 rw[zgd (by (first|assumption|lia)),zgd (by (first|assumption|lia)),this]
theorem zml {α:Type} {f:α→V} {g:α→Value}:∀{l:List α},(∀a∈l,RelV (f a) (g a))→Vals (l.map f) (l.map g)
 | [],_=>.nil
 | a::l,h=>.cons (h a List.mem_cons_self) (zml fun b hb=>h b (List.mem_cons_of_mem _ hb))
theorem zyu {ns:List Int} {us:List Value} (r:Vals (ns.map V.int) us) {p:Array Nat} (p1:p.Perm (List.toArray (List.range ns.length))) (p2:Srt.Up (Srt.rank (ones ns)) p ns.length) :
  ∃ms:List Int,ms.Perm ns∧ms.Pairwise (·≤·)∧Vals (ms.map V.int) (Srt.outOf us p).toList:=by
 have hl:=r.length
 rw[List.length_map] at hl
 have hps:p.size=ns.length:=by rw[p1.size_eq];simp
 have sm:∀i∈p.toList,i < ns.length:=fun i hi=>by
  have h3:=(p1.mem_iff (a:=i)).mp (by rw[← Array.mem_toList_iff];exact hi)
  exact List.mem_range.mp (List.mem_toArray.mp h3)
 refine ⟨p.toList.map fun i=>ns.getD i 0,?_,?_,?_⟩
 ·have e1:p.toList.Perm (List.range ns.length):=by
   have:=Array.perm_iff_toList_perm.mp p1
   simpa using this
  have e2:=e1.map fun i=>ns.getD i 0
  have e3:((List.range ns.length).map fun i=>ns.getD i 0)=ns:=by
   apply List.ext_getElem
   ·simp
   ·intro i h1 h2
    simp[List.getD_eq_getElem?_getD,h2]
  rw[e3] at e2
  exact e2
 ·rw[List.pairwise_iff_getElem]
  intro i j hi hj hij
  rw[List.getElem_map,List.getElem_map]
  rw[List.length_map] at hi hj
  have hi':i < p.size:=by simpa using hi
  have hj':j < p.size:=by simpa using hj
  have hu:=p2 i j (Nat.le_of_lt hij) (by (first|assumption|lia))
  have g:∀k,(hk:k < p.toList.length)→p.getD k 0=p.toList[k]:=fun k hk=>by
   have hk':k < p.size:=by simpa using hk
   rw[Array.getD_eq_getD_getElem?,Array.getElem?_eq_getElem hk']
   simp
  have si:=sm _ (List.getElem_mem hi)
  have sj:=sm _ (List.getElem_mem hj)
  have lk:=Srt.zlf (ks:=ones ns) (i:=p.toList[j]) (j:=p.toList[i]) (by rw[List.length_map];exact sj) (by rw[List.length_map];exact si)
  have hno:Srt.lt (Srt.rank (ones ns)) p.toList[j] p.toList[i]=false:=by
   refine decide_eq_false fun z=>?_
   unfold Srt.At at hu
   rw[g i hi,g j hj] at hu
   (first|assumption|lia)
  rw[hno,zgd sj,zgd si,zod] at lk
  have:=of_decide_eq_false lk.symm
  (first|assumption|lia)
 ·unfold Srt.outOf
  rw[List.map_map]
  show Vals _ (p.toList.map fun i=>us.getD i Value.none)
  refine zml fun i hi=>?_
  obtain ⟨t,e⟩:=val_at r (sm i hi)
  exact ⟨t,e⟩
end L2
namespace Dd
open PySem L2 PyProof.Rows
noncomputable def sortI (l:List Int):List Int:=l.mergeSort fun a b=>decide (a≤b)
theorem zha (l:List Int):(sortI l).Perm l:=List.mergeSort_perm _ _
theorem zxz (l:List Int):(sortI l).Pairwise (·≤·):=by
 have:=List.pairwise_mergeSort (le:=fun a b:Int=>decide (a≤b)) (fun a b c h1 h2=>by simp at *;(first|assumption|lia)) (fun a b=>by simp;(first|assumption|lia)) l
 exact this.imp fun h=>by simpa using h
theorem zya {a b:List Int} (p:a.Perm b) (h:a.Pairwise (·≤·)):a=sortI b :=
 (p.trans (zha b).symm).eq_of_pairwise (fun x y _ _ h1 h2=>by (first|assumption|lia)) h (zxz b)
end Dd
namespace Dd
open PySem L2 PyProof.Rows
end Dd
set_option maxHeartbeats 4000000
namespace L2
open PySem PySem.Spec PyProof.Rows
end L2
namespace Dd
open PySem L2 PyProof.Rows
section
variable {X:Cx} {o e:Expr} {es:List Expr} {f:SE} {ga:SA} {apos cpos:Pos}
end
end Dd
namespace Dd
variable {α:Type} {motive:List α→Prop}
@[elab_as_elim] theorem len0 (us:List α) (hl:us.length=0) (h:motive []):motive us:=by rw[List.eq_nil_of_length_eq_zero hl];exact h
@[elab_as_elim] theorem lenS {n:Nat} (us:List α) (hl:us.length=n+1) (h:∀a us,us.length=n→motive (a::us)):motive us:=by
 cases us with
 | nil=>cases hl
 | cons a us=>exact h a us (Nat.succ.inj hl)
@[elab_as_elim] theorem len1 (us:List α) (hl:us.length=1) (h:∀a,motive [a]):motive us:=lenS us hl fun a us hl=>len0 us hl (h a)
@[elab_as_elim] theorem len2 (us:List α) (hl:us.length=2) (h:∀a b,motive [a,b]):motive us:=lenS us hl fun a us hl=>len1 us hl (h a)
@[elab_as_elim] theorem len3 (us:List α) (hl:us.length=3) (h:∀a b c,motive [a,b,c]):motive us:=lenS us hl fun a us hl=>len2 us hl (h a)
@[elab_as_elim] theorem len4 (us:List α) (hl:us.length=4) (h:∀a b c d,motive [a,b,c,d]):motive us:=lenS us hl fun a us hl=>len3 us hl (h a)
end Dd
namespace Dd
open PySem L2
end Dd
namespace L2
open PySem PySem.Spec PyProof.Rows
end L2
namespace Dd
open PySem L2 PyProof.Rows
end Dd
namespace L2
open PySem PySem.Spec PyProof.Rows
section
variable {X:Cx} {tg:Expr}
end
end L2
namespace Dd
open PySem L2
section
variable {X:Cx} {tg a b c:Expr} {g:SA} {p pos:Pos}
end
end Dd
namespace Dd
open PySem L2 PyProof.Rows
section
variable {X:Cx} {o e:Expr} {es:List Expr} {f:SE} {ga:SA} {apos cpos:Pos}
end
end Dd
namespace L2
open PySem PySem.Spec PyProof.Rows
variable {X:Cx} {e es:Expr} {te ts:TE} {pos p2:Pos}
end L2
namespace Dd
open PySem L2
section
variable {X:Cx} {e es:Expr} {f g:SE} {pos p2:Pos}
end
end Dd
namespace L2
open PySem PySem.Spec PyProof.Rows
section
variable {prog:Program} {w:World} {A:Around} {E:Value→Shared→Prop} {s:Shared}
end
end L2
namespace L2
open PySem PySem.Spec PyProof.Rows
variable {X:Cx} {e es:Expr} {te ts:TE} {pos p2:Pos}
end L2
namespace Dd
open PySem L2
section
variable {X:Cx} {e es:Expr} {f g:SE} {pos p2:Pos}
end
end Dd
namespace L2
open PySem PySem.Spec PyProof.Rows
end L2
namespace Dd
open PySem L2
end Dd
namespace L2
open PySem PySem.Spec PyProof.Rows
section
variable {X:Cx} {x:Str} {C:Addr} {bmB bmN:List Value} {newId nid initId inN B Bn:String} {e:Expr} {es:List Expr} {ta:TA} {np cpos pos:Pos}
end
end L2
namespace L2
open PySem PySem.Spec PyProof.Rows
section
variable {M:Model} {A:Around} {E:Value→Shared→Prop} {s:Shared}
end
section
variable {P:Program} {w:World} {K:PySem.W.Frag} {mg:Str→Option Value} {base:Heap} {N:List Str} {qual:Str} {scope:Scope} {f:Addr} {cd:Value} {A:Around} {outer:List Env} {s₀:Shared} {H₀:Hp} {E:XK}
end
end L2
namespace L2
open PySem PySem.Spec PyProof.Rows
section
variable {X:Cx}
end
section
variable {X:Cx} {pins pins':List (Addr × Obj)} {σ:St} {H:Hp} {s:Shared} {E:Value→Shared→Prop} {e:Value}
end
section
variable {X:Cx} {body:List Stmt} {x n:Str} {B:Addr} {i:Nat} {b0:Stmt} {suite:List Stmt} {xp hp pos:Pos} {tb:(St→Value→Option Addr→Hp→Prop)→TS} {ts:TS}
end
end L2
namespace L2
open PySem PySem.Spec PyProof.Rows
section
variable {prog:Program} {w:World} {A:Around} {E:Value→Shared→Prop}
end
section
variable {X:Cx} {pos:Pos}
end
end L2
set_option maxHeartbeats 400000
namespace L2
open PySem
namespace St
noncomputable abbrev lt (a b:Nat):Prop:=a < b
theorem zsk (xs:Array Nat) (j:Nat) (mono:∀a b,a≤b→b < xs.size→xs.getD a j≤xs.getD b j):∀(fuel lo hi:Nat),lo≤hi→hi≤xs.size→hi - lo≤fuel→(∀i,i < lo→xs.getD i j < j)→(∀i,hi≤i→i < xs.size→j≤xs.getD i j) →
  SetTable.below.go xs j fuel lo hi≤xs.size∧(∀i,i < SetTable.below.go xs j fuel lo hi→xs.getD i j < j)∧(∀i,SetTable.below.go xs j fuel lo hi≤i→i < xs.size→j≤xs.getD i j)
 | 0,lo,hi,h1,h2,h3,a,b=>by
  have:lo=hi:=by (first|assumption|lia)
  subst this
  unfold SetTable.below.go
  exact ⟨h2,a,b⟩
 | fuel+1,lo,hi,h1,h2,h3,a,b=>by
  unfold SetTable.below.go
  by_cases c:lo < hi
  ·rw[if_pos c]
   dsimp only
   by_cases d:xs.getD ((lo+hi) / 2) j < j
   ·rw[if_pos d]
    exact zsk xs j mono fuel _ hi (by (first|assumption|lia)) h2 (by (first|assumption|lia)) (fun i hi'=>by
     have:=mono i ((lo+hi) / 2) (by (first|assumption|lia)) (by (first|assumption|lia))
     (first|assumption|lia)) b
   ·rw[if_neg d]
    exact zsk xs j mono fuel lo _ (by (first|assumption|lia)) (by (first|assumption|lia)) (by (first|assumption|lia)) a (fun i hi' hs=>by
     have:=mono ((lo+hi) / 2) i hi' hs
     (first|assumption|lia))
  ·rw[if_neg c]
   have:lo=hi:=by (first|assumption|lia)
   subst this
   exact ⟨h2,a,b⟩
noncomputable def Up (xs:Array Nat):Prop:=xs.toList.Pairwise lt
theorem zek (xs:Array Nat) (i d:Nat):xs.getD i d=xs.toList.getD i d:=by
 rw[Array.getD_eq_getD_getElem?,List.getD_eq_getElem?_getD,Array.getElem?_toList]
theorem Up.mono {xs:Array Nat} (h:Up xs) (d a b:Nat) (hab:a≤b) (hb:b < xs.size):xs.getD a d≤xs.getD b d:=by
 rcases Nat.lt_or_ge a b with c | c
 ·have hb':b < xs.toList.length:=by simpa using hb
  have ha':a < xs.toList.length:=by (first|assumption|lia)
  rw[zek,zek,List.getD_eq_getElem?_getD,List.getD_eq_getElem?_getD,List.getElem?_eq_getElem ha',List.getElem?_eq_getElem hb']
  exact Nat.le_of_lt (List.pairwise_iff_getElem.mp h a b ha' hb' c)
 ·have:a=b:=by (first|assumption|lia)
  subst this
  exact Nat.le_refl _
theorem zea {xs:Array Nat} (h:Up xs) (j:Nat):SetTable.below xs j≤xs.size∧(∀i,i < SetTable.below xs j→xs.getD i j < j)∧(∀i,SetTable.below xs j≤i→i < xs.size→j≤xs.getD i j) :=
 zsk xs j (h.mono j) xs.size 0 xs.size (by (first|assumption|lia)) (by (first|assumption|lia)) (by (first|assumption|lia)) (fun i hi=>absurd hi (by (first|assumption|lia))) (fun i h1 h2=>absurd h2 (by (first|assumption|lia)))
theorem zmg {xs:Array Nat} (h:Up xs) (j:Nat):∀y∈xs.toList.take (SetTable.below xs j),y < j:=fun y hy=>by
 obtain ⟨h1,h2,h3⟩:=zea h j
 obtain ⟨i,hi,rfl⟩:=List.mem_iff_getElem.mp hy
 rw[List.length_take] at hi
 have hi':i < xs.toList.length:=by (first|assumption|lia)
 have:=h2 i (by (first|assumption|lia))
 rw[zek,List.getD_eq_getElem?_getD,List.getElem?_eq_getElem hi'] at this
 rw[List.getElem_take]
 exact this
theorem zhz {xs:Array Nat} (h:Up xs) (j:Nat):∀y∈xs.toList.drop (SetTable.below xs j),j≤y:=fun y hy=>by
 obtain ⟨h1,h2,h3⟩:=zea h j
 obtain ⟨i,hi,rfl⟩:=List.mem_iff_getElem.mp hy
 rw[List.length_drop] at hi
 have hl:xs.toList.length=xs.size:=by simp
 have hi':SetTable.below xs j+i < xs.toList.length:=by (first|assumption|lia)
 have:=h3 (SetTable.below xs j+i) (by (first|assumption|lia)) (by (first|assumption|lia))
 rw[zek,List.getD_eq_getElem?_getD,List.getElem?_eq_getElem hi'] at this
 rw[List.getElem_drop]
 exact this
theorem zwd {xs:Array Nat} (h:Up xs) {j:Nat} (hj:j∈xs.toList):xs[SetTable.below xs j]?=some j:=by
 have ht:=zmg h j
 have hd:=zhz h j
 rw[← List.take_append_drop (SetTable.below xs j) xs.toList] at hj
 rcases List.mem_append.mp hj with hj | hj
 ·exact absurd (ht j hj) (Nat.lt_irrefl _)
 ·have hp:(xs.toList.drop (SetTable.below xs j)).Pairwise lt:=List.Pairwise.sublist (List.drop_sublist _ _) h
  have:(xs.toList.drop (SetTable.below xs j))[0]?=some j:=by
   cases e:xs.toList.drop (SetTable.below xs j) with
   | nil=>rw[e] at hj;cases hj
   | cons y l =>
    rw[e] at hj hd hp
    rcases List.mem_cons.mp hj with rfl | hj
    ·rfl
    ·have h1:=hd y (by simp)
     have h2:y < j:=(List.pairwise_cons.mp hp).1 j hj
     (first|assumption|lia)
  rw[List.getElem?_drop] at this
  rw[← Array.getElem?_toList]
  simpa using this
theorem zej {α:Type} (xs:Array α) (p:Nat) (x:α):(SetTable.insertAt xs p x).toList=xs.toList.take p++x::xs.toList.drop p:=by
 unfold SetTable.insertAt
 rw[Array.toList_append,Array.toList_push,Array.toList_extract,Array.toList_extract]
 simp[List.extract]
 exact List.take_of_length_le (by simp)
theorem Up.insert {xs:Array Nat} (h:Up xs) {j:Nat} (hj:j∉xs.toList):Up (SetTable.insertAt xs (SetTable.below xs j) j):=by
 unfold Up
 rw[zej,List.pairwise_append]
 refine ⟨List.Pairwise.sublist (List.take_sublist _ _) h,List.pairwise_cons.mpr ⟨fun y hy=>?_,List.Pairwise.sublist (List.drop_sublist _ _) h⟩,fun a ha b hb=>?_⟩
 ·have h1:=zhz h j y hy
  have h2:y≠j:=fun e=>hj (e ▸ List.mem_of_mem_drop hy)
  show j < y
  (first|assumption|lia)
 ·have h1:=zmg h j a ha
  rcases List.mem_cons.mp hb with rfl | hb
  ·exact h1
  ·have:=zhz h j b hb
   show a < b
   (first|assumption|lia)
end St
end L2
set_option maxHeartbeats 400000
namespace L2
open PySem
namespace St
structure Tb (t:SetTable):Prop where
 up:Up t.place
 nd:t.dummies=#[]
 inm:∀y∈t.place.toList,y≤t.mask
 pl:t.plain=true
theorem zsj (j:Nat):SetTable.has #[] j=false:=by
 unfold SetTable.has
 simp
theorem Tb.slot {t:SetTable} (h:Tb t) (j:Nat):(t.slot j=.empty∧j∉t.place.toList)∨(∃i,t.slot j=.live i)∧j∈t.place.toList:=by
 unfold SetTable.slot
 dsimp only
 by_cases c:t.place[SetTable.below t.place j]?=some j
 ·right
  rw[if_pos (by rw[c];exact beq_self_eq_true _)]
  rw[← Array.getElem?_toList] at c
  exact ⟨⟨_,rfl⟩,List.mem_of_getElem? c⟩
 ·left
  rw[if_neg (by simpa using c),h.nd,zsj]
  exact ⟨rfl,fun hj=>c (zwd h.up hj)⟩
noncomputable def iAt (mask:Nat):Nat→Nat→Nat→Nat
 | 0,i,_=>i
 | k+1,i,per=>iAt mask k ((i * 5+1+per / 32) % (mask+1)) (per / 32)
noncomputable def nextP (mask:Nat) (p:SetTable.Probe):SetTable.Probe:={j:=(p.i * 5+1+p.perturb / 32) % (mask+1),more:=SetTable.runEnd mask ((p.i * 5+1+p.perturb / 32) % (mask+1)) - (p.i * 5+1+p.perturb / 32) % (mask+1),i:=(p.i * 5+1+p.perturb / 32) % (mask+1),perturb:=p.perturb / 32,dummy:=p.dummy}
theorem zbap {t:SetTable} {p:SetTable.Probe} {m:Nat} (h:p.more=m+1):t.advance p={p with j:=p.j+1,more:=m}:=by
 unfold SetTable.advance
 rw[if_pos (by (first|assumption|lia)),h]
 rfl
theorem zbaq {t:SetTable} {p:SetTable.Probe} (h:p.more=0):t.advance p=nextP t.mask p:=by
 unfold SetTable.advance
 rw[if_neg (by (first|assumption|lia))]
 rfl
theorem window {t:SetTable} (g:Tb t) (h:Int):∀(m fuel:Nat) (p:SetTable.Probe),p.more=m→p.dummy=none →
  (∃j,SetTable.probe.go t (fun _=>h+1) h (fuel+m+1) p=some (.empty j none)∧j∉t.place.toList∧j≤p.j+m) ∨
  (p.j∈t.place.toList∧∃p',p'.i=p.i∧p'.perturb=p.perturb∧p'.dummy=none∧SetTable.probe.go t (fun _=>h+1) h (fuel+m+1) p=SetTable.probe.go t (fun _=>h+1) h fuel (nextP t.mask p'))
 | 0,fuel,p,hm,hd=>by
  have e:SetTable.probe.go t (fun _=>h+1) h (fuel+0+1) p=match t.slot p.j with
   | .empty=>some (.empty p.j p.dummy)
   | .dummy=>SetTable.probe.go t (fun _=>h+1) h fuel (t.advance {p with dummy:=some p.j})
   | .live i=>if h+1 == h then some (.candidate p.j i (t.advance p)) else SetTable.probe.go t (fun _=>h+1) h fuel (t.advance p):=rfl
  rw[e]
  rcases g.slot p.j with ⟨s1,s2⟩ | ⟨⟨i,s1⟩,s2⟩
  ·rw[s1,hd]
   exact .inl ⟨p.j,rfl,s2,by (first|assumption|lia)⟩
  ·rw[s1]
   dsimp only
   rw[if_neg (by simp;(first|assumption|lia))]
   exact .inr ⟨s2,p,rfl,rfl,hd,by rw[zbaq hm]⟩
 | m+1,fuel,p,hm,hd=>by
  have e:SetTable.probe.go t (fun _=>h+1) h (fuel+(m+1)+1) p=match t.slot p.j with
   | .empty=>some (.empty p.j p.dummy)
   | .dummy=>SetTable.probe.go t (fun _=>h+1) h (fuel+(m+1)) (t.advance {p with dummy:=some p.j})
   | .live i=>if h+1 == h then some (.candidate p.j i (t.advance p)) else SetTable.probe.go t (fun _=>h+1) h (fuel+(m+1)) (t.advance p):=rfl
  rw[e]
  rcases g.slot p.j with ⟨s1,s2⟩ | ⟨⟨i,s1⟩,s2⟩
  ·rw[s1,hd]
   exact .inl ⟨p.j,rfl,s2,by (first|assumption|lia)⟩
  ·rw[s1]
   dsimp only
   rw[if_neg (by simp;(first|assumption|lia)),zbap hm,← Nat.add_assoc]
   rcases window g h m fuel {p with j:=p.j+1,more:=m} rfl hd with ⟨j,a,b,c⟩ | ⟨a,p',b⟩
   ·exact .inl ⟨j,a,b,by dsimp only at c;(first|assumption|lia)⟩
   ·exact .inr ⟨s2,p',b⟩
theorem zof {mask i:Nat} (h:i≤mask):i≤SetTable.runEnd mask i∧SetTable.runEnd mask i≤mask∧SetTable.runEnd mask i≤i+9:=by
 unfold SetTable.runEnd
 split<;>(first|assumption|lia)
theorem search {t:SetTable} (g:Tb t) (h:Int):∀(L fuel:Nat) (p:SetTable.Probe),10 * L≤fuel→p.j=p.i→p.i≤t.mask→p.more=SetTable.runEnd t.mask p.i - p.i→p.dummy=none→(∃k,k < L∧iAt t.mask k p.i p.perturb∉t.place.toList) →
  ∃j,SetTable.probe.go t (fun _=>h+1) h fuel p=some (.empty j none)∧j∉t.place.toList∧j≤t.mask
 | 0,_,_,_,_,_,_,_,⟨k,hk,_⟩=>absurd hk (by (first|assumption|lia))
 | L+1,fuel,p,hf,hj,hi,hm,hd,⟨k,hk,hk2⟩=>by
  obtain ⟨r1,r2,r3⟩:=zof hi
  have ef:fuel=(fuel - p.more - 1)+p.more+1:=by (first|assumption|lia)
  have w:=window g h p.more (fuel - p.more - 1) p rfl hd
  rw[← ef] at w
  rcases w with ⟨j,a,b,c⟩ | ⟨a,p',b1,b2,b3,b4⟩
  ·exact ⟨j,a,b,by (first|assumption|lia)⟩
  ·rw[b4]
   cases k with
   | zero=>exact absurd a (by rw[hj];exact hk2)
   | succ k =>
    refine search g h L _ (nextP t.mask p') (by (first|assumption|lia)) rfl (by unfold nextP;exact Nat.le_of_lt_succ (Nat.mod_lt _ (by (first|assumption|lia)))) rfl b3 ⟨k,by (first|assumption|lia),?_⟩
    unfold nextP
    dsimp only
    rw[b1,b2]
    exact hk2
/- the leaps meet all places -/
noncomputable def accI (mask:Nat):Nat→Nat→Nat→Nat→Nat
 | 0,acc,_,_=>acc
 | L+1,acc,i,per=>accI mask L (acc ||| 2 ^ i) ((i * 5+1+per / 32) % (mask+1)) (per / 32)
theorem zxr (mask j:Nat):∀(L acc i per:Nat),(accI mask L acc i per).testBit j=true→acc.testBit j=true∨∃k,k < L∧iAt mask k i per=j
 | 0,acc,i,per,h=>.inl h
 | L+1,acc,i,per,h=>by
  rcases zxr mask j L _ _ _ h with h | ⟨k,h1,h2⟩
  ·rw[Nat.testBit_or,Nat.testBit_two_pow,Bool.or_eq_true,decide_eq_true_iff] at h
   rcases h with h | h
   ·exact .inl h
   ·exact .inr ⟨0,by (first|assumption|lia),h⟩
  ·exact .inr ⟨k+1,by (first|assumption|lia),h2⟩
noncomputable def covB (mask h:Nat):Bool:=Nat.beq (accI mask (mask+3) 0 (h % (mask+1)) h) (2 ^ (mask+1) - 1)
theorem cov7:(List.range 64).all (covB 7)=true:=by decide +kernel
theorem cov31:(List.range 64).all (covB 31)=true:=by decide +kernel
theorem cov127:(List.range 64).all (covB 127)=true:=by decide +kernel
noncomputable def MaskOk (m:Nat):Prop:=m=7∨m=31∨m=127
theorem cov {mask h j:Nat} (hm:MaskOk mask) (hh:h < 64) (hj:j≤mask):∃k,k < mask+3∧iAt mask k (h % (mask+1)) h=j:=by
 have c:covB mask h=true:=by
  rcases hm with rfl | rfl | rfl
  ·exact List.all_eq_true.mp cov7 h (List.mem_range.mpr hh)
  ·exact List.all_eq_true.mp cov31 h (List.mem_range.mpr hh)
  ·exact List.all_eq_true.mp cov127 h (List.mem_range.mpr hh)
 have e:=Nat.eq_of_beq_eq_true c
 have t:(accI mask (mask+3) 0 (h % (mask+1)) h).testBit j=true:=by
  rw[e,Nat.testBit_two_pow_sub_one]
  exact decide_eq_true (by (first|assumption|lia))
 rcases zxr mask j _ _ _ _ t with z | z
 ·simp at z
 ·exact z
theorem room {t:SetTable} (g:Tb t) (h:t.place.size≤t.mask):∃j,j≤t.mask∧j∉t.place.toList:=by
 by_cases c:∃j,j≤t.mask∧j∉t.place.toList
 ·exact c
 ·exfalso
  have hs:List.range (t.mask+1) ⊆ t.place.toList:=fun j hj=>by
   by_cases z:j∈t.place.toList
   ·exact z
   ·exact absurd ⟨j,by have:=List.mem_range.mp hj;(first|assumption|lia),z⟩ c
  have:=List.Nodup.length_le_of_subset (List.nodup_range) hs
  simp at this
  (first|assumption|lia)
theorem zvl {t:SetTable} (g:Tb t) (hm:MaskOk t.mask) {h:Nat} (hh:h < 64) (hr:t.place.size≤t.mask):∃j,t.freeSlot (h:Int)=some (j,false)∧j∉t.place.toList∧j≤t.mask:=by
 obtain ⟨j0,a1,a2⟩:=room g hr
 obtain ⟨k,k1,k2⟩:=cov hm hh a1
 have hb:SetTable.bits (h:Int)=h:=by
  unfold SetTable.bits
  (first|assumption|lia)
 have s:=search g (h:Int) (t.mask+3) (10 * SetTable.turns t.mask) (t.probeStart (h:Int)) (by unfold SetTable.turns;(first|assumption|lia)) rfl (by unfold SetTable.probeStart;exact Nat.le_of_lt_succ (Nat.mod_lt _ (by (first|assumption|lia)))) rfl rfl ⟨k,k1,by
  show iAt t.mask k (SetTable.bits (h:Int) % (t.mask+1)) (SetTable.bits (h:Int))∉_
  rw[hb,k2]
  exact a2⟩
 obtain ⟨j,b1,b2,b3⟩:=s
 refine ⟨j,?_,b2,b3⟩
 unfold SetTable.freeSlot SetTable.probe
 rw[b1]
 rfl
end St
end L2
set_option maxHeartbeats 400000
namespace L2
open PySem
namespace St
theorem zda {α:Type} (xs:Array α) (p:Nat) (x:α) (h:p≤xs.size):(SetTable.insertAt xs p x).size=xs.size+1:=by
 have:=congrArg List.length (zej xs p x)
 simp at this
 (first|assumption|lia)
theorem zbcj {t:SetTable} {es:Array (Int × Value)} {h:Nat} {x:Value} (g:Tb t) (hm:MaskOk t.mask) (hh:h < 64) (he:t.place.size=es.size) (hr:t.place.size < t.mask) :
  ∃es' t',layNew t es (h:Int) x=(es',t',false,false)∧Tb t'∧t'.mask=t.mask∧t'.led=t.led∧t'.place.size=es'.size∧es'.size=es.size+1∧es'.toList.Perm (((h:Int),x)::es.toList):=by
 obtain ⟨j,f1,f2,f3⟩:=zvl g hm hh (by (first|assumption|lia))
 have hb:=(zea g.up j).1
 refine ⟨SetTable.insertAt es (SetTable.below t.place j) ((h:Int),x),{t with place:=SetTable.insertAt t.place (SetTable.below t.place j) j},?_,?_,rfl,rfl,?_,?_,?_⟩
 ·have e1:t.put j=({t with place:=SetTable.insertAt t.place (SetTable.below t.place j) j},SetTable.below t.place j):=by
   unfold SetTable.put
   dsimp only
   rw[g.nd,zsj]
   rfl
  have e2:({t with place:=SetTable.insertAt t.place (SetTable.below t.place j) j}:SetTable).fits (SetTable.insertAt es (SetTable.below t.place j) ((h:Int),x)).size=true:=by
   unfold SetTable.fits SetTable.fill
   dsimp only
   rw[zda _ _ _ hb,zda _ _ _ (by (first|assumption|lia)),g.nd,he]
   simp
   (first|assumption|lia)
  unfold layNew
  rw[f1]
  dsimp only
  rw[e1]
  dsimp only
  unfold SetTable.orStandIn
  rw[e2]
  rfl
 ·refine ⟨g.up.insert f2,g.nd,fun y hy=>?_,g.pl⟩
  dsimp only at hy ⊢
  rw[zej] at hy
  rcases List.mem_append.mp hy with hy | hy
  ·exact g.inm y (List.mem_of_mem_take hy)
  ·rcases List.mem_cons.mp hy with rfl | hy
   ·exact f3
   ·exact g.inm y (List.mem_of_mem_drop hy)
 ·dsimp only
  rw[zda _ _ _ hb,zda _ _ _ (by (first|assumption|lia)),he]
 ·rw[zda _ _ _ (by (first|assumption|lia))]
 ·rw[zej]
  refine (List.perm_middle).trans ?_
  rw[List.take_append_drop]
/- laid anew -/
noncomputable def ownL (owner:Array (Option Nat)) (mask:Nat):List Nat:=(List.range (mask+1)).filterMap fun j=>owner.getD j none
structure Ow (mask n:Nat) (owner:Array (Option Nat)):Prop where
 size:owner.size=mask+1
 perm:(ownL owner mask).Perm (List.range n)
theorem zbbw {mask n:Nat} {owner:Array (Option Nat)} (h:Ow mask n owner) (hn:n≤mask):∃j,j≤mask∧owner.getD j (some 0)=none:=by
 by_cases c:∃j,j≤mask∧owner.getD j (some 0)=none
 ·exact c
 ·exfalso
  have all:∀j∈List.range (mask+1),(owner.getD j none).isSome=true:=fun j hj=>by
   have hj:=List.mem_range.mp hj
   have hlt:j < owner.size:=by rw[h.size];exact hj
   cases e:owner.getD j none with
   | some x=>rfl
   | none =>
    refine absurd ⟨j,by (first|assumption|lia),?_⟩ c
    rw[Array.getD_eq_getD_getElem?,Array.getElem?_eq_getElem hlt] at e ⊢
    exact e
  have hl:(ownL owner mask).length=mask+1:=by
   unfold ownL
   have:∀l:List Nat,(∀j∈l,(owner.getD j none).isSome=true)→(l.filterMap fun j=>owner.getD j none).length=l.length:=fun l=>by
    induction l with
    | nil=>intro _;rfl
    | cons a l ih =>
     intro hl
     obtain ⟨x,hx⟩:=Option.isSome_iff_exists.mp (hl a (by simp))
     rw[List.filterMap_cons_some (f:=fun j=>owner.getD j none) hx,List.length_cons,List.length_cons,ih fun j hj=>hl j (List.mem_cons_of_mem _ hj)]
   rw[this _ all,List.length_range]
  have:=h.perm.length_eq
  rw[hl,List.length_range] at this
  (first|assumption|lia)
theorem zxe {mask:Nat} {owner:Array (Option Nat)}:∀(fuel i per:Nat),i≤mask→(∃k,k < fuel∧owner.getD (iAt mask k i per) (some 0)=none)→∃j,SetTable.layClean.free mask owner fuel i per=some j∧j≤mask∧owner.getD j (some 0)=none
 | 0,_,_,_,⟨k,hk,_⟩=>absurd hk (by (first|assumption|lia))
 | fuel+1,i,per,hi,⟨k,hk,hk2⟩=>by
  obtain ⟨r1,r2,r3⟩:=zof hi
  unfold SetTable.layClean.free
  cases e:(List.range (SetTable.runEnd mask i+1 - i)).find? fun k=>(owner.getD (i+k) (some 0)).isNone with
  | some z =>
   have h1:=List.find?_some e
   have h2:=List.mem_range.mp (List.mem_of_find?_eq_some e)
   exact ⟨i+z,rfl,by (first|assumption|lia),by simpa using h1⟩
  | none =>
   dsimp only
   have h0:=List.find?_eq_none.mp e 0 (List.mem_range.mpr (by (first|assumption|lia)))
   cases k with
   | zero =>
    exfalso
    rw[Nat.add_zero] at h0
    have hk2:owner.getD i (some 0)=none:=hk2
    rw[hk2] at h0
    exact h0 rfl
   | succ k =>
    exact zxe fuel _ _ (Nat.le_of_lt_succ (Nat.mod_lt _ (by (first|assumption|lia)))) ⟨k,by (first|assumption|lia),hk2⟩
theorem zkd {α β:Type} {f g:α→Option β}:∀{l:List α},(∀x∈l,f x=g x)→l.filterMap f=l.filterMap g
 | [],_=>rfl
 | a::l,h=>by
  have ih:=zkd (l:=l) fun x hx=>h x (List.mem_cons_of_mem _ hx)
  have h1:=h a (by simp)
  cases e:g a with
  | none=>rw[List.filterMap_cons_none (h1.trans e),List.filterMap_cons_none e,ih]
  | some z=>rw[List.filterMap_cons_some (h1.trans e),List.filterMap_cons_some e,ih]
theorem zgl (owner:Array (Option Nat)) {j n:Nat} (hj:owner.getD j (some 0)=none) (hs:j < owner.size):∀l:List Nat,l.Nodup→j∈l →
  (l.filterMap fun i=>(owner.setIfInBounds j (some n)).getD i none).Perm (n::l.filterMap fun i=>owner.getD i none)
 | [],_,h=>by cases h
 | a::l,nd,h=>by
  have gd:∀i,i≠j→(owner.setIfInBounds j (some n)).getD i none=owner.getD i none:=fun i hi=>by
   rw[Array.getD_eq_getD_getElem?,Array.getD_eq_getD_getElem?,Array.getElem?_setIfInBounds_ne (Ne.symm hi)]
  have gj:(owner.setIfInBounds j (some n)).getD j none=some n:=by
   rw[Array.getD_eq_getD_getElem?,Array.getElem?_setIfInBounds_self_of_lt hs]
   rfl
  have g0:owner.getD j none=none:=by
   rw[Array.getD_eq_getD_getElem?,Array.getElem?_eq_getElem hs] at hj ⊢
   exact hj
  have nd':=List.nodup_cons.mp nd
  by_cases c:a=j
  ·subst c
   rw[List.filterMap_cons_some (f:=fun i=>(owner.setIfInBounds a (some n)).getD i none) gj,List.filterMap_cons_none (f:=fun i=>owner.getD i none) g0]
   have:(l.filterMap fun i=>(owner.setIfInBounds a (some n)).getD i none)=l.filterMap fun i=>owner.getD i none:=zkd fun i hi=>gd i fun e=>nd'.1 (e ▸ hi)
   rw[this]
  ·have hl:j∈l:=by
    rcases List.mem_cons.mp h with h | h
    ·exact absurd h.symm c
    ·exact h
   have ih:=zgl owner (n:=n) hj hs l nd'.2 hl
   cases e:owner.getD a none with
   | none=>rw[List.filterMap_cons_none (f:=fun i=>(owner.setIfInBounds j (some n)).getD i none) (by rw[gd a c];exact e),List.filterMap_cons_none (f:=fun i=>owner.getD i none) e];exact ih
   | some z =>
    rw[List.filterMap_cons_some (f:=fun i=>(owner.setIfInBounds j (some n)).getD i none) (by rw[gd a c];exact e),List.filterMap_cons_some (f:=fun i=>owner.getD i none) e]
    exact (List.Perm.cons z ih).trans (List.Perm.swap n z _)
theorem Ow.step {mask n:Nat} {owner:Array (Option Nat)} (h:Ow mask n owner) (hm:MaskOk mask) {hv:Nat} (hh:hv < 64) (hn:n≤mask) :
  ∃j,SetTable.layClean.free mask owner (SetTable.turns mask) (SetTable.bits (hv:Int) % (mask+1)) (SetTable.bits (hv:Int))=some j∧Ow mask (n+1) (owner.setIfInBounds j (some n)):=by
 have hb:SetTable.bits (hv:Int)=hv:=by
  unfold SetTable.bits
  (first|assumption|lia)
 obtain ⟨j0,a1,a2⟩:=zbbw h hn
 obtain ⟨k,k1,k2⟩:=cov hm hh a1
 rw[hb]
 obtain ⟨j,f1,f2,f3⟩:=zxe (owner:=owner) (mask:=mask) (SetTable.turns mask) (hv % (mask+1)) hv (Nat.le_of_lt_succ (Nat.mod_lt _ (by (first|assumption|lia)))) ⟨k,by unfold SetTable.turns;(first|assumption|lia),by rw[k2];exact a2⟩
 refine ⟨j,f1,⟨by rw[Array.size_setIfInBounds];exact h.size,?_⟩⟩
 have p:=zgl owner (n:=n) f3 (by rw[h.size];(first|assumption|lia)) (List.range (mask+1)) List.nodup_range (List.mem_range.mpr (by (first|assumption|lia)))
 refine p.trans ((List.Perm.cons n h.perm).trans ?_)
 rw[List.range_succ]
 exact (List.perm_append_singleton n _).symm
noncomputable def SmallH (h:Int):Prop:=∃n:Nat,n < 64∧h=n
theorem zsb {mask:Nat} (hm:MaskOk mask):∀(l:List Int) (n:Nat) (owner:Array (Option Nat)),Ow mask n owner→(∀h∈l,SmallH h)→n+l.length≤mask →
  ∃owner',l.foldl (fun acc h=>do
   let (owner,k) ← acc
   let j ← SetTable.layClean.free mask owner (SetTable.turns mask) (SetTable.bits h % (mask+1)) (SetTable.bits h)
   pure (owner.setIfInBounds j (some k),k+1)) (some (owner,n))=some (owner',n+l.length)∧Ow mask (n+l.length) owner'
 | [],n,owner,o,_,_=>⟨owner,rfl,o⟩
 | h::l,n,owner,o,hs,hl=>by
  rw[List.length_cons] at hl ⊢
  obtain ⟨hv,h1,rfl⟩:=hs h (by simp)
  obtain ⟨j,f1,f2⟩:=o.step hm h1 (by (first|assumption|lia))
  obtain ⟨o',g1,g2⟩:=zsb hm l (n+1) _ f2 (fun x hx=>hs x (List.mem_cons_of_mem _ hx)) (by (first|assumption|lia))
  refine ⟨o',?_,by rw[show n+(l.length+1)=n+1+l.length by (first|assumption|lia)];exact g2⟩
  rw[List.foldl_cons]
  have e:(do
   let (owner,k) ← some (owner,n)
   let j ← SetTable.layClean.free mask owner (SetTable.turns mask) (SetTable.bits (hv:Int) % (mask+1)) (SetTable.bits (hv:Int))
   pure (owner.setIfInBounds j (some k),k+1):Option (Array (Option Nat) × Nat))=some (owner.setIfInBounds j (some n),n+1):=by
   show (SetTable.layClean.free mask owner (SetTable.turns mask) (SetTable.bits (hv:Int) % (mask+1)) (SetTable.bits (hv:Int))).bind _=_
   rw[f1]
   rfl
  rw[e,g1,show n+(l.length+1)=n+1+l.length by (first|assumption|lia)]
theorem ow0 (mask:Nat):Ow mask 0 (Array.replicate (mask+1) none):=by
 refine ⟨by simp,?_⟩
 unfold ownL
 have:(List.range (mask+1)).filterMap (fun j=>(Array.replicate (mask+1) (none:Option Nat)).getD j none)=(List.range (mask+1)).filterMap fun _=>(none:Option Nat):=zkd fun j _=>by
  rw[Array.getD_eq_getD_getElem?,Array.getElem?_replicate]
  split<;>rfl
 rw[this]
 have:∀l:List Nat,l.filterMap (fun _=>(none:Option Nat))=[]:=fun l=>by induction l<;>simp_all
 rw[this]
 exact List.Perm.refl _
theorem zvb {mask:Nat} (hm:MaskOk mask) {hs:Array Int} (h:∀x∈hs.toList,SmallH x) (hn:hs.size≤mask):∃owner,SetTable.layClean mask hs=some owner∧Ow mask hs.size owner:=by
 obtain ⟨o,e,w⟩:=zsb hm hs.toList 0 _ (ow0 mask) h (by simpa using hn)
 rw[Nat.zero_add] at e w
 refine ⟨o,?_,by simpa using w⟩
 unfold SetTable.layClean
 rw[← Array.foldl_toList,e]
 rfl
theorem zrx (owner:Array (Option Nat)):∀l:List Nat,(l.filterMap fun j=>(owner.getD j none).map fun k=>(j,k)).map (·.1)=l.filter fun j=>(owner.getD j none).isSome
 | []=>rfl
 | a::l=>by
  have ih:=zrx owner l
  cases e:owner.getD a none with
  | none=>rw[List.filterMap_cons_none (f:=fun j=>(owner.getD j none).map fun k=>(j,k)) (by rw[e];rfl),List.filter_cons_of_neg (by rw[e];decide),ih]
  | some z=>rw[List.filterMap_cons_some (f:=fun j=>(owner.getD j none).map fun k=>(j,k)) (by rw[e];rfl),List.filter_cons_of_pos (by rw[e];rfl),List.map_cons,ih]
theorem zrw (owner:Array (Option Nat)):∀l:List Nat,(l.filterMap fun j=>(owner.getD j none).map fun k=>(j,k)).map (·.2)=l.filterMap fun j=>owner.getD j none
 | []=>rfl
 | a::l=>by
  have ih:=zrw owner l
  cases e:owner.getD a none with
  | none=>rw[List.filterMap_cons_none (f:=fun j=>(owner.getD j none).map fun k=>(j,k)) (by rw[e];rfl),List.filterMap_cons_none (f:=fun j=>owner.getD j none) e,ih]
  | some z=>rw[List.filterMap_cons_some (f:=fun j=>(owner.getD j none).map fun k=>(j,k)) (by rw[e];rfl),List.filterMap_cons_some (f:=fun j=>owner.getD j none) e,List.map_cons,ih]
theorem zuc {α:Type} (es:List α):(List.range es.length).filterMap (fun i=>es[i]?)=es:=by
 induction es with
 | nil=>rfl
 | cons a l ih =>
  rw[List.length_cons,List.range_succ_eq_map,List.filterMap_cons_some (f:=fun i=>(a::l)[i]?) rfl,List.filterMap_map]
  congr 1
theorem relay {t:SetTable} {es:Array (Int × Value)} {wanted:Nat} (g:Tb t) (hh:∀e∈es.toList,SmallH e.1) (hm:MaskOk (SetTable.sizeAbove wanted - 1)) (hn:es.size≤SetTable.sizeAbove wanted - 1) :
  ∃es' t',relayAll t es wanted=(es',t',false)∧Tb t'∧t'.mask=SetTable.sizeAbove wanted - 1∧t'.led=t.led∧t'.place.size=es'.size∧es'.size=es.size∧es'.toList.Perm es.toList:=by
 obtain ⟨owner,e1,w⟩:=zvb hm (hs:=es.map (·.1)) (fun x hx=>by
  rw[Array.toList_map] at hx
  obtain ⟨e,he,rfl⟩:=List.mem_map.mp hx
  exact hh e he) (by simpa using hn)
 rw[Array.size_map] at w
 generalize hmk:SetTable.sizeAbove wanted - 1=mask at e1 w hm hn
 let live:=(List.range (mask+1)).filterMap fun j=>(owner.getD j none).map fun k=>(j,k)
 have l1:live.map (·.1)=(List.range (mask+1)).filter fun j=>(owner.getD j none).isSome:=zrx owner _
 have l2:live.map (·.2)=ownL owner mask:=zrw owner _
 have hp:=w.perm
 rw[← l2] at hp
 have hperm:((live.map (·.2)).filterMap fun i=>es[i]?).Perm es.toList:=by
  refine (hp.filterMap _).trans ?_
  have:=zuc es.toList
  rw[Array.length_toList] at this
  rw[show (List.range es.size).filterMap (fun i=>es[i]?)=es.toList from (zkd fun i _=>(Array.getElem?_toList (xs:=es)).symm).trans this]
 have hlen:((live.map (·.2)).filterMap fun i=>es[i]?).length=es.size:=by rw[hperm.length_eq,Array.length_toList]
 have hll:live.length=es.size:=by
  have:=hp.length_eq
  rw[List.length_map,List.length_range] at this
  exact this
 have er:t.relaid (es.map (·.1)) wanted=some ({mask,place:=(live.map (·.1)).toArray,dummies:=#[],finger:=t.finger,led:=t.led,moves:=t.movedTo mask,plain:=t.plain},(live.map (·.2)).toArray):=by
  unfold SetTable.relaid SetTable.laid
  rw[hmk,e1]
  rfl
 refine ⟨((live.map (·.2)).filterMap fun i=>es[i]?).toArray,{mask,place:=(live.map (·.1)).toArray,dummies:=#[],finger:=t.finger,led:=t.led,moves:=t.movedTo mask,plain:=t.plain},?_,⟨?_,rfl,fun y hy=>?_,g.pl⟩,rfl,rfl,?_,?_,?_⟩
 ·unfold relayAll
  rw[er]
  dsimp only
  have c1:coversAll (live.map (·.2)).toArray es.size=true:=by
   unfold coversAll
   exact List.isPerm_iff.mpr hp
  have c2:(live.map (·.2)).toArray.filterMap (fun x=>es[x]?)=((live.map (·.2)).filterMap fun i=>es[i]?).toArray:=by simp
  rw[c2,c1]
  have c3:({mask,place:=(live.map (·.1)).toArray,dummies:=#[],finger:=t.finger,led:=t.led,moves:=t.movedTo mask,plain:=t.plain}:SetTable).fits ((live.map (·.2)).filterMap fun i=>es[i]?).toArray.size=true:=by
   unfold SetTable.fits SetTable.fill
   dsimp only
   rw[List.size_toArray,List.size_toArray,hlen,List.length_map,hll]
   simp
   (first|assumption|lia)
  rw[c3]
  rfl
 ·show (live.map (·.1)).toArray.toList.Pairwise lt
  rw[List.toList_toArray,l1]
  exact List.Pairwise.sublist List.filter_sublist List.pairwise_lt_range
 ·dsimp only at hy ⊢
  rw[l1] at hy
  have:=List.mem_range.mp (List.mem_filter.mp hy).1
  (first|assumption|lia)
 ·dsimp only
  rw[List.size_toArray,List.size_toArray,hlen,List.length_map,hll]
 ·rw[List.size_toArray,hlen]
 ·rw[List.toList_toArray]
  exact hperm
end St
end L2
set_option maxHeartbeats 400000
namespace L2
open PySem
namespace St
theorem zyt {α:Type} {l:List α} {i:Nat} (h:i < l.length):(l[i]::l.eraseIdx i).Perm l:=by
 rw[List.eraseIdx_eq_take_drop_succ]
 refine List.perm_middle.symm.trans ?_
 rw[← List.drop_eq_getElem_cons h,List.take_append_drop]
theorem zwn {α:Type} (next:Nat→Nat):∀(fuel k:Nat) (left:List α) (out:Array α),left.length≤fuel→(pickOrder.go next fuel k left out).toList.Perm (out.toList++left)
 | 0,k,left,out,h=>by
  have:left=[]:=List.length_eq_zero_iff.mp (by (first|assumption|lia))
  subst this
  unfold pickOrder.go
  rw[List.append_nil]
 | fuel+1,k,left,out,h=>by
  unfold pickOrder.go
  cases e:left[next k % left.length]? with
  | none =>
   have:left=[]:=by
    cases left with
    | nil=>rfl
    | cons a l =>
     have:=List.getElem?_eq_none_iff.mp e
     have:=Nat.mod_lt (next k) (show (a::l).length > 0 by simp)
     (first|assumption|lia)
   subst this
   dsimp only
   rw[List.append_nil]
  | some x =>
   dsimp only
   obtain ⟨hi,rfl⟩:=List.getElem?_eq_some_iff.mp e
   have ih:=zwn next fuel (k+1) (left.eraseIdx (next k % left.length)) (out.push left[next k % left.length]) (by rw[List.length_eraseIdx_of_lt hi];(first|assumption|lia))
   refine ih.trans ?_
   rw[Array.toList_push,List.append_assoc]
   exact List.Perm.append_left _ (zyt hi)
theorem zuj {α:Type} (next:Nat→Nat) (xs:Array α):(pickOrder next xs).toList.Perm xs.toList:=by
 unfold pickOrder
 exact zwn next xs.size 0 xs.toList #[] (by simp)
theorem zte {xs:Array Nat} (h:Up xs) {i:Nat} (hi:i < xs.size):SetTable.below xs (xs.getD i 0+1)=i+1:=by
 obtain ⟨h1,h2,h3⟩:=zea h (xs.getD i 0+1)
 have up:∀a b,a < b→b < xs.size→xs.getD a 0 < xs.getD b 0:=fun a b hab hb=>by
  have hb':b < xs.toList.length:=by simpa using hb
  have ha':a < xs.toList.length:=by (first|assumption|lia)
  rw[zek,zek,List.getD_eq_getElem?_getD,List.getD_eq_getElem?_getD,List.getElem?_eq_getElem ha',List.getElem?_eq_getElem hb']
  exact List.pairwise_iff_getElem.mp h a b ha' hb' hab
 have dflt:∀a d,a < xs.size→xs.getD a d=xs.getD a 0:=fun a d ha=>by
  rw[Array.getD_eq_getD_getElem?,Array.getD_eq_getD_getElem?,Array.getElem?_eq_getElem ha]
  rfl
 generalize SetTable.below xs (xs.getD i 0+1)=b at h1 h2 h3
 rcases Nat.lt_trichotomy b (i+1) with c | c | c
 ·have:=h3 i (by (first|assumption|lia)) hi
  have e:=dflt i (xs.getD i 0+1) hi
  (first|assumption|lia)
 ·exact c
 ·have:=h2 (i+1) c
  have hlt:i+1 < xs.size:=by (first|assumption|lia)
  have e:=dflt (i+1) (xs.getD i 0+1) hlt
  have:=up i (i+1) (by (first|assumption|lia)) hlt
  (first|assumption|lia)
theorem ztd {xs:Array Nat} (h:Up xs):SetTable.below xs 0=0:=by
 obtain ⟨h1,h2,h3⟩:=zea h 0
 rcases Nat.eq_zero_or_pos (SetTable.below xs 0) with c | c
 ·exact c
 ·exact absurd (h2 0 c) (by (first|assumption|lia))
end St
end L2
set_option maxHeartbeats 1000000
namespace L2
open PySem PySem.W PyProof.Rows PySem.Spec
namespace St
structure Es (l:List (Int × Value)) (ks:List Nat):Prop where
 all:∀e∈l,∃(n:Nat) (t:Tok),n < 64∧e=((n:Int),Value.int (n:Int) t)
 perm:(l.map (·.1)).Perm (ks.map fun (n:Nat)=>(n:Int))
 nd:ks.Nodup
theorem Es.small {l:List (Int × Value)} {ks:List Nat} (h:Es l ks):∀k∈ks,k < 64:=fun k hk=>by
 have h1:(k:Int)∈l.map (·.1):=h.perm.mem_iff.mpr (List.mem_map.mpr ⟨k,hk,rfl⟩)
 obtain ⟨e,he,e1⟩:=List.mem_map.mp h1
 obtain ⟨n,t,hn,rfl⟩:=h.all e he
 dsimp only at e1
 (first|assumption|lia)
theorem Es.len {l:List (Int × Value)} {ks:List Nat} (h:Es l ks):l.length=ks.length:=by
 have:=h.perm.length_eq
 simpa using this
theorem Es.few {l:List (Int × Value)} {ks:List Nat} (h:Es l ks):l.length≤64:=by
 rw[h.len]
 have:=List.Nodup.length_le_of_subset h.nd (l₂:=List.range 64) fun k hk=>List.mem_range.mpr (h.small k hk)
 simpa using this
theorem Es.of_perm {l l':List (Int × Value)} {ks:List Nat} (h:Es l ks) (p:l'.Perm l):Es l' ks :=
 ⟨fun e he=>h.all e (p.mem_iff.mp he),(p.map _).trans h.perm,h.nd⟩
theorem Es.add {l:List (Int × Value)} {ks:List Nat} (h:Es l ks) {n:Nat} {t:Tok} (hn:n < 64) (no:n∉ks):Es (((n:Int),Value.int (n:Int) t)::l) (n::ks) :=
 ⟨fun e he=>by
  rcases List.mem_cons.mp he with rfl | he
  ·exact ⟨n,t,hn,rfl⟩
  ·exact h.all e he,h.perm.cons _,List.nodup_cons.mpr ⟨no,h.nd⟩⟩
theorem zlw {n:Nat} (h:n < 64):hashInt (n:Int)=n:=by
 have e:rawHash (n:Int)=n:=by
  unfold rawHash
  have h1:(((n:Int).natAbs:Int) % ((2 ^ 61 - 1:Nat):Int))=n:=by
   rw[Int.natAbs_natCast]
   exact Int.emod_eq_of_lt (by (first|assumption|lia)) (by (first|assumption|lia))
  rw[h1]
  dsimp only
  have h2:¬ ((n:Int) < 0):=by (first|assumption|lia)
  rw[if_neg h2]
  have h3:((n:Int) == -1)=false:=by
   rw[beq_eq_false_iff_ne]
   (first|assumption|lia)
  rw[h3]
  rfl
 unfold hashInt
 rw[e]
 have h3:((n:Int) == -1)=false:=by
  rw[beq_eq_false_iff_ne]
  (first|assumption|lia)
 rw[h3]
 rfl
structure Tt (w:World) (es:Array (Int × Value)) (t:SetTable) (ks:List Nat):Prop where
 tb:Tb t
 mo:MaskOk t.mask
 ld : t.led = !w.params.followText "set-order"
 sz:t.place.size=es.size
 room:t.place.size * 5 < t.mask * 3
 el:Es es.toList ks
theorem Tt.fits {w:World} {es:Array (Int × Value)} {t:SetTable} {ks:List Nat} (h:Tt w es t ks):t.fits es.size=true:=by
 have:=h.room
 have hz:=h.sz
 unfold SetTable.fits SetTable.fill
 rw[h.tb.nd]
 simp
 (first|assumption|lia)
theorem Tt.few {w:World} {es:Array (Int × Value)} {t:SetTable} {ks:List Nat} (h:Tt w es t ks):es.size≤64:=by
 have:=h.el.few
 simpa using this
theorem Tt.elems {P:Program} {w:World} {es:Array (Int × Value)} {t:SetTable} {ks:List Nat} (h:Tt w es t ks):ElemsOf (intKind P w) es.toList:=fun e he=>by
 obtain ⟨m,t,hm,rfl⟩:=h.el.all e he
 exact ⟨⟨(m:Int),intKind_is _ _ _ _,(zlw hm).symm⟩,rfl⟩
noncomputable def Sn (w:World) (h:Heap) (a:Addr) (ks:List Nat):Prop:=∃ob es ep t,h.get? a=some ob∧ob.ExactSet∧ob.data=.set es ep t∧Tt w es t ks
theorem Sn.kept {w:World} {h h':Heap} {a:Addr} {ks:List Nat} (x:Sn w h a ks) (k:∀o,h.get? a=some o→h'.get? a=some o):Sn w h' a ks :=
 let ⟨ob,es,ep,t,e,r⟩:=x;⟨ob,es,ep,t,k _ e,r⟩
theorem zbcq {t:SetTable} {m:Nat} (nd:t.dummies=#[]) (mk:MaskOk t.mask) (hm:t.place.size=m+1) (room:m * 5 < t.mask * 3) (few:m+1≤64) :
  (t.tooFull=false∧(m+1) * 5 < t.mask * 3)∨(t.tooFull=true∧MaskOk (SetTable.sizeAbove (SetTable.grown (m+1)) - 1)∧m+1≤SetTable.sizeAbove (SetTable.grown (m+1)) - 1∧(m+1) * 5 < (SetTable.sizeAbove (SetTable.grown (m+1)) - 1) * 3):=by
 have hf:t.fill=m+1:=by
  unfold SetTable.fill
  rw[nd,hm]
  rfl
 rcases mk with e | e | e
 ·by_cases c:m=4
  ·subst c
   right
   refine ⟨by unfold SetTable.tooFull;rw[hf,e];decide,?_,by decide,by decide⟩
   exact .inr (.inl (by decide))
  ·left
   refine ⟨?_,by (first|assumption|lia)⟩
   unfold SetTable.tooFull
   rw[hf,e]
   simp
   (first|assumption|lia)
 ·by_cases c:m=18
  ·subst c
   right
   refine ⟨by unfold SetTable.tooFull;rw[hf,e];decide,?_,by decide,by decide⟩
   exact .inr (.inr (by decide))
  ·left
   refine ⟨?_,by (first|assumption|lia)⟩
   unfold SetTable.tooFull
   rw[hf,e]
   simp
   (first|assumption|lia)
 ·left
  refine ⟨?_,by (first|assumption|lia)⟩
  unfold SetTable.tooFull
  rw[hf,e]
  simp
  (first|assumption|lia)
theorem put_at {h:Heap} {a:Addr} {o:Obj} {es:Array (Int × Value)} {ep:Nat} {t:SetTable} (ho:h.get? a=some o) (hd:o.data=.set es ep t) (es':Array (Int × Value)) (t':SetTable) :
  (h.update a (Obj.putSet es' t')).get? a=some {o with data:=.set es' (ep+1) t'}:=by
 have e:=putSet_of es' t' hd
 have g:=Heap.get?_update_self (Obj.putSet es' t') ho (by rw[e];rfl)
 rwa [e] at g
section
variable {P:Program} {w:World} {B:Around} {E:Value→Shared→Prop} {s:Shared} {a:Addr}
theorem add_at {ks:List Nat} {n:Nat} {tok:Tok} {Q:Bool→Shared→Prop} (hn:n < 64) (S:Sn w s.heap a ks)
  (fin:∀h' b,Heap.SameBut a s.heap h'→Sn w h' a (if n∈ks then ks else n::ks)→Q b {s with heap:=h'}) :
  wpAny (model P w) B (setAddHashed a (.int (n:Int) tok) (hashInt (n:Int))) Q E s:=by
 obtain ⟨ob,es,ep,t,ho,hex,hd,T⟩:=id S
 have few:=T.few
 have hb:es.size < scanBound:=by unfold scanBound;(first|assumption|lia)
 unfold setAddHashed setAddHashedIn
 refine wpAny_holding (wpAny_bind (wpAny_setState_of ho hd T.fits ?_))
 dsimp only
 rw[byScan_of (knd:=intKind P w) (x:=.int (n:Int) tok) rfl hb T.elems,if_pos rfl]
 unfold setAddByScan
 refine wpAny_bind (wpAny_bind (wpAny_rule (wpAny_bind (wpAny_setScan_of (knd:=intKind P w) (k:=(n:Int)) (intKind_is _ _ _ _) ho hd T.fits T.elems ?_))))
 cases hr:List.findIdx? (fun e=>(intKind P w).is (n:Int) e.2) es.toList with
 | some j =>
  dsimp only
  obtain ⟨hj,hp,_⟩:=List.findIdx?_eq_some_iff_getElem.mp hr
  obtain ⟨m,t2,hm,e⟩:=T.el.all _ (List.getElem_mem hj)
  rw[e] at hp
  have emn:(n:Int)=(m:Int):=(intKind P w).inj _ _ _ hp (intKind_is P w (m:Int) t2)
  have h1:(n:Int)∈es.toList.map (·.1):=List.mem_map.mpr ⟨_,List.getElem_mem hj,by rw[e];exact emn.symm⟩
  obtain ⟨k,hk,ek⟩:=List.mem_map.mp (T.el.perm.mem_iff.mp h1)
  have hin:n∈ks:=by
   have:k=n:=by (first|assumption|lia)
   exact this ▸ hk
  have f:=fin s.heap false (Heap.SameBut.refl a s.heap)
  rw[if_pos hin] at f
  exact wpAny_pure (wpAny_pure (f S))
 | none =>
  dsimp only
  have no:n∉ks:=fun hk=>by
   have h1:(n:Int)∈es.toList.map (·.1):=T.el.perm.mem_iff.mpr (List.mem_map.mpr ⟨n,hk,rfl⟩)
   obtain ⟨e,he,e1⟩:=List.mem_map.mp h1
   obtain ⟨m,t2,hm,rfl⟩:=T.el.all e he
   have z:=List.findIdx?_eq_none_iff.mp hr _ he
   dsimp only at e1 z
   rw[e1,intKind_is] at z
   cases z
  rw[zlw hn]
  obtain ⟨es1,t1,e1,tb1,mk1,ld1,sz1,ln1,pm1⟩:=zbcj (x:=Value.int (n:Int) tok) T.tb T.mo hn T.sz (by have:=T.room;(first|assumption|lia))
  have el1:Es es1.toList (n::ks):=(T.el.add (t:=tok) hn no).of_perm pm1
  rw[e1]
  dsimp only
  refine wpAny_bind (wpAny_pure ?_)
  rw[tb1.pl,if_pos rfl,hashByValue_scannable 8 (x:=Value.int (n:Int) tok) rfl]
  refine wpAny_bind (wpAny_pure ?_)
  rw[show plainKind (Value.int (n:Int) tok)=true from rfl,if_pos rfl]
  have few1:es1.size≤64:=by have:=el1.few;simpa using this
  refine wpAny_bind (wpAny_storeSet_of ho hd ?_ (by rw[sizeLine_eq];(first|assumption|lia)))
  have g1:=put_at ho hd es1 t1
  have sb1:=Heap.SameBut.update s.heap a (Obj.putSet es1 t1)
  have f:=fun h' b=>fin h' b
  rw[if_neg no] at f
  rcases zbcq (t:=t1) (m:=es.size) tb1.nd (by rw[mk1];exact T.mo) (by (first|assumption|lia)) (by have:=T.room;have:=T.sz;rw[mk1];(first|assumption|lia)) (by (first|assumption|lia)) with ⟨c1,c2⟩ | ⟨c1,c2,c3,c4⟩
  ·rw[c1]
   refine wpAny_pure (wpAny_pure (f _ _ sb1 ⟨_,es1,ep+1,t1,g1,hex,rfl,tb1,by rw[mk1];exact T.mo,ld1.trans T.ld,sz1,?_,el1⟩))
   (first|assumption|lia)
  ·rw[c1]
   obtain ⟨es2,t2,e2,tb2,mk2,ld2,sz2,ln2,pm2⟩:=relay (wanted:=SetTable.grown es1.size) tb1 (fun e he=>by
    obtain ⟨m,tt,hm,rfl⟩:=el1.all e he
    exact ⟨m,hm,rfl⟩) (by rw[ln1];exact c2) (by rw[ln1];exact c3)
   rw[e2]
   refine wpAny_bind (wpAny_pure ?_)
   refine wpAny_bind (wpAny_storeSet_of g1 rfl ?_ (by show es2.size≤_;rw[sizeLine_eq];(first|assumption|lia)))
   refine wpAny_pure (wpAny_pure (f _ _ (sb1.trans (Heap.SameBut.update _ a _)) ⟨_,es2,ep+1+1,t2,put_at g1 rfl es2 t2,hex,rfl,tb2,by rw[mk2,ln1];exact c2,ld2.trans (ld1.trans T.ld),sz2,?_,el1.of_perm pm2⟩))
   rw[mk2,ln1]
   (first|assumption|lia)
end
end St
end L2
set_option maxHeartbeats 4000000
namespace L2
open PySem PySem.W PyProof.Rows PySem.Spec
namespace St
noncomputable def met:List Nat→List Nat→List Nat
 | [],ks=>ks
 | n::l,ks=>met l (if n∈ks then ks else n::ks)
theorem zlr : entryFor table "set.update.loop" = some Builtin.«set.update.loop» := entryFor_of_tree (by kernel_rfl)
theorem zhp : plainId "set.update.loop" = true := by decide +kernel
section
variable {P:Program} {w:World} {B:Around} {R:Result→Shared→Prop} {it:Addr} {fp wr:List Addr} {G:Array GenState→Array GenState→Prop} {N:Nat} {It:Nat→Value→Prop} {St:Nat→Shared→Prop}
theorem zwv (W:WalksS P w B.in1 it fp wr G N It St) (a:Addr) (na:a∉fp) (ns:List Nat) (hN:ns.length=N) (small:∀n∈ns,n < 64)
  (val:∀i v,It i v→∃t,v=Value.int ((ns.getD i 0:Nat):Int) t):∀(r:List Nat) (i:Nat) (ks:List Nat) (s:Shared),ns.drop i=r→i≤N→St i s→Sn w s.heap a ks →
   (∀ s', Moved (a :: wr) G s s' → Sn w s'.heap a (met r ks) → R (.ok (.ret .none)) s') → codeAny (model P w) B (.builtin "set.update.loop" ⟨[.ref a, .ref it], []⟩) R s
 | [],i,ks,s,hr,hi,st,S,fin=>by
  have e:i=N:=by
   have:=congrArg List.length hr
   simp at this
   (first|assumption|lia)
  subst e
  refine codeAny_builtin zlr ?_
  rw[Around.under_plainId zhp _]
  refine wpAny_bind (m:=pyNext (.ref it)) (W.done s _ _ st fun s' mv=>?_)
  have aw:a∉wr:=fun z=>na (W.sub _ z)
  exact wpAny_pure (fin s' (mv.mono fun b hb=>List.mem_cons_of_mem _ hb) (S.kept fun o e=>mv.heap a o aw e))
 | n::r,i,ks,s,hr,hi,st,S,fin=>by
  have hlt:i < N:=by
   have:=congrArg List.length hr
   simp at this
   (first|assumption|lia)
  have hg:ns.getD i 0=n∧n∈ns∧ns.drop (i+1)=r:=by
   have h1:ns[i]?=some n:=by
    have:=congrArg (fun l:List Nat=>l[0]?) hr
    simpa using this
   refine ⟨by rw[List.getD_eq_getElem?_getD,h1];rfl,List.mem_of_getElem? h1,?_⟩
   rw[← List.drop_drop,hr]
   rfl
  have aw:a∉wr:=fun z=>na (W.sub _ z)
  refine codeAny_builtin zlr ?_
  rw[Around.under_plainId zhp _]
  refine wpAny_bind (m:=pyNext (.ref it)) (W.item i s _ _ hlt st fun v s' pv st' mv=>?_)
  obtain ⟨t,rfl⟩:=val i v pv
  rw[hg.1]
  refine wpAny_bind (m:=holding [Value.int (n:Int) t] (setAdd a (.int (n:Int) t))) (wpAny_holding ?_)
  unfold setAdd
  refine wpAny_holding (wpAny_bind (wpAny_pyHash_int ?_))
  refine add_at (s:={s' with toks:=s'.toks+1}) (small n hg.2.1) (S.kept fun o e=>mv.heap a o aw e) fun h' b sb S'=>?_
  refine wpAny_pure ⟨plainId_quiet zhp _,zwv W a na ns hN small val r (i+1) _ _ hg.2.2 hlt (W.frame _ s' _ _ st' (Nat.le_succ _) fun b hb o e=>?_) S' fun s2 mv2 S2=>?_⟩
  ·rw[sb.2 b (fun z:b=a=>na (z ▸ hb))]
   exact e
  ·refine fin s2 (Moved.trans W.gtrans ((mv.mono fun b hb=>List.mem_cons_of_mem _ hb).then_heap (Nat.le_succ _) fun b o hb e=>?_) mv2) S2
   rw[sb.2 b (fun z:b=a=>hb (z ▸ List.mem_cons_self))]
   exact e
end
section
variable {P:Program} {w:World} {B:Around} {E:Value→Shared→Prop} {s:Shared}
noncomputable def newO (w : World) : Obj := { cls := .type "set", dict := none, data := .set #[] 0 (.fresh 0 0 (!w.params.followText "set-order")) }
theorem new_at (x:Value) {W:Value→Shared→Prop} (fin:W (.ref s.heap.objs.size) {s with heap:=s.heap.push (newO w)}) :
  codeAny (model P w) B (.call (.builtin "set.__new__") ⟨[.type "set", x], []⟩) (wants W E) s := by
 refine codeAny_call_builtin_code (plainId_quiet F.plain_set_new _) (wpAny_of_eq (F.newCall_set_1 x) (codeAny_builtin F.entry_set_new ?_))
 rw[Around.under_plainId F.plain_set_new _]
 have sub:=sub_set_self
 unfold Builtin.«set.__new__» Builtin.Frozenset.newClass
 obtain ⟨hp,g,d,tk,os⟩:=s
 wp_walk
 refine wpAny_askSetting (wpAny_pure ?_)
 simp only[newObj]
 exact wpAny_bind (wpAny_alloc (wpAny_pure (wpAny_pure fin)))
theorem new_sn {w:World} {h:Heap} {a:Addr} (e:h.get? a=some (newO w)):Sn w h a [] :=
 ⟨_,#[],0,_,e,⟨rfl,rfl,rfl⟩,rfl,⟨List.Pairwise.nil,rfl,fun y hy=>(by cases hy),rfl⟩,.inl rfl,rfl,rfl,(by show 0 * 5 < 7 * 3;decide),⟨fun e he=>(by cases he),List.Perm.refl _,List.nodup_nil⟩⟩
theorem zbds {l:Addr} {its:List Value} {ns:List Nat} {W:Value→Shared→Prop} (hh:B.handled=none) (isl:s.heap.IsList l its.toArray) (iv:IntsAre its (ns.map fun (n:Nat)=>(n:Int))) (small:∀n∈ns,n < 64)
  (fin:∀(h':Heap) (tk:Nat),Sn w h' s.heap.objs.size (met ns [])→(∀b o,s.heap.get? b=some o→h'.get? b=some o)→W (.ref s.heap.objs.size) {s with heap:=h',toks:=tk}) :
  wpAny (model P w) B (call (.type "set") [.ref l]) W E s := by
 have len:its.length=ns.length:=by simpa using iv.length
 obtain ⟨c,tl,hmro⟩:=F.called_set.mro
 have hmade:=F.called_set.made
 have hsub:=F.called_set.sub
 have h1:=F.called_set.notType
 have h2:=F.called_set.canCreate
 have hct:=F.typeCall_set_1 (.ref l)
 refine wpAny_call (codeAny_of_tree (show wpAny _ _ (callAny (.type "set") _) _ _ _ from wpAny_pure ⟨Code.quiet_builtin _ (by decide +kernel), codeAny_builtin F.entry_type_call ?_⟩))
 rw [Around.under_plain (weight_type_call_type "set" [.ref l] []) rfl]
 repeat (any_goals (first | assumption | wp_step))
 refine codeAny_mono (new_at (w:=w) (.ref l) (E:=E) (W:=fun v s1=>v=.ref s.heap.objs.size∧s1={s with heap:=s.heap.push (newO w)}) ⟨rfl,rfl⟩) fun r s1 hr=>?_
 match r,hr with
 | .error e,hr=>exact hr
 | .ok (.ret v),hr =>
  obtain ⟨rfl,rfl⟩:=hr
  have en:(s.heap.push (newO w)).get? s.heap.objs.size=some (newO w):=Heap.get?_push_size _ rfl
  have ty : Shared.TypeIs { s with heap := s.heap.push (newO w) } (.ref s.heap.objs.size) "set" := ⟨_, en, rfl⟩
  have hli:=F.called_set.init.lookup
  have hbi:=F.called_set.init.bind (.ref s.heap.objs.size)
  repeat (any_goals (first | assumption | wp_step))
  refine codeAny_mono (codeAny_call_builtin (R:=wants (fun v s2=>v=.none∧∃h' tk,s2={s with heap:=h',toks:=tk}∧Sn w h' s.heap.objs.size (met ns [])∧∀b o,s.heap.get? b=some o→h'.get? b=some o) E) F.called_set.init.plain F.entry_set_init (check_set_init_1 ty ?body)) fun r2 s2 hr2=>?_
  case body =>
   obtain ⟨ol,hol,hcl,nl,hdl⟩:=id isl
   obtain ⟨oc,od,odt,osl⟩:=ol
   simp only at hcl hdl
   subst hcl hdl
   have hol' : (s.heap.push (newO w)).get? l = some { cls := .type "list", dict := od, data := .seq its.toArray nl, slots := osl } := Heap.get?_push_of_some _ hol
   have isl':(s.heap.push (newO w)).IsList l its.toArray:=⟨_,hol',rfl,nl,rfl⟩
   have ns1:=F.sub_list_set
   have ns2:=F.sub_list_frozenset
   have ne : (Value.type "list" == Value.type "dict") = false := by decide
   unfold Builtin.«set.__init__» noKeywords Builtin.Frozenset.updateFrom
   generalize hPI:pyIter=PI
   wp_walk
   subst hPI
   have ls:l < s.heap.objs.size:=Heap.lt_size hol
   have z1:(s.heap.push (newO w)).objs.size=s.heap.objs.size+1:=Heap.size_push ..
   refine wpAny_pyIter_list isl' (wpAny_bind (wpAny_runValue ?_))
   refine zwv ((Walks.list (by simp[hh]) _ l (Nat.ne_of_lt (by rw[z1];exact Nat.lt_succ_of_lt ls)) its.toArray).toS) s.heap.objs.size (fun z=>by
    rw[z1] at z
    rcases List.mem_cons.mp z with z | z
    ·exact Nat.ne_of_lt (Nat.lt_succ_self _) z
    ·exact Nat.ne_of_gt ls (List.mem_singleton.mp z)) ns (by simp[len]) small (fun i v hv=>?_) ns 0 [] _ rfl (Nat.zero_le _) ⟨⟨_,Heap.get?_push_size _ rfl,rfl,rfl⟩,isl'.push _⟩ (new_sn (Heap.get?_push_of_some _ en)) fun s2 mv S2=>?_
   ·obtain ⟨t,e⟩:=IntsAre.int_at iv i v (by simpa using hv)
    refine ⟨t,e.trans ?_⟩
    congr 1
    rw[List.getD_eq_getElem?_getD,List.getElem?_map,List.getD_eq_getElem?_getD]
    cases ns[i]?<;>rfl
   ·rw[Moved.eq_with mv]
    refine wpAny_pure (wpAny_pure ⟨rfl,s2.heap,s2.toks,rfl,S2,fun b o e=>?_⟩)
    have lt:=Heap.lt_size e
    exact mv.heap b o (fun z=>by
     rw[z1] at z
     rcases List.mem_cons.mp z with z | z
     ·exact Nat.ne_of_lt lt z
     ·exact Nat.ne_of_lt (Nat.lt_succ_of_lt lt) (List.mem_singleton.mp z)) (Heap.get?_push_of_some _ (Heap.get?_push_of_some _ e))
  match r2,hr2 with
  | .error e,hr2=>exact hr2
  | .ok (.ret v),hr2 =>
   obtain ⟨rfl,h',tk,rfl,S',keep⟩:=hr2
   repeat (any_goals (first | assumption | wp_step))
   exact fin _ _ S' keep
end
end St
end L2
set_option maxHeartbeats 4000000
namespace L2
open PySem PySem.W PyProof.Rows PySem.Spec
namespace St
theorem own_it : Manifest.owners.lookup (String.ofList ("rotareti_tes".toList).reverse) = some Manifest.sig_set_iterator := by kernel_rfl
theorem ziq : Slot "set_iterator" "__next__" "set_iterator.__next__" := by
 refine Slot.of (owner := "set_iterator") (n := "__next__") ?_ (by decide +kernel) (by decide +kernel) (by decide +kernel) ?_ ?_
 ·rw[typeLookup_type,builtinLookup_eq_fast]
  kernel_rfl
 ·first
   | exact .inl (by decide +kernel)
   | exact .inr (by decide +kernel)
 ·rw[isSubtype_type]
  kernel_rfl
theorem zrk : entryFor table "set_iterator.__next__" = some Builtin.«set_iterator.__next__» := entryFor_of_tree (by kernel_rfl)
theorem zws (a : Value) : argsOk "set_iterator.__next__" ⟨[a], []⟩ := by
 unfold argsOk
 rw [signature?_of (id := "set_iterator.__next__") (n := "__txen__".toList) (o := "rotareti_tes".toList) (by kernel_rfl) own_it]
 kernel_rfl
theorem zwi : Slot "set_iterator" "__iter__" "set_iterator.__iter__" := by
 refine Slot.of (owner := "set_iterator") (n := "__iter__") ?_ (by decide +kernel) (by decide +kernel) (by decide +kernel) ?_ ?_
 ·rw[typeLookup_type,builtinLookup_eq_fast]
  kernel_rfl
 ·first
   | exact .inl (by decide +kernel)
   | exact .inr (by decide +kernel)
 ·rw[isSubtype_type]
  kernel_rfl
theorem zyb : entryFor table "set_iterator.__iter__" = some Builtin.«dict_keyiterator.__iter__» :=
 entryFor_alias (id' := "dict_keyiterator.__iter__") (by kernel_rfl) rfl (by decide +kernel) (by kernel_rfl)
theorem zbba (a : Value) : argsOk "set_iterator.__iter__" ⟨[a], []⟩ := by
 unfold argsOk
 rw [signature?_of (id := "set_iterator.__iter__") (n := "__reti__".toList) (o := "rotareti_tes".toList) (by kernel_rfl) own_it]
 kernel_rfl
theorem zzl : entryFor table "set.__iter__" = some Builtin.«frozenset.__iter__» :=
 entryFor_alias (id' := "frozenset.__iter__") (by kernel_rfl) rfl (by decide +kernel) (by kernel_rfl)
noncomputable def At (h:Heap) (a:Addr) (es:Array (Int × Value)) (ep:Nat) (t:SetTable):Prop:=∃ob,h.get? a=some ob∧ob.ExactSet∧ob.data=.set es ep t
theorem At.kept {h h':Heap} {a:Addr} {es:Array (Int × Value)} {ep:Nat} {t:SetTable} (x:At h a es ep t) (k:∀o,h.get? a=some o→h'.get? a=some o):At h' a es ep t :=
 let ⟨ob,e,r⟩:=x;⟨ob,k _ e,r⟩
theorem At.is {s : Shared} {a : Addr} {es : Array (Int × Value)} {ep : Nat} {t : SetTable} (x : At s.heap a es ep t) : s.TypeIs (.ref a) "set" := let ⟨ob, e, c, _⟩ := x; ⟨ob, e, c.1⟩
theorem At.lt {h:Heap} {a:Addr} {es:Array (Int × Value)} {ep:Nat} {t:SetTable} (x:At h a es ep t):a < h.objs.size:=let ⟨_,e,_⟩:=x;Heap.lt_size e
noncomputable def ord (w : World) (a : Addr) (es : Array (Int × Value)) (ep : Nat) : Array (Int × Value) := if w.params.followText "set-order" = true then pickOrder (w.params.setOrder a ep) es else es
theorem zrc (w:World) (a:Addr) (es:Array (Int × Value)) (ep:Nat):(ord w a es ep).toList.Perm es.toList:=by
 unfold ord
 split
 ·exact zuj _ _
 ·exact List.Perm.refl _
theorem zjk (w:World) (a:Addr) (es:Array (Int × Value)) (ep:Nat):(ord w a es ep).size=es.size:=by
 have:=(zrc w a es ep).length_eq
 simpa using this
noncomputable def slotAt (w:World) (t:SetTable):Nat→Nat
 | 0=>0
 | i + 1 => if w.params.followText "set-order" = true then 0 else t.place.getD i 0 + 1
theorem zoc {w : World} (h : w.params.followText "set-order" = true) (t : SetTable) : ∀ i, slotAt w t i = 0
 | 0=>rfl
 | i+1=>if_pos h
theorem zqn {w : World} (h : ¬ w.params.followText "set-order" = true) (t : SetTable) (i : Nat) : slotAt w t (i + 1) = t.place.getD i 0 + 1 := if_neg h
theorem zqo {w : World} (h : ¬ w.params.followText "set-order" = true) {t : SetTable} (up : Up t.place) : ∀ i, i ≤ t.place.size → SetTable.below t.place (slotAt w t i) = i
 | 0,_=>ztd up
 | i+1,hi=>by rw[zqn h];exact zte up (by (first|assumption|lia))
section
variable {P:Program} {w:World} {B:Around} {E:Value→Shared→Prop} {s:Shared} {a it:Addr} {es:Array (Int × Value)} {ep:Nat} {t:SetTable} {ks:List Nat}
theorem zwt {i:Nat} {Q:Option (Value × Nat)→Shared→Prop} (x:At s.heap a es ep t) (T:Tt w es t ks) (hi:i≤es.size) (fin:Q (((ord w a es ep)[i]?).map fun e=>(e.2,slotAt w t (i+1))) s) :
  wpAny (model P w) B (setNext a (slotAt w t i) i ep) Q E s:=by
 obtain ⟨ob,ho,hex,hd⟩:=x
 unfold setNext setsByText
 refine wpAny_bind (wpAny_setState_of ho hd T.fits ?_)
 dsimp only
 refine wpAny_bind (wpAny_bind (wpAny_askSetting (wpAny_pure ?_)))
 show wpAny _ _ (if w.params.followText "set-order" = true then _ else _) _ _ _
 by_cases hb : w.params.followText "set-order" = true
 ·rw[zoc hb] at fin
  rw[if_pos hb,if_neg (by simp),zoc hb]
  unfold setWalk setsByText
  refine wpAny_bind (wpAny_bind (wpAny_setState_of ho hd T.fits ?_))
  dsimp only
  refine wpAny_bind (wpAny_bind (wpAny_askSetting (wpAny_pure ?_)))
  show wpAny _ _ (if w.params.followText "set-order" = true then _ else _) _ _ _
  rw[if_pos hb]
  refine wpAny_bind (wpAny_askSetting (wpAny_pure (wpAny_pure ?_)))
  unfold ord at fin
  rw[if_pos hb] at fin
  exact fin
 ·rw[if_neg hb]
  have hl:t.led=true:=by rw[T.ld];simpa using hb
  have sz:=T.sz
  refine wpAny_ite_split (fun z=>?_) (fun _=>?_)
  ·change (!t.plain && _)=true at z
   rw[T.tb.pl] at z
   cases z
  refine wpAny_bind (wpAny_ite_split (fun z=>?_) (fun _=>wpAny_pure ?_))
  ·change (!t.led && _)=true at z
   rw[hl] at z
   cases z
  rw[zqo hb T.tb.up i (by (first|assumption|lia))]
  unfold ord at fin
  rw[if_neg hb,zqn hb] at fin
  by_cases c:i < es.size
  ·rw[Array.getElem?_eq_getElem c] at fin ⊢
   have c2:i < t.place.size:=by (first|assumption|lia)
   rw[Array.getElem?_eq_getElem c2]
   have e2:t.place.getD i 0=t.place[i]:=by
    rw[Array.getD_eq_getD_getElem?,Array.getElem?_eq_getElem c2]
    rfl
   rw[e2] at fin
   exact wpAny_pure fin
  ·rw[Array.getElem?_eq_none (by (first|assumption|lia))] at fin ⊢
   exact wpAny_pure fin
noncomputable def ItAt (w : World) (h : Heap) (it a : Addr) (i n ep : Nat) (t : SetTable) : Prop := ∃ o, h.get? it = some o ∧ o.cls = .type "set_iterator" ∧ o.data = .fields #[.int (slotAt w t i : Nat) 0, .int i 0, .ref a, .int n 0, .int ep 0]
theorem ItAt.kept {h h':Heap} {i n:Nat} (x:ItAt w h it a i n ep t) (k:∀o,h.get? it=some o→h'.get? it=some o):ItAt w h' it a i n ep t :=
 let ⟨o,e,r⟩:=x;⟨o,k _ e,r⟩
theorem ItAt.is {i n : Nat} (x : ItAt w s.heap it a i n ep t) : s.TypeIs (.ref it) "set_iterator" := let ⟨o, e, c, _⟩ := x; ⟨o, e, c⟩
noncomputable def itO (a : Addr) (n ep : Nat) : Obj := { cls := .type "set_iterator", data := .fields #[.int 0 0, .int 0 0, .ref a, .int n 0, .int ep 0] }
theorem zbcm {W:Value→Shared→Prop} (x:At s.heap a es ep t) (T:Tt w es t ks) (fin:W (.ref s.heap.objs.size) {s with heap:=s.heap.push (itO a es.size ep)}):wpAny (model P w) B (pyIter (.ref a)) W E s:=by
 obtain ⟨ob,ho,hex,hd⟩:=id x
 refine wpAny_pyIter_slot x.is F.slot_set_iter (wpAny_call_entry F.slot_set_iter x.is zzl ?body (F.args_set_iter_1 _))
 case body =>
  unfold Builtin.«frozenset.__iter__» Builtin.Frozenset.sizeOf
  refine wpAny_bind (m := Builtin.Frozenset.slot0 "__iter__" _) (wpAny_pure (wpAny_bind (wpAny_bind (wpAny_setEntries_of ho hd T.fits (wpAny_pure ?_)))))
  unfold setDrawn setsByText
  refine wpAny_bind (wpAny_bind (wpAny_setState_of ho hd T.fits ?_))
  dsimp only
  refine wpAny_bind (wpAny_bind (wpAny_askSetting (wpAny_pure (wpAny_pure ?_))))
  refine wpAny_ite_split (fun z=>?_) (fun _=>wpAny_bind (wpAny_pure ?_))
  ·change (_ && (!t.plain && _))=true at z
   rw[T.tb.pl] at z
   simp at z
  refine wpAny_bind (wpAny_setEpoch_of ho hd T.fits ?_)
  unfold newFields
  exact wpAny_bind (wpAny_newObj_type (wpAny_pure ⟨_, rfl, "set_iterator", _, ⟨_, Heap.get?_push_size _ rfl, rfl⟩, ziq.lookup, fin⟩))
theorem put_it {w : World} {h : Heap} {it a : Addr} {o : Obj} {i n ep : Nat} {t : SetTable} (ho : h.get? it = some o) (hc : o.cls = .type "set_iterator") (hd : o.data = .fields #[.int (slotAt w t i : Nat) 0, .int i 0, .ref a, .int n 0, .int ep 0]) :
  ItAt w ((h.update it (Obj.mapFields (·.setIfInBounds 0 (rawInt (slotAt w t (i+1):Nat))))).update it (Obj.mapFields (·.setIfInBounds 1 (rawInt ((i:Int)+1))))) it a (i+1) n ep t:=by
 have d1:=Obj.data_mapFields hd (·.setIfInBounds 0 (rawInt (slotAt w t (i+1):Nat)))
 have g1:=Heap.get?_update_self _ ho (Obj.isFreed_of_fields d1)
 have d2:=Obj.data_mapFields d1 (·.setIfInBounds 1 (rawInt ((i:Int)+1)))
 refine ⟨_,Heap.get?_update_self _ g1 (Obj.isFreed_of_fields d2),(Obj.cls_mapFields ..).trans ((Obj.cls_mapFields ..).trans hc),?_⟩
 rw[d2]
 simp[rawInt]
theorem zbcn {i:Nat} {e:Int × Value} {W:Option Value→Shared→Prop} (x:At s.heap a es ep t) (T:Tt w es t ks) (hi:ItAt w s.heap it a i es.size ep t) (he:(ord w a es ep)[i]?=some e)
  (fin:∀g:Heap,ItAt w g it a (i+1) es.size ep t→Heap.SameBut it s.heap g→W (some e.2) {s with heap:=g}):wpAny (model P w) B (pyNext (.ref it)) W E s:=by
 obtain ⟨oi,ei,ci,di⟩:=id hi
 obtain ⟨ob,ho,hex,hd⟩:=id x
 have lt:i < es.size:=by
  have:=(Array.getElem?_eq_some_iff.mp he).1
  rwa [zjk] at this
 unfold pyNext
 refine wpAny_bind (wpAny_attempt (wpAny_callSpecial?_slot (name := Str.ofString "__next__") hi.is ziq (wpAny_call_entry ziq hi.is zrk ?body (zws _))))
 case body =>
  refine wpAny_bind (m := slotArgs "__next__" 0 _) (wpAny_pure (wpAny_bind (wpAny_fieldsOf ei di ?_)))
  refine wpAny_bind (wpAny_setEntries_of ho hd T.fits ?_)
  rw[if_neg (by simp)]
  refine wpAny_bind (m:=setNext a (slotAt w t i) i ep) (zwt x T (Nat.le_of_lt lt) ?_)
  rw[he]
  dsimp only [Option.map]
  refine wpAny_bind (wpAny_setField ei di (by simp) ?_)
  have d1:=Obj.data_mapFields di (·.setIfInBounds 0 (rawInt (slotAt w t (i+1):Nat)))
  have g1:=Heap.get?_update_self _ ei (Obj.isFreed_of_fields d1)
  refine wpAny_bind (wpAny_setField g1 d1 (by simp) ?_)
  exact wpAny_pure ⟨_,rfl,wpAny_pure (fin _ (put_it ei ci di) ((Heap.SameBut.update ..).trans (Heap.SameBut.update ..)))⟩
theorem end_at {i:Nat} {W:Option Value→Shared→Prop} (hh:B.handled=none) (x:At s.heap a es ep t) (T:Tt w es t ks) (hi:ItAt w s.heap it a i es.size ep t) (he:i=es.size)
  (fin:∀g:Heap,Heap.ExtBut it s.heap g→W none {s with heap:=g}):wpAny (model P w) B (pyNext (.ref it)) W E s:=by
 obtain ⟨oi,ei,ci,di⟩:=id hi
 obtain ⟨ob,ho,hex,hd⟩:=id x
 unfold pyNext
 refine wpAny_bind (wpAny_attempt (wpAny_callSpecial?_slot (name := Str.ofString "__next__") hi.is ziq (wpAny_call_entry ziq hi.is zrk ?body (zws _))))
 case body =>
  refine wpAny_bind (m := slotArgs "__next__" 0 _) (wpAny_pure (wpAny_bind (wpAny_fieldsOf ei di ?_)))
  refine wpAny_bind (wpAny_setEntries_of ho hd T.fits ?_)
  rw[if_neg (by simp)]
  refine wpAny_bind (m:=setNext a (slotAt w t i) i ep) (zwt x T (Nat.le_of_eq he) ?_)
  rw[Array.getElem?_eq_none (by rw[zjk];(first|assumption|lia))]
  dsimp only [Option.map]
  refine wpAny_bind (wpAny_setField ei di (by simp) (wpAny_bind ?_))
  simp only[newExc,newTuple]
  refine wpAny_bind (wpAny_newObj_type (wpAny_bind (m:=firstArgMember _ _) (wpAny_of_eq (a:=Value.none) (by first | rfl | (simp only[firstArgMember];rfl)) (wpAny_newObj_type ?_ (by size_fits)))) (by size_fits))
  simp only[raiseNew]
  refine wpAny_bind (wpAny_handled ?_)
  rw[show B.in1.handled=none from hh]
  refine wpAny_bind (wpAny_pure (wpAny_throw ?_))
  refine wpAny_bind (wpAny_isInstance (T := "StopIteration") (b := true) ?ty isSubtype_stop (wpAny_pure (fin _ (((Heap.SameBut.update ..).extBut.push _).push _))))
  exact ⟨_,Heap.get?_push_size _ rfl,rfl⟩
theorem zxt (hh:B.handled=none) (ne:a≠it) (T:Tt w es t ks) :
  Walks P w B it [it,a] [it] es.size (fun i v=>∃e,(ord w a es ep)[i]?=some e∧v=e.2) (fun i h=>ItAt w h it a i es.size ep t∧At h a es ep t) where
 sub:=fun b hb=>List.mem_cons.mpr (.inl (List.mem_singleton.mp hb))
 frame:=fun _ _ _ z hk=>⟨z.1.kept fun o e=>hk it List.mem_cons_self o e,z.2.kept fun o e=>hk a (List.mem_cons_of_mem _ (List.mem_singleton.mpr rfl)) o e⟩
 item:=fun i sh W' E' hi z hQ=>by
  have hx:(ord w a es ep)[i]?=some ((ord w a es ep)[i]'(by rw[zjk];exact hi)):=Array.getElem?_eq_getElem _
  exact zbcn z.2 T z.1 hx fun g p q=>hQ _ g sh.toks ⟨_,hx,rfl⟩ ⟨p,z.2.kept fun o e=>q.extBut a o ne e⟩ fun c o hc e=>q.extBut c o (fun r=>hc (List.mem_singleton.mpr r)) e
 done:=fun sh W' E' z hQ=>end_at hh z.2 T z.1 rfl fun g b=>hQ g sh.toks fun c o hc e=>b c o (fun q=>hc (List.mem_singleton.mpr q)) e
 self:=fun i sh W' E' z hQ=>by
  refine wpAny_pyIter_slot z.1.is zwi (wpAny_call_entry zwi z.1.is zyb ?_ (zbba _))
  exact wpAny_pure ⟨_, rfl, "set_iterator", _, z.1.is, ziq.lookup, hQ⟩
theorem zbcp {Q : Bool → Shared → Prop} (ty : s.TypeIs (.ref a) "set") (fin : Q false s) : wpAny (model P w) B (Builtin.List.listLengthHint (.ref a)) Q E s := by
 unfold Builtin.List.listLengthHint
 refine wpAny_bind (wpAny_specialOf ty F.slot_set_len.lookup ?_)
 generalize hid : ("set.__len__" : String) = id0
 wp_delta
 rw [show splitId id0 = some ("set", "__len__") from by subst hid; decide +kernel]
 subst hid
 refine wpAny_bind (wpAny_isInstance (b:=true) ty sub_set_self (wpAny_ite_split (fun z=>absurd z (by decide)) (fun _=>wpAny_ite_split (fun _=>wpAny_bind (wpAny_typeOf ty (wpAny_pure fin))) (fun z=>absurd (by decide +kernel) z))))
theorem src_at (T : Tt w es t ks) : KdlSrc P w "set" a a es.size (fun i v => ∃ e, (ord w a es ep)[i]? = some e ∧ v = e.2) (fun h => At h a es ep t) where
 type:=fun _ x=>x.is
 there:=fun _ x=>⟨x.lt,x.lt⟩
 keep:=fun _ _ x hk=>x.kept fun o e=>hk a (.inl rfl) o e
 notList:=by decide
 notTuple:=by decide
 hint:=fun _ _ _ _ x hq=>zbcp x.is hq
 iter:=fun _ sh hh x=>⟨_,_,fun _ _ hq=>zbcm x T hq,zxt hh (Nat.ne_of_lt x.lt) T,⟨⟨_,Heap.get?_push_size _ rfl,rfl,rfl⟩,x.kept fun o e=>Heap.get?_push_of_some _ e⟩⟩
end
end St
end L2
set_option maxHeartbeats 4000000
namespace L2
open PySem PySem.Spec PyProof.Rows PySem.W
noncomputable def nats (ns:List Nat):List Int:=ns.map fun (n:Nat)=>(n:Int)
noncomputable def setO (w:World) (q:Addr) (ks:List Nat):HO:=.ext fun h=>St.Sn w h q ks
noncomputable def rSetI (w:World) (K:PySem.W.Frag):List V→Hp→VK→Prop:=fun xs H Q=>∃(l:Addr) (ns:List Nat),xs=[.ref l]∧SqL K H l ((nats ns).map V.int)∧(∀n∈ns,n < 64)∧∀q,H q=none→Q (.ref q) (upd H q (setO w q (St.met ns [])))
theorem zwa {X : Cx} (hc : X.calm = true) : CallR X (.type "set") (rSetI X.w X.K) := by
 intro pins s σ H xs us Q I r h
 obtain ⟨l,ns,rfl,hl,small,q⟩:=h
 obtain ⟨u,rfl,ru⟩:=vals1 r
 cases ru
 obtain ⟨its,rv,pl,hz⟩:=I.list hl
 refine St.zbds (I.ok.hd hc) pl.isList (zdw rv) small fun h' tk S keep=>?_
 refine ⟨.ref s.heap.objs.size,_,I.laid (a:=s.heap.objs.size) (o:=setO X.w s.heap.objs.size (St.met ns [])) (t':=tk) keep (Nat.le_refl _) ⟨S,?_,fun h1 h2 z k=>z.kept k⟩,rfl,q _ (I.hok.fresh (Nat.le_refl _))⟩
 obtain ⟨ob,_,_,_,e,_⟩:=S
 exact ⟨ob,e⟩
noncomputable def rSortedS (w:World):List V→Hp→VK→Prop:=fun xs H Q=>∃(a:Addr) (ks:List Nat),xs=[.ref a]∧H a=some (setO w a ks) ∧
 ∀(q:Addr) (ms:List Int),H q=none→ms.Perm (nats ks)→ms.Pairwise (·≤·)→Q (.ref q) (upd H q (.lst (ms.map V.int)))
theorem znn {X : Cx} (hc : X.calm = true) : CallR X (.builtin "sorted") (rSortedS X.w) := by
 intro pins s σ H xs us Q I r h
 obtain ⟨a,ks,rfl,ha,q⟩:=h
 obtain ⟨u,rfl,ru⟩:=vals1 r
 cases ru
 obtain ⟨S,_,_⟩:=(show ObjOk X.prog X.w H s.heap a (setO X.w a ks) from I.hok a _ ha)
 obtain ⟨ob,es,ep,t,ho,hex,hd,T⟩:=S
 have few:=T.few
 refine Srt.zig (St.src_at (P:=X.prog) (ep:=ep) T) (I.ok.hd hc) ⟨ob,ho,hex,hd⟩ (small10000 (by (first|assumption|lia))) fun vs hl hv=>?_
 have pm:=St.zrc X.w a es ep
 have evs:vs=(St.ord X.w a es ep).toList.map (·.2):=by
  apply List.ext_getElem?
  intro i
  by_cases hi:i < es.size
  ·have h1:vs[i]?=some vs[i]:=List.getElem?_eq_getElem (by (first|assumption|lia))
   obtain ⟨e,h2,h3⟩:=hv i _ h1
   rw[h1,h3,List.getElem?_map,Array.getElem?_toList,h2]
   rfl
  ·rw[List.getElem?_eq_none (by (first|assumption|lia)),List.getElem?_eq_none (by rw[List.length_map,Array.length_toList,St.zjk];(first|assumption|lia))]
 generalize hL:(St.ord X.w a es ep).toList=L at pm evs
 have E:=T.el.of_perm pm
 have rv:Vals ((L.map (·.1)).map V.int) vs:=by
  rw[evs,List.map_map]
  refine zml fun e he=>?_
  obtain ⟨n,t2,hn,rfl⟩:=E.all e he
  exact ⟨t2,rfl⟩
 have ln:(L.map (·.1)).length=es.size:=by
  rw[List.length_map,pm.length_eq,Array.length_toList]
 refine ⟨Srt.rank (ones (L.map (·.1))),zbae rv,fun h2 g tk keep=>zbam (by (first|assumption|lia)) rv,fun p b g tk c p1 p2 keep ne eg=>?_⟩
 have lv:vs.length=(L.map (·.1)).length:=by (first|assumption|lia)
 rw[lv] at p1 p2
 obtain ⟨ms,q1,q2,q3⟩:=zyu rv p1 p2
 refine ⟨.ref b,_,I.laidN (o:=.lst (ms.map V.int)) keep ne ⟨?_,_,c,q3,by simpa using eg⟩,rfl,q b ms (I.away ne) (q1.trans E.perm) q2⟩
 rw[List.length_map,q1.length_eq,ln]
 exact small10000 (by (first|assumption|lia))
end L2
namespace Dd
open PySem L2 PyProof.Rows
noncomputable def once:List Int→List Int
 | []=>[]
 | n::l=>if n∈l then once l else n::once l
theorem zjl {k:Int}:∀{l:List Int},k∈once l↔k∈l
 | []=>Iff.rfl
 | n::l=>by
  unfold once
  split
  ·rename_i h
   rw[zjl (l:=l),List.mem_cons]
   exact ⟨.inr,fun z=>z.elim (fun e=>e ▸ h) id⟩
  ·rw[List.mem_cons,List.mem_cons,zjl (l:=l)]
theorem zre:∀l:List Int,(once l).Nodup
 | []=>List.nodup_nil
 | n::l=>by
  unfold once
  split
  ·exact zre l
  ·rename_i h
   exact List.nodup_cons.mpr ⟨fun z=>h (zjl.mp z),zre l⟩
theorem zrm {k:Nat}:∀{l ks:List Nat},k∈St.met l ks↔k∈l∨k∈ks
 | [],ks=>by simp[St.met]
 | n::l,ks=>by
  unfold St.met
  rw[zrm (l:=l),List.mem_cons]
  split
  ·rename_i h
   exact ⟨fun z=>z.elim (fun a=>.inl (.inr a)) .inr,fun z=>z.elim (fun a=>a.elim (fun e=>.inr (e ▸ h)) .inl) .inr⟩
  ·rw[List.mem_cons]
   exact ⟨fun z=>z.elim (fun a=>.inl (.inr a)) (fun a=>a.elim (fun e=>.inl (.inl e)) .inr),fun z=>z.elim (fun a=>a.elim (fun e=>.inr (.inl e)) .inl) (fun a=>.inr (.inr a))⟩
theorem met_nd:∀{l ks:List Nat},ks.Nodup→(St.met l ks).Nodup
 | [],ks,h=>h
 | n::l,ks,h=>by
  unfold St.met
  split
  ·exact met_nd h
  ·rename_i c
   exact met_nd (List.nodup_cons.mpr ⟨c,h⟩)
theorem zbcg {l:List Nat} (h:l.Nodup):(nats l).Nodup:=by
 unfold nats
 rw[List.nodup_iff_pairwise_ne] at h ⊢
 exact List.pairwise_map.mpr (h.imp fun a e=>a (by (first|assumption|lia)))
theorem zyy {ns:List Nat}:(nats (St.met ns [])).Perm (once (nats ns)):=by
 refine (List.perm_ext_iff_of_nodup (zbcg (met_nd List.nodup_nil)) (zre _)).mpr fun k=>?_
 rw[zjl]
 unfold nats
 rw[List.mem_map,List.mem_map]
 constructor
 ·rintro ⟨n,h,rfl⟩
  exact ⟨n,(zrm.mp h).elim id (fun z=>by cases z),rfl⟩
 ·rintro ⟨n,h,rfl⟩
  exact ⟨n,zrm.mpr (.inl h),rfl⟩
noncomputable def smallI (n:Int):Bool:=decide (0≤n) && decide (n < 64)
theorem zqm {l:List Int} (h:l.all smallI=true):∃ns:List Nat,l=nats ns∧∀n∈ns,n < 64:=by
 refine ⟨l.map Int.toNat,?_,fun n hn=>?_⟩
 ·unfold nats
  rw[List.map_map]
  refine (List.map_id l).symm.trans (List.map_congr_left fun n hn=>?_)
  have:=List.all_eq_true.mp h n hn
  simp[smallI] at this
  show n=((n.toNat:Nat):Int)
  (first|assumption|lia)
 ·obtain ⟨m,hm,rfl⟩:=List.mem_map.mp hn
  have:=List.all_eq_true.mp h m hm
  simp[smallI] at this
  (first|assumption|lia)
noncomputable def bSortSetM:List D→Store→Res D:=fun xs st=>match xs with
 | [x]=>match (asL st x).bind asInts with
  | some l=>if l.all smallI=true then .ok (.ref st.length) (st++[.lst ((sortI (once l)).map .int)]) else .stuck
  | none=>.stuck
 | _=>.stuck
noncomputable def rSS (w:World) (K:PySem.W.Frag):List V→Hp→VK→Prop:=fun xs H Q=>rSetI w K xs H fun u H1=>rSortedS w [u] H1 Q
theorem zqb {w:World} {K:PySem.W.Frag}:CaD K bSortSetM (rSS w K):=fun ρ H st xs us z st' Q rp aa e q=>by
 unfold bSortSetM at e
 split at e
 ·obtain ⟨u,rfl,a⟩:=aa.one
  split at e
  ·rename_i l hl
   obtain ⟨ys,h0,hl⟩:=Option.bind_eq_some_iff.mp hl
   split at e
   ·rename_i sm
    cases e
    obtain ⟨p,vs,rfl,h1,h2⟩:=asL_at rp a h0
    have e:=zcs h2 hl
    subst e
    obtain ⟨ns,rfl,small⟩:=zqm sm
    refine ⟨p,ns,rfl,SqL.of h1,small,fun b hb=>⟨b,_,rfl,zw,fun t ms ht hp hs=>?_⟩⟩
    have e2:ms=sortI (once (nats ns)):=zya (hp.trans zyy) hs
    subst e2
    obtain ⟨E,R⟩:=(rp.new hb (setO w b _)).alloc ht (x:=.lst ((sortI (once (nats ns))).map .int)) (o:=.lst ((sortI (once (nats ns))).map V.int)) fun E=>⟨_,zw,(zhs _).ext E⟩
    exact q _ _ _ ((Ext.new hb _).trans E) R (.last rp.len.symm)
   ·cases e
  ·cases e
 ·cases e
section
variable {X:Cx} {x y:Str} {p p2 pos pos2:Pos} {e:Expr} {f:SA} {g:List D→Store→Res D}
theorem d_ssJ (hc : X.calm = true) (hr : CaD X.K g (rSS X.w X.K)) (hgx : Gl X x) (hmx : X.mg x = none) (hvx : bootBuiltins x = some (.builtin "sorted")) (hgy : Gl X y) (hmy : X.mg y = none) (hvy : bootBuiltins y = some (.type "set")) (ha : JA X [e] f)
  (hnx : x ≠ "__name__" := by decide) (hdx : (x == ("__debug__" : Str)) = false := by decide) (hny : y ≠ "__name__" := by decide) (hdy : (y == ("__debug__" : Str)) = false := by decide) (hp : plainE e = true := by rfl) :
  JE X (.Call (.Name x p) [.Call (.Name y p2) [e] [] pos2] [] pos) (eCall g f) :=
 ⟨pe_to (zra (znn hc) hgx hmx hvx (zwp (zog (zwa hc) hgy hmy hvy ha.out hny hdy (zkv hp)) pa_nil) hnx hdx) fun τ H Q h=>cad_t hr τ H Q h⟩
end
end Dd
set_option maxHeartbeats 4000000
namespace L2
open PySem PySem.Spec PyProof.Rows PySem.W
end L2
namespace L2
open PySem PySem.Spec PyProof.Rows PySem.W
noncomputable def CMulW (i j:Int):Prop:=PySem.Builtin.Int.intBits i≤60000∧PySem.Builtin.Int.intBits j≤60000
theorem zwr {X:Cx}:OpR X (binaryOp .Mult) (rI CMulW fun i j=>.int (i * j)):=opI fun _ _ _ _ _ _ _ hc q=>mul_int q (.of_le hc.1 hc.2 (by decide))
theorem zbbx {X:Cx}:OpR X (compareOp .IsNot) (fun x y H Q=>∃a b,x=.bl a∧y=.bl b∧Q (.bl (!(a == b))) H):=by
 intro pins s σ H x y v u Q I rx ry h
 obtain ⟨a,b,rfl,rfl,q⟩:=h
 cases rx
 cases ry
 refine wpAny_bind (m:=isSame (.bool a) (.bool b)) (wpAny_pure (wpAny_pure (fin_bl I q ?_)))
 cases a<;>cases b<;>rfl
end L2
namespace Dd
open PySem L2 PyProof.Rows
noncomputable instance instCMulW:DecidableRel CMulW:=fun i j=>by unfold CMulW;infer_instance
noncomputable abbrev oMulW:=oI CMulW fun i j=>.int (i * j)
noncomputable def oIsB (neg:Bool) (x y:D) (st:Store):Res D:=match x,y with
 | .bl a,.bl b=>.ok (.bl (if neg then !(a == b) else a == b)) st
 | _,_=>.stuck
theorem zbcd {K:PySem.W.Frag}:OpD K (oIsB true) (fun x y H Q=>∃a b,x=.bl a∧y=.bl b∧Q (.bl (!(a == b))) H):=fun ρ H st x y u v z st' Q rp a b e q=>by
 unfold oIsB at e
 split at e
 ·cases a;cases b;cases e
  exact ⟨_,_,rfl,rfl,q _ _ _ (.refl _ _) rp (.bl _)⟩
 ·cases e
section
variable {X:Cx} {p p2 pos pos2 cpos apos:Pos} {e o:Expr} {f:SA} {g:SE}
end
end Dd
set_option maxHeartbeats 4000000
namespace Dd
open PySem L2 PyProof.Rows
section
variable {X:Cx} {R:RXT} {e:Expr} {es:List Expr} {f:SE} {g:SA} {sm:Stmt} {rest body:List Stmt} {s t:SS} {pos p:Pos} {x:Str} {k:Nat} {ps:List Str} {F:DFn}
end
section
variable {P:Program} {w:World} {K:PySem.W.Frag} {mg:Str→Option Value} {base h:Heap} {x:Str} {st:Stmt} {N ps:List Str} {k:Nat} {b:SS}
end
end Dd
set_option maxHeartbeats 4000000
namespace Dd
open PySem L2 PyProof.Rows
section
variable {X:Cx} {pos:Pos} {es:List Expr} {u:List D→DS→Option DS}
end
end Dd
set_option maxHeartbeats 4000000
namespace L2
open PySem PySem.Spec PyProof.Rows
section
variable {prog:Program} {w:World} {A:Around} {R:Result→Shared→Prop} {I:Addr} {fp wr:List Addr} {n:Nat} {P:Nat→Value→Prop} {St:Nat→Heap→Prop}
end
section
variable {prog:Program} {w:World} {A:Around} {E:Value→Shared→Prop} {s:Shared}
end
section
variable {X:Cx} {p pos cpos kpos:Pos} {l:Expr} {t:TA} {d:Int} {j:Nat}
end
end L2
set_option maxHeartbeats 4000000
namespace L2
open PySem PySem.Spec PyProof.Rows
section
variable {X:Cx}
end
end L2
set_option maxHeartbeats 4000000
namespace Dd
open PySem L2 PyProof.Rows
section
variable {X:Cx} {p pos cpos kpos:Pos} {l:Expr} {f:SA} {j:Nat}
end
end Dd
namespace Dd
open PySem L2
noncomputable def zeo:DFn:=fnD 5 2 (sSeq (sSet 2 (eC (.int 0)))
 (sSeq (sIf (eB (eOp oLtT (eVar 1) (eCall bLen (aCons (eVar 0) aNil)))) (sSet 2 (eCall bAbs (aCons (eOp oIx (eVar 0) (eVar 1)) aNil))) sNx)
 (sSeq (sSet 3 (eOp oAdd (eOp oMulI (eC (.int 7919)) (eVar 1)) (eC (.int 17))))
 (sSeq (sFor (iR1 (aCons (eCall bMin2 (aCons (eCall bLen (aCons (eVar 0) aNil)) (aCons (eC (.int 60)) aNil))) aNil)) (gN 4) (sSet 3 (eOp oMod (eOp oAdd (eOp oAdd (eOp oMulI (eVar 3) (eC (.int 48271))) (eOp oMod (eOp oIx (eVar 0) (eVar 4)) (eC (.int 2147483647)))) (eVar 4)) (eC (.int 2147483629)))))
 (sSeq (sIf (eB (eOp oLtT (eVar 2) (eOp oPow (eC (.int 10)) (eC (.int 18))))) (sSet 2 (eC (.int 0))) sNx)
 (sRet (eLstM (aCons (eVar 2) (aCons (eVar 3) aNil)))))))))
noncomputable def zi:DFn:=fnD 5 2 (sSeq (sIf (eB (eOp oGt (eOp oIx (eVar 0) (eC (.int 0))) (eC (.int 0)))) (sSeq (sSet 2 (eOp oMod (eOp oIx (eVar 0) (eC (.int 0))) (eVar 1)))
 (sSeq (sSetIx (eVar 0) (eC (.int 0)) (eOp oFdiv (eOp oIx (eVar 0) (eC (.int 0))) (eVar 1)))
 (sRet (eVar 2)))) sNx)
 (sSeq (sSet 3 (eC (.int 0)))
 (sSeq (sSet 4 (eC (.int 1)))
 (sSeq (sWhile (eB (eOp oLtT (eVar 4) (eVar 1))) (sSeq (sSetIx (eVar 0) (eC (.int 1)) (eOp oMod (eOp oAdd (eOp oMulI (eOp oIx (eVar 0) (eC (.int 1))) (eC (.int 48271))) (eC (.int 7919))) (eC (.int 2147483647))))
 (sSeq (sSet 3 (eOp oAdd (eOp oMulI (eVar 3) (eC (.int 1073741789))) (eOp oMod (eOp oMulI (eOp oFdiv (eOp oIx (eVar 0) (eC (.int 1))) (eC (.int 8))) (eC (.int 69621))) (eC (.int 1073741789)))))
 (sSet 4 (eOp oMulI (eVar 4) (eC (.int 1073741789)))))))
 (sRet (eOp oMod (eVar 3) (eVar 1)))))))
noncomputable def F_flip:DFn:=fnD 2 2 (sIf (eB (eOp (oDIn false) (eVar 1) (eVar 0))) (sDrop (eDPop (eVar 0) (eVar 1))) (sDPut (eVar 0) (eVar 1) (eC (.bl true))))
noncomputable def zez:SS:=(sDPut (eVar 1) (eVar 2) (eNot (eDGet2 (eVar 1) (eVar 2) (eC (.bl false)))))
noncomputable def zbd:DFn:=fnD 3 1 (sSeq (sSet 1 eDNew)
 (sSeq (sFor (iSeq (eVar 0)) (gN 2) zez)
 (sRet (eCall bTuple (aCons (eCall bSorted (aCons (eComp (iDict (eVar 1)) 1 [1] (gN 0) (eTru (eOp oDGet (eVar 1) (eVar 0))) (eVar 0)) aNil)) aNil)))))
noncomputable def zec:DFn:=fnD 2 2 (sRet (eOp oEq (eOp oAndI (eVar 0) (eVar 1)) (eVar 1)))
noncomputable def zbr : DFn := fnD 1 1 (sRet (eAnd (eCall bIsinst (aCons (eVar 0) (aCons (eC (.ty "int")) aNil))) (eNot (eCall bIsinst (aCons (eVar 0) (aCons (eC (.ty "bool")) aNil))))))
noncomputable def zca:DFn:=fnD 1 1 (sRet (eOp oIx (eLst (aCons (eC (.int 1)) (aCons (eC (.int 2)) (aCons (eC (.int 2)) (aCons (eC (.int 2)) (aCons (eC (.int 3)) (aCons (eC (.int 3)) (aCons (eC (.int 3)) (aCons (eC (.int 4)) (aCons (eC (.int 4)) (aCons (eC (.int 5)) (aCons (eOp oAdd (eC (.int 5)) (eCall zi (aCons (eVar 0) (aCons (eC (.int 6)) aNil)))) aNil)))))))))))) (eCall zi (aCons (eVar 0) (aCons (eC (.int 11)) aNil)))))
noncomputable def zja:SS:=(sDrop (eCall F_flip (aCons (eVar 2) (aCons (eVar 4) aNil))))
end Dd
namespace Dd
open PySem L2
noncomputable def zdd:SS:=(sSeq (sSet 7 (eCall zi (aCons (eVar 0) (aCons (eOp oAdd (eVar 3) (eC (.int 1))) aNil))))
 (sSeq (sIf (eB (eOp oEq (eVar 5) (eC (.int 0)))) (sSet 7 (eCall (bBest true) (aCons (eComp (iSeq (eTup (aCons (eC (.int 0)) (aCons (eC (.int 1)) (aCons (eC (.int 3)) (aCons (eC (.int 7)) (aCons (eC (.int 15)) aNil))))))) 1 [7] (gN 0) (eB (eOp oLe (eVar 0) (eVar 1))) (eVar 0)) aNil))) sNx)
 (sSeq (sDrop (eAppend (eVar 4) (aCons (eVar 7) aNil)))
 (sSet 3 (eOp oSub (eVar 3) (eVar 7))))))
noncomputable def zbj:DFn:=fnD 9 3 (sSeq (sSet 3 (eVar 2))
 (sSeq (sSet 4 (eLstM aNil))
 (sSeq (sSet 5 (eCall zi (aCons (eVar 0) (aCons (eC (.int 3)) aNil))))
 (sSeq (sFor (iR1 (aCons (eOp oSub (eVar 1) (eC (.int 1))) aNil)) (gN 6) zdd)
 (sSeq (sDrop (eAppend (eVar 4) (aCons (eVar 3) aNil)))
 (sSeq (sSet 8 (eCall zi (aCons (eVar 0) (aCons (eVar 1) aNil))))
 (sRet (eCall bTuple (aCons (eOp oAdd (eSl (eVar 4) (pSome (eVar 8)) pNone) (eSl (eVar 4) pNone (pSome (eVar 8)))) aNil)))))))))
noncomputable def zcl:DFn:=fnD 4 4 (sRet (eCall zbd (aCons (eComp (iR1 (aCons (eCall zi (aCons (eVar 0) (aCons (eOp oAdd (eVar 3) (eC (.int 1))) aNil))) aNil)) 1 [0,1,2] (gN 0) bYes (eCall zbj (aCons (eVar 1) (aCons (eVar 2) (aCons (eVar 3) aNil))))) aNil)))
noncomputable def zet:SS:=(sDrop (eExtend (eVar 6) (aCons (eComp (iR1 (aCons (eOp oAdd (eCall bMin2 (aCons (eVar 5) (aCons (eVar 8) aNil))) (eC (.int 1))) aNil)) 1 [7,8,5] (gN 0) (eB (eOp oEq (eOp oAndI (eVar 3) (eVar 0)) (eVar 0))) (eTup (aCons (eOp oAdd (eVar 1) (eTup (aCons (eOp oAdd (eVar 3) (eVar 0)) aNil))) (aCons (eOp oSub (eVar 2) (eVar 0)) aNil)))) aNil)))
noncomputable def zcw:SS:=(sSeq (sSet 6 (eLstM aNil))
 (sSeq (sFor (iSeq (eVar 4)) (gT 2 (gsCons (gN 7) (gsCons (gN 8) gsNil))) zet)
 (sSet 4 (eFz (eVar 6)))))
noncomputable def zes:SS:=(sSeq (sSet 4 (eLst (aCons (eTup (aCons (eTup aNil) (aCons (eVar 1) aNil))) aNil)))
 (sSeq (sFor (iSeq (eVar 3)) (gN 5) zcw)
 (sDrop (eExtend (eVar 2) (aCons (eComp (iSeq (eVar 4)) 2 [] (gT 2 (gsCons (gN 0) (gsCons (gN 1) gsNil))) (eB (eOp oEq (eVar 1) (eC (.int 0)))) (eVar 0)) aNil)))))
noncomputable def zcm:DFn:=fnD 9 2 (sSeq (sSet 2 (eLstM aNil))
 (sSeq (sFor (iSeq (eVar 0)) (gN 3) zes)
 (sRet (eCall zbd (aCons (eFz (eVar 2)) aNil)))))
noncomputable def zde:DFn:=fnD 2 2 (sRet (eOp oEq (eOp oMod (eCall bLen (aCons (eComp (iSeq (eVar 0)) 1 [1] (gN 0) (eB (eOp (oInG false) (eVar 0) (eVar 1))) (eVar 0)) aNil)) (eC (.int 2))) (eC (.int 1))))
noncomputable def zbq:SS:=(sIf (eTru (eCall zec (aCons (eOp oSub (eVar 1) (eVar 6)) (aCons (eVar 6) aNil)))) (sDrop (eAppend (eVar 3) (aCons (eTup (aCons (eOp oAdd (eVar 4) (eTup (aCons (eOp oSub (eVar 1) (eVar 6)) aNil))) (aCons (eOp oSub (eVar 5) (eVar 6)) aNil))) aNil))) sNx)
noncomputable def zcu:SS:=(sFor (iR2 (aCons (eCall bMax2 (aCons (eC (.int 0)) (aCons (eOp oSub (eVar 5) (eVar 2)) aNil))) (aCons (eOp oAdd (eCall bMin2 (aCons (eOp oFdiv (eVar 1) (eC (.int 2))) (aCons (eVar 5) aNil))) (eC (.int 1))) aNil))) (gN 6) zbq)
noncomputable def zbc:DFn:=fnD 7 3 (sSeq (sSet 3 (eLstM aNil))
 (sSeq (sFor (iSeq (eVar 0)) (gT 2 (gsCons (gN 4) (gsCons (gN 5) gsNil))) zcu)
 (sRet (eFz (eVar 3)))))
noncomputable def zck:SS:=(sSeq (sAug 3 (oI (fun _ _=>True) fun i j=>.int (i - j)) (eOp oFdiv (eVar 4) (eC (.int 2))))
 (sSet 2 (eCall zbc (aCons (eVar 2) (aCons (eVar 4) (aCons (eVar 3) aNil))))))
noncomputable def zbb:DFn:=fnD 5 2 (sSeq (sSet 2 (eLst (aCons (eTup (aCons (eTup aNil) (aCons (eVar 1) aNil))) aNil)))
 (sSeq (sSet 3 (eCall bSum (aCons (eComp (iSeq (eVar 0)) 1 [] (gN 0) bYes (eOp oFdiv (eVar 0) (eC (.int 2)))) aNil)))
 (sSeq (sFor (iSeq (eVar 0)) (gN 4) zck)
 (sRet (eComp (iSeq (eVar 2)) 2 [] (gT 2 (gsCons (gN 0) (gsCons (gN 1) gsNil))) bYes (eVar 0))))))
noncomputable def zia:SS:=(sFor (iSeq (eCall zbb (aCons (eVar 3) (aCons (eVar 1) aNil)))) (gN 4) zja)
noncomputable def zfr:DFn:=fnD 5 2 (sSeq (sIf (bOr (bNot (eTru (eCall zbr (aCons (eVar 1) aNil)))) (eB (eOp oLtT (eVar 1) (eC (.int 0))))) sStuck sNx)
 (sSeq (sSet 2 eDNew)
 (sSeq (sFor (iSeq (eVar 0)) (gN 3) zia)
 (sRet (eCall bTuple (aCons (eCall bSorted (aCons (eVar 2) aNil)) aNil))))))
end Dd
namespace Dd
open PySem L2
end Dd
namespace Dd
open PySem L2
noncomputable def zbs:SS:=(sSet 2 (eOp oFdiv (eOp oMulW (eVar 2) (eOp oAdd (eVar 1) (eVar 3))) (eVar 3)))
noncomputable def ze:DFn:=fnD 4 2 (sSeq (sSet 2 (eC (.int 1)))
 (sSeq (sFor (iR2 (aCons (eC (.int 1)) (aCons (eVar 0) aNil))) (gN 3) zbs)
 (sRet (eVar 2))))
noncomputable def zbh:DFn:=fnD 2 2 (sRet (eCall ze (aCons (eVar 0) (aCons (eVar 1) aNil))))
noncomputable def zft:DFn:=fnD 1 1 (sRet (eCall bSortSetM (aCons (eComp (iSeq (eVar 0)) 1 [] (gN 0) bYes (eCall bSum (aCons (eVar 0) aNil))) aNil)))
noncomputable def zct:DFn:=fnD 1 1 (sRet (eIf (eB (eOp oLe (eVar 0) (eC (.int 3)))) (eC (.int 24)) (eC (.int 10))))
noncomputable def zbk:DFn:=fnD 2 2 (sRet (eAnd (eOp oLe (eVar 1) (eCall zct (aCons (eVar 0) aNil))) (eOp oLe (eCall ze (aCons (eVar 0) (aCons (eVar 1) aNil))) (eC (.int 200)))))
noncomputable def zfu:DFn:=fnD 2 2 (sSeq (sIf (bNot (eTru (eCall zbk (aCons (eVar 0) (aCons (eVar 1) aNil))))) sStuck sNx)
 (sRet (eVar 1)))
noncomputable def zbw:DFn:=fnD 3 2 (sSeq (sSet 2 (eCall zft (aCons (eVar 1) aNil)))
 (sSeq (sIf (eB (eOp oGt (eCall bLen (aCons (eVar 2) aNil)) (eC (.int 1)))) sStuck sNx)
 (sRet (eIf (eTru (eVar 2)) (eCall zfu (aCons (eVar 0) (aCons (eOp oIx (eVar 2) (eC (.int 0))) aNil))) (eC .non)))))
noncomputable def zdk:DFn:=fnD 3 2 (sSeq (sSet 2 (eCall zbw (aCons (eVar 0) (aCons (eVar 1) aNil))))
 (sSeq (sIf (eB (eOp (oIsN false) (eVar 2) (eC .non))) (sRet (eC (.bl true))) sNx)
 (sRet (eCall (bAny true) (aCons (eComp (iR2 (aCons (eC (.int 1)) (aCons (eOp oAdd (eOp oFdiv (eVar 2) (eC (.int 2))) (eC (.int 1))) aNil))) 1 [1] (gN 0) bYes (eOp oEq (eCall zfr (aCons (eVar 1) (aCons (eVar 0) aNil))) (eTup aNil))) aNil)))))
noncomputable def zed:DFn:=fnD 4 2 (sSeq (sSet 2 (eCall bTuple (aCons (eComp (iR1 (aCons (eVar 1) aNil)) 1 [0,1] (gN 0) bYes (eOp oIx (eLst (aCons (eC (.int 0)) (aCons (eC (.int 1)) (aCons (eC (.int 3)) (aCons (eC (.int 1)) (aCons (eC (.int 0)) (aCons (eC (.int 7)) aNil))))))) (eCall zi (aCons (eVar 1) (aCons (eOp oSub (eC (.int 6)) (eOp oMulI (eC (.int 2)) (eCall bInt (aCons (eOp oGt (eVar 2) (eC (.int 2))) aNil)))) aNil))))) aNil)))
 (sSeq (sSet 3 (eComp (iR1 (aCons (eVar 1) aNil)) 1 [2] (gN 0) bYes (eOp oAdd (eSl (eVar 1) (pSome (eVar 0)) pNone) (eSl (eVar 1) pNone (pSome (eVar 0))))))
 (sRet (eCall zbd (aCons (eOp oAdd (eLst (aCons (eVar 2) aNil)) (eOp oIx (eLst (aCons (eVar 3) (aCons (eLst aNil) aNil))) (eCall zi (aCons (eVar 0) (aCons (eC (.int 2)) aNil))))) aNil)))))
noncomputable def zee:DFn:=fnD 2 2 (sRet (eAnd (eOp oLe (eVar 1) (eOp oIx (eLst (aCons (eC (.int 10)) (aCons (eC (.int 24)) aNil))) (eCall bInt (aCons (eOp oLtT (eVar 0) (eC (.int 4))) aNil)))) (eOp oLe (eCall ze (aCons (eVar 0) (aCons (eVar 1) aNil))) (eC (.int 200)))))
noncomputable def zcn:DFn:=fnD 3 2 (sSeq (sSet 2 (eOp oIx (eLst (aCons (eC (.int 24)) (aCons (eC (.int 24)) (aCons (eC (.int 18)) (aCons (eC (.int 8)) (aCons (eC (.int 5)) (aCons (eC (.int 4)) (aCons (eC (.int 3)) (aCons (eC (.int 3)) (aCons (eC (.int 3)) (aCons (eC (.int 2)) aNil))))))))))) (eOp oSub (eVar 1) (eC (.int 1)))))
 (sRet (eOp oIx (eLst (aCons (eVar 2) (aCons (eCall zi (aCons (eVar 0) (aCons (eOp oAdd (eVar 2) (eC (.int 1))) aNil))) aNil))) (eCall bInt (aCons (eOp oGt (eCall zi (aCons (eVar 0) (aCons (eC (.int 3)) aNil))) (eC (.int 0))) aNil)))))
noncomputable def zib:SS:=(sDrop (eExtend (eVar 4) (aCons (eComp (iR1 (aCons (eOp oAdd (eVar 6) (eC (.int 1))) aNil)) 1 [5,6] (gN 0) bYes (eTup (aCons (eOp oAdd (eVar 1) (eTup (aCons (eVar 0) aNil))) (aCons (eOp oSub (eVar 2) (eVar 0)) aNil)))) aNil)))
noncomputable def zfa:SS:=(sSeq (sSet 4 (eLstM aNil))
 (sSeq (sFor (iSeq (eVar 2)) (gT 2 (gsCons (gN 5) (gsCons (gN 6) gsNil))) zib)
 (sSet 2 (eFz (eVar 4)))))
noncomputable def zfs:DFn:=fnD 7 2 (sSeq (sSet 2 (eLst (aCons (eTup (aCons (eTup aNil) (aCons (eVar 1) aNil))) aNil)))
 (sSeq (sFor (iR1 (aCons (eOp oSub (eVar 0) (eC (.int 1))) aNil)) (gN 3) zfa)
 (sRet (eComp (iSeq (eVar 2)) 2 [] (gT 2 (gsCons (gN 0) (gsCons (gN 1) gsNil))) bYes (eOp oAdd (eVar 0) (eTup (aCons (eVar 1) aNil)))))))
noncomputable def zgp:SS:=(sIf (eTru (eCall zde (aCons (eVar 2) (aCons (eCall zcm (aCons (eTup (aCons (eVar 4) aNil)) (aCons (eOp oSub (eVar 1) (eVar 3)) aNil))) aNil)))) (sRet (eC (.bl false))) sNx)
noncomputable def zgo:SS:=(sFor (iSeq (eCall zfs (aCons (eVar 0) (aCons (eVar 3) aNil)))) (gN 4) zgp)
noncomputable def zef:DFn:=fnD 5 3 (sSeq (sFor (iR1 (aCons (eVar 1) aNil)) (gN 3) zgo)
 (sRet (eC (.bl true))))
noncomputable def znt:SS:=(sSeq (sSet 5 (eCall zbh (aCons (eVar 3) (aCons (eVar 4) aNil))))
 (sIf (bOr (bNot (eTru (eCall zbr (aCons (eVar 5) aNil)))) (eB (eOp oNe (eVar 5) (eCall ze (aCons (eVar 3) (aCons (eVar 4) aNil)))))) (sRet (eC (.bl false))) sNx))
noncomputable def zns:SS:=(sIf (bAnd (eB (eOp oGt (eCall bLen (aCons (eVar 8) aNil)) (eC (.int 0)))) (eTru (eCall zee (aCons (eVar 7) (aCons (eCall bSum (aCons (eOp oIx (eVar 8) (eC (.int 0))) aNil)) aNil))))) (sSeq (sSet 5 (eCall zdk (aCons (eVar 7) (aCons (eVar 8) aNil))))
 (sIf (bOr (bNot (eTru (eCall bIsinst (aCons (eVar 5) (aCons (eC (.ty "bool")) aNil))))) (eB (eOp oNe (eVar 5) (eCall zef (aCons (eVar 7) (aCons (eCall bSum (aCons (eOp oIx (eVar 8) (eC (.int 0))) aNil)) (aCons (eVar 8) aNil))))))) (sRet (eC (.bl false))) sNx)) sNx)
noncomputable def ztk:SS:=(sSeq (sSet 2 (eCall zeo (aCons (eVar 0) (aCons (eVar 1) aNil))))
 (sSeq (sFor (iSeq (eLst (aCons (eTup (aCons (eOp oAdd (eC (.int 1)) (eCall zi (aCons (eVar 2) (aCons (eC (.int 10)) aNil)))) (aCons (eCall zi (aCons (eVar 2) (aCons (eC (.int 30)) aNil))) aNil))) (aCons (eTup (aCons (eOp oAdd (eC (.int 1)) (eCall zi (aCons (eVar 2) (aCons (eC (.int 10)) aNil)))) (aCons (eCall zi (aCons (eVar 2) (aCons (eOp oPow (eC (.int 10)) (eC (.int 40))) aNil))) aNil))) aNil)))) (gT 2 (gsCons (gN 3) (gsCons (gN 4) gsNil))) znt)
 (sSeq (sSet 3 (eCall zca (aCons (eVar 2) aNil)))
 (sSeq (sSet 6 (eLst (aCons (eTup (aCons (eVar 3) (aCons (eCall zcl (aCons (eVar 2) (aCons (eVar 3) (aCons (eCall zcn (aCons (eVar 2) (aCons (eVar 3) aNil))) (aCons (eC (.int 5)) aNil))))) aNil))) (aCons (eTup (aCons (eCall bMin2 (aCons (eVar 3) (aCons (eC (.int 3)) aNil))) (aCons (eCall zed (aCons (eVar 2) (aCons (eCall bMin2 (aCons (eVar 3) (aCons (eC (.int 3)) aNil))) aNil))) aNil))) aNil))))
 (sSeq (sIf (eB (eOp (oIsB true) (eCall zdk (aCons (eVar 3) (aCons (eTup aNil) aNil))) (eC (.bl true)))) (sRet (eC (.bl false))) sNx)
 (sFor (iSeq (eVar 6)) (gT 2 (gsCons (gN 7) (gsCons (gN 8) gsNil))) zns))))))
noncomputable def F_k55:DFn:=fnD 9 1 (sSeq (sFor (iR1 (aCons (eOp oAdd (eCall bMin2 (aCons (eC (.int 3)) (aCons (eCall bLen (aCons (eVar 0) aNil)) aNil))) (eC (.int 1))) aNil)) (gN 1) ztk)
 (sRet (eC (.bl true))))
end Dd
set_option maxHeartbeats 4000000
namespace Dd
open PySem L2
noncomputable def RngOk (j:Int):Prop:=-(2 ^ 62)≤j∧j < 2 ^ 62
noncomputable instance (j:Int):Decidable (RngOk j):=by unfold RngOk;infer_instance
theorem rngOk {j:Int} (h1:-1000000000000≤j) (h2:j≤1000000000000):RngOk j:=⟨by (first|assumption|lia),by (first|assumption|lia)⟩
section
variable {σ:DS} {st:Store}
@[simp] theorem eC_v {d:D}:eC d σ st=.ok d st:=rfl
@[simp] theorem eVar_v {i:Nat}:eVar i σ st=(match σ[i]? with
 | some (some d)=>.ok d st
 | _=>.stuck):=rfl
@[simp] theorem eOp_v {g:D→D→Store→Res D} {f f':SE}:eOp g f f' σ st=(f σ st).bind fun x st1=>(f' σ st1).bind fun y st2=>g x y st2:=rfl
@[simp] theorem eUn_v {g:D→Store→Res D} {f:SE}:eUn g f σ st=(f σ st).bind fun x st1=>g x st1:=rfl
@[simp] theorem zxi {g:List D→Store→Res D} {f:SA}:eCall g f σ st=(f σ st).bind fun xs st1=>g xs st1:=rfl
@[simp] theorem aNil_v:aNil σ st=.ok [] st:=rfl
@[simp] theorem ztj {f:SE} {g:SA}:aCons f g σ st=(f σ st).bind fun x st1=>(g σ st1).bind fun xs st2=>.ok (x::xs) st2:=rfl
@[simp] theorem eB_v {f:SE}:eB f σ st=(f σ st).bind fun v st1=>(match v with
 | .bl b=>.ok b st1
 | _=>.stuck):=rfl
@[simp] theorem eTru_v {f:SE}:eTru f σ st=(f σ st).bind fun v st1=>(match tru st1 v with
 | some b=>.ok b st1
 | none=>.stuck):=rfl
@[simp] theorem eAnd_v {f f':SE}:eAnd f f' σ st=(f σ st).bind fun v st1=>(match v with
 | .bl true=>f' σ st1
 | .bl false=>.ok (.bl false) st1
 | _=>.stuck):=rfl
@[simp] theorem eOr_v {f f':SE}:eOr f f' σ st=(f σ st).bind fun v st1=>(match v with
 | .bl true=>.ok (.bl true) st1
 | .bl false=>f' σ st1
 | _=>.stuck):=rfl
@[simp] theorem eNot_v {f:SE}:eNot f σ st=(f σ st).bind fun v st1=>(match v with
 | .bl b=>.ok (.bl (!b)) st1
 | _=>.stuck):=rfl
@[simp] theorem bAnd_v {f f':ST}:bAnd f f' σ st=(f σ st).bind fun b st1=>if b=true then f' σ st1 else .ok false st1:=rfl
@[simp] theorem bOr_v {f f':ST}:bOr f f' σ st=(f σ st).bind fun b st1=>if b=true then .ok true st1 else f' σ st1:=rfl
@[simp] theorem bNot_v {f:ST}:bNot f σ st=(f σ st).bind fun b st1=>.ok (!b) st1:=rfl
@[simp] theorem bYes_v:bYes σ st=.ok true st:=rfl
@[simp] theorem eIf_v {c:ST} {f f':SE}:eIf c f f' σ st=(c σ st).bind fun b st1=>if b=true then f σ st1 else f' σ st1:=rfl
@[simp] theorem eTup_v {g:SA}:eTup g σ st=(g σ st).bind fun xs st1=>if xs.length≤sizeLine then .ok (.tup xs) st1 else .stuck:=rfl
@[simp] theorem eLst_v {g:SA}:eLst g σ st=(g σ st).bind fun xs st1=>if xs.length≤sizeLine then .ok (.lst xs) st1 else .stuck:=rfl
@[simp] theorem zbcw {g:SA}:eLstM g σ st=(g σ st).bind fun xs st1=>if xs.length≤sizeLine then .ok (.ref st1.length) (st1++[.lst xs]) else .stuck:=rfl
@[simp] theorem zbee {g g':D→D→Store→Res D} {f f' f'':SE}:eChain g g' f f' f'' σ st=(f σ st).bind fun x st1=>(f' σ st1).bind fun y st2=>(g x y st2).bind fun z st3=>(match z with
 | .bl true=>(f'' σ st3).bind fun w st4=>g' y w st4
 | .bl false=>.ok (.bl false) st3
 | _=>.stuck):=rfl
@[simp] theorem zbep:eDNew σ st=.ok (.ref st.length) (st++[.dT []]):=rfl
@[simp] theorem sNx_v:sNx σ st=.ok (.nx σ) st:=rfl
@[simp] theorem sBrk_v:sBrk σ st=.ok (.brk σ) st:=rfl
@[simp] theorem sRet_v {f:SE}:sRet f σ st=(f σ st).bind fun v st1=>.ok (.ret v) st1:=rfl
@[simp] theorem zbek:sRetN σ st=.ok (.ret .non) st:=rfl
@[simp] theorem zbel {f:SE}:sDrop f σ st=(f σ st).bind fun _ st1=>.ok (.nx σ) st1:=rfl
@[simp] theorem sSet_v {i:Nat} {f:SE}:sSet i f σ st=(f σ st).bind fun v st1=>.ok (.nx (σ.set i (some v))) st1:=rfl
@[simp] theorem sSeq_v {s t:SS}:sSeq s t σ st=(match s σ st with
 | .ok (.nx σ1) st1=>t σ1 st1
 | r=>r):=rfl
@[simp] theorem sIf_v {c:ST} {s t:SS}:sIf c s t σ st=(c σ st).bind fun b st1=>if b=true then s σ st1 else t σ st1:=rfl
@[simp] theorem sAug_v {i:Nat} {g:D→D→Store→Res D} {f:SE}:sAug i g f σ st=(match σ[i]? with
 | some (some x)=>(f σ st).bind fun y st1=>(g x y st1).bind fun z st2=>.ok (.nx (σ.set i (some z))) st2
 | _=>.stuck):=rfl
@[simp] theorem sFor_v {it:SA} {bd:SG} {body:SS}:sFor it bd body σ st=(it σ st).bind fun xs st1=>forF bd body xs σ st1:=rfl
@[simp] theorem iSeq_v {f:SE}:iSeq f σ st=(f σ st).bind fun x st1=>(match seqV x with
 | some xs=>.ok xs st1
 | none=>.stuck):=rfl
@[simp] theorem iR1_v {g:SA}:iR1 g σ st=(g σ st).bind fun xs st1=>(match xs with
 | [.int j]=>if RngOk j then .ok (rng 0 j.toNat) st1 else .stuck
 | _=>.stuck):=rfl
@[simp] theorem iR2_v {g : SA} : iR2 g σ st = (g σ st).bind fun xs st1 => (match xs with
  | [.int i, .int j] => if RngOk i ∧ RngOk j then .ok (rng i (j - i).toNat) st1 else .stuck
  | _ => .stuck) := by
  show (g σ st).bind _ = _
  congr 1
  funext xs st1
  split
  · unfold RngOk
    simp only [and_assoc]
  · rename_i h
    first
      | rfl
      | (split
         · rename_i i j
           exact absurd rfl (h i j)
         · rfl)
@[simp] theorem zben {f:SE}:iDict f σ st=(f σ st).bind fun x st1=>(match x with
 | .ref n=>(match st1[n]? with
  | some (.dT kvs)=>.ok (rowsD (kvs.map (·.1))) (st1.set n (.fT kvs))
  | _=>.stuck)
 | _=>.stuck):=rfl
@[simp] theorem zxh {it:SA} {k:Nat} {is:List Nat} {bd:SG} {c:ST} {f:SE}:eComp it k is bd c f σ st=(it σ st).bind fun xs st1=>if xs.length≤sizeLine then (compF bd c f xs (startD k is σ) st1).bind fun ys st2=>.ok (.lst ys) st2 else .stuck:=rfl
@[simp] theorem eFz_v {f:SE}:eFz f σ st=(f σ st).bind fun x st1=>(match x with
 | .ref n=>(match st1[n]? with
  | some (.lst xs)=>.ok (.lst xs) (st1.set n .dead)
  | _=>.stuck)
 | _=>.stuck):=rfl
@[simp] theorem zbem:pNone σ st=.ok none st:=rfl
@[simp] theorem zbbv {f:SE}:pSome f σ st=(f σ st).bind fun v st1=>(match v with
 | .int i=>.ok (some i) st1
 | _=>.stuck):=rfl
@[simp] theorem eSl_v {f:SE} {lo hi:DS→Store→Res (Option Int)}:eSl f lo hi σ st=(f σ st).bind fun x st1=>(lo σ st1).bind fun l st2=>(hi σ st2).bind fun h st3=>(match x with
 | .tup xs=>.ok (.tup (cutD xs l h)) st3
 | x=>match asL st3 x with
  | some xs=>.ok (.lst (cutD xs l h)) st3
  | none=>.stuck):=rfl
@[simp] theorem zvn {f:SE} {g:SA}:eAppend f g σ st=(f σ st).bind fun x st1=>(match x,asL st1 x with
 | .ref n,some _=>(g σ st1).bind fun ys st2=>(match ys,st2[n]? with
  | [y],some (.lst xs)=>if xs.length < sizeLine then .ok .non (st2.set n (.lst (xs++[y]))) else .stuck
  | _,_=>.stuck)
 | _,_=>.stuck):=rfl
@[simp] theorem zvm {f:SE} {g:SA}:eExtend f g σ st=(f σ st).bind fun x st1=>(match x,asL st1 x with
 | .ref n,some _=>(g σ st1).bind fun ys st2=>(match ys,st2[n]? with
  | [y],some (.lst xs)=>(match asL st2 y with
   | some zs=>if xs.length+zs.length≤sizeLine then .ok .non (st2.set n (.lst (xs++zs))) else .stuck
   | none=>.stuck)
  | _,_=>.stuck)
 | _,_=>.stuck):=rfl
@[simp] theorem zyd {f g h:SE}:sSetIx f g h σ st=(h σ st).bind fun v st1=>(f σ st1).bind fun x st2=>(g σ st2).bind fun y st3=>(match x,y with
 | .ref n,.int k=>(match st3[n]? with
  | some (.lst xs)=>(match ixN xs.length k with
   | some j=>.ok (.nx σ) (st3.set n (.lst (xs.set j v)))
   | none=>.stuck)
  | _=>.stuck)
 | _,_=>.stuck):=rfl
@[simp] theorem zzq {f g h:SE}:eDGet2 f g h σ st=(f σ st).bind fun x st1=>(match pairsOf st1 x with
 | some _=>(g σ st1).bind fun y st2=>(h σ st2).bind fun z st3=>(match pairsOf st3 x,keyOf y with
  | some kvs,some k=>.ok ((valD kvs k).getD z) st3
  | _,_=>.stuck)
 | none=>.stuck):=rfl
@[simp] theorem zbeo {f g:SE}:eDPop f g σ st=(f σ st).bind fun x st1=>(match pairsOf st1 x with
 | some _=>(g σ st1).bind fun y st2=>(match x,keyOf y with
  | .ref n,some k=>(match st2[n]? with
   | some (.dT kvs)=>(match valD kvs k with
    | some v=>.ok v (st2.set n (.dT (dropD kvs k)))
    | none=>.stuck)
   | _=>.stuck)
  | _,_=>.stuck)
 | none=>.stuck):=rfl
@[simp] theorem zbbb {f g h:SE}:sDPut f g h σ st=(h σ st).bind fun v st1=>(f σ st1).bind fun x st2=>(g σ st2).bind fun y st3=>(match x,keyOf y with
 | .ref n,some k=>(match st3[n]? with
  | some (.dT kvs)=>if kvs.length < sizeLine then .ok (.nx σ) (st3.set n (.dT (putD kvs k v))) else .stuck
  | _=>.stuck)
 | _,_=>.stuck):=rfl
theorem fnD_v {n np:Nat} {b:SS} {ds:List D}:fnD n np b ds st=if ds.length=np then (match b (ds.map some++List.replicate (n - np) none) st with
 | .ok (.ret v) st'=>.ok v st'
 | .ok (.nx _) st'=>.ok .non st'
 | .exc x st'=>.exc x st'
 | _=>.stuck) else .stuck:=rfl
end
section
variable {st:Store} {i j:Int}
@[simp] theorem oI_v {C:Int→Int→Prop} [DecidableRel C] {h:Int→Int→D}:oI C h (.int i) (.int j) st=if C i j then .ok (h i j) st else .stuck:=rfl
@[simp] theorem oAdd_i:oAdd (.int i) (.int j) st=.ok (.int (i+j)) st:=rfl
@[simp] theorem oAdd_t {a b:List D}:oAdd (.tup a) (.tup b) st=if a.length+b.length≤sizeLine then .ok (.tup (a++b)) st else .stuck:=rfl
@[simp] theorem oLtT_i:oLtT (.int i) (.int j) st=.ok (.bl (decide (i < j))) st:=rfl
@[simp] theorem oNeg_i:oNeg (.int i) st=.ok (.int (-i)) st:=rfl
@[simp] theorem zbz (ns:List Int):asInts (ns.map .int)=some ns:=by
 induction ns with
 | nil=>rfl
 | cons n ns ih=>rw[List.map_cons,asInts,ih];rfl
@[simp] theorem zbdx (l:List (List Int)):asRows (rowsD l)=some l:=by
 induction l with
 | nil=>rfl
 | cons n ns ih =>
  unfold rowsD at ih ⊢
  rw[List.map_cons,asRows,zbz,ih];rfl
@[simp] theorem zfn (ns:List Int):keyOf (rowD ns)=some ns:=zbz ns
theorem zkj:dataOf st (.int i)=some (.int i):=rfl
@[simp] theorem oEq_i:oEq (.int i) (.int j) st=.ok (.bl (decide (i=j))) st:=by
 show oEqG false (.int i) (.int j) st=_
 unfold oEqG
 rw[zkj,zkj]
 dsimp only
 rw[if_pos ⟨rfl,rfl⟩]
 show Res.ok (D.bl (i == j)) st=_
 rw[show (i == j)=decide (i=j) from by rw[Bool.eq_iff_iff];simp]
@[simp] theorem oNe_i:oNe (.int i) (.int j) st=.ok (.bl (!decide (i=j))) st:=by
 show oEqG true (.int i) (.int j) st=_
 unfold oEqG
 rw[zkj,zkj]
 dsimp only
 rw[if_pos ⟨rfl,rfl⟩]
 show Res.ok (D.bl (!(i == j))) st=_
 rw[show (i == j)=decide (i=j) from by rw[Bool.eq_iff_iff];simp]
theorem zow (ns:List Int):toDatas (ns.map .int)=some (dI ns):=by
 induction ns with
 | nil=>rfl
 | cons n ns ih=>rw[List.map_cons,toDatas,ih];rfl
theorem zvs (l:List (List Int)):toDatas (rowsD l)=some (l.map dRow):=by
 induction l with
 | nil=>rfl
 | cons n ns ih =>
  unfold rowsD at ih ⊢
  rw[List.map_cons,toDatas,ih,toData,zow];rfl
noncomputable abbrev sumD (l:List (List Int)):D:=.tup (rowsD l)
theorem znj (l:List (List Int)):dataOf st (sumD l)=some (.tuple (l.map dRow)):=by
 show (toDatas (rowsD l)).map PyData.tuple=_
 rw[zvs];rfl
theorem zzy (l:List Int):dataOf st (rowD l)=some (dRow l):=by
 show (toDatas (l.map .int)).map PyData.tuple=_
 rw[zow];rfl
theorem zbce {neg:Bool} (a b:List (List Int)):oEqG neg (sumD a) (sumD b) st=.ok (.bl (if neg then !decide (a=b) else decide (a=b))) st:=by
 unfold oEqG
 rw[znj,znj]
 dsimp only
 rw[if_pos ⟨zey a,zey b⟩]
 have e:PyData.eqv (.tuple (a.map dRow)) (.tuple (b.map dRow))=decide (a=b):=zoy a b
 rw[e]
theorem small (n:Nat) (h:n≤1000000):n≤sizeLine:=by rw[sizeLine_eq];(first|assumption|lia)
theorem smallT (n:Nat) (h:n≤1000000):n < sizeLine:=by rw[sizeLine_eq];(first|assumption|lia)
end
theorem zxf {bd:SG} {body:SS} (I:Nat→DS→Store→Prop):∀(xs:List D) (k:Nat) (σ:DS) (st:Store),I k σ st →
  (∀i x σ st,xs[i]?=some x→I (k+i) σ st→∃σ1 σ2 st2,bd x σ=some σ1∧body σ1 st=.ok (.nx σ2) st2∧I (k+i+1) σ2 st2)→∃σ' st',forF bd body xs σ st=.ok (.nx σ') st'∧I (k+xs.length) σ' st'
 | [],k,σ,st,h,_=>⟨σ,st,rfl,h⟩
 | x::xs,k,σ,st,h,s=>by
  obtain ⟨σ1,σ2,st2,e1,e2,h2⟩:=s 0 x σ st rfl h
  obtain ⟨σ',st',e3,h3⟩:=zxf I xs (k+1) σ2 st2 h2 fun i y σ st hy hi=>by
   have:=s (i+1) y σ st (by simpa using hy) (by rw[show k+(i+1)=k+1+i by (first|assumption|lia)];exact hi)
   rw[show k+(i+1)+1=k+1+i+1 by (first|assumption|lia)] at this
   exact this
  refine ⟨σ',st',?_,by rw[List.length_cons,show k+(xs.length+1)=k+1+xs.length by (first|assumption|lia)];exact h3⟩
  unfold forF
  rw[e1]
  dsimp only
  rw[e2]
  exact e3
theorem for_ok {bd:SG} {body:SS} (I:Nat→DS→Store→Prop) {xs:List D} {σ:DS} {st:Store} (h0:I 0 σ st)
  (s:∀i x σ st,xs[i]?=some x→I i σ st→∃σ1 σ2 st2,bd x σ=some σ1∧body σ1 st=.ok (.nx σ2) st2∧I (i+1) σ2 st2):∃σ' st',forF bd body xs σ st=.ok (.nx σ') st'∧I xs.length σ' st':=by
 have:=zxf I xs 0 σ st h0 fun i x σ st hx hi=>by
  rw[Nat.zero_add] at hi ⊢
  exact s i x σ st hx hi
 rw[Nat.zero_add] at this
 exact this
theorem rng_at {lo:Int} {n i:Nat} {x:D} (h:(rng lo n)[i]?=some x):i < n∧x=.int (lo+i):=zfg h
theorem zx (lo:Int) (n:Nat):(rng lo n).length=n:=by simp[rng]
theorem znl {bd:SG} {c:ST} {f:SE} (I:Nat→List D→DS→Store→Prop):∀(xs:List D) (k:Nat) (acc:List D) (σ:DS) (st:Store),I k acc σ st →
  (∀i x acc σ st,xs[i]?=some x→I (k+i) acc σ st→∃σ1 b st1,bd x σ=some σ1∧c σ1 st=.ok b st1∧((b=false∧I (k+i+1) acc σ1 st1)∨(b=true∧∃y st2,f σ1 st1=.ok y st2∧I (k+i+1) (acc++[y]) σ1 st2))) →
  ∃ys σ' st',compF bd c f xs σ st=.ok ys st'∧I (k+xs.length) (acc++ys) σ' st'
 | [],k,acc,σ,st,h,_=>⟨[],σ,st,rfl,by rw[List.append_nil];exact h⟩
 | x::xs,k,acc,σ,st,h,s=>by
  have s':∀i y acc σ st,xs[i]?=some y→I (k+1+i) acc σ st→∃σ1 b st1,bd y σ=some σ1∧c σ1 st=.ok b st1∧((b=false∧I (k+1+i+1) acc σ1 st1)∨(b=true∧∃z st2,f σ1 st1=.ok z st2∧I (k+1+i+1) (acc++[z]) σ1 st2)):=fun i y acc σ st hy hi=>by
   have:=s (i+1) y acc σ st (by simpa using hy) (by rw[show k+(i+1)=k+1+i by (first|assumption|lia)];exact hi)
   rw[show k+(i+1)+1=k+1+i+1 by (first|assumption|lia)] at this
   exact this
  obtain ⟨σ1,b,st1,e1,e2,h2⟩:=s 0 x acc σ st rfl h
  rcases h2 with ⟨rfl,h2⟩ | ⟨rfl,y,st2,e3,h2⟩
  ·obtain ⟨ys,σ',st',e4,h3⟩:=znl I xs (k+1) acc σ1 st1 h2 s'
   refine ⟨ys,σ',st',?_,by rw[List.length_cons,show k+(xs.length+1)=k+1+xs.length by (first|assumption|lia)];exact h3⟩
   unfold compF
   rw[e1]
   dsimp only
   rw[e2]
   exact e4
  ·obtain ⟨ys,σ',st',e4,h3⟩:=znl I xs (k+1) (acc++[y]) σ1 st2 h2 s'
   refine ⟨y::ys,σ',st',?_,by rw[List.length_cons,show k+(xs.length+1)=k+1+xs.length by (first|assumption|lia)];rw[List.append_assoc] at h3;exact h3⟩
   unfold compF
   rw[e1]
   dsimp only
   rw[e2]
   dsimp only [zgn]
   rw[if_pos rfl,e3]
   dsimp only [zgn]
   rw[e4]
   rfl
theorem zbdq {bd:SG} {c:ST} {f:SE} (I:Nat→List D→DS→Store→Prop) {xs:List D} {σ:DS} {st:Store} (h0:I 0 [] σ st)
  (s:∀i x acc σ st,xs[i]?=some x→I i acc σ st→∃σ1 b st1,bd x σ=some σ1∧c σ1 st=.ok b st1∧((b=false∧I (i+1) acc σ1 st1)∨(b=true∧∃y st2,f σ1 st1=.ok y st2∧I (i+1) (acc++[y]) σ1 st2))) :
  ∃ys σ' st',compF bd c f xs σ st=.ok ys st'∧I xs.length ys σ' st':=by
 have:=znl I xs 0 [] σ st h0 fun i x acc σ st hx hi=>by
  rw[Nat.zero_add] at hi ⊢
  exact s i x acc σ st hx hi
 rw[Nat.zero_add] at this
 simpa using this
end Dd
set_option maxHeartbeats 4000000
namespace Dd
open PySem L2
theorem ztl {c:ST} {body:SS} (I:Nat→DS→Store→Prop) (post:DS→Store→Prop) {σ:DS} {st:Store} {k:Nat} (h0:I k σ st) (hm:k < wCap)
  (s:∀j σ st,I j σ st→∃b st1,c σ st=.ok b st1∧((b=false∧post σ st1)∨(b=true∧∃i σ2 st2,body σ st1=.ok (.nx σ2) st2∧I i σ2 st2∧i < j))):∃σ' st',sWhile c body σ st=.ok (.nx σ') st'∧post σ' st':=by
 have main:∀n j σ st,I j σ st→j < n→∃σ' st',whileF c body n σ st=.ok (.nx σ') st'∧post σ' st':=by
  intro n
  induction n with
  | zero=>intro j σ st _ h;(first|assumption|lia)
  | succ n ih =>
   intro j σ st hI hlt
   obtain ⟨b,st1,e1,h⟩:=s j σ st hI
   unfold whileF
   rw[e1]
   dsimp only [zgn]
   rcases h with ⟨rfl,h⟩ | ⟨rfl,i,σ2,st2,e2,h2,h3⟩
   ·exact ⟨σ,st1,by rw[if_neg (by decide)],h⟩
   ·obtain ⟨σ',st',e3,h4⟩:=ih i σ2 st2 h2 (by (first|assumption|lia))
    refine ⟨σ',st',?_,h4⟩
    rw[if_pos rfl,e2]
    exact e3
 exact main wCap k σ st h0 hm
section
variable {st:Store} {n:Nat} {xs:List D} {i:Int}
@[simp] theorem zbdy:seqOf st (.tup xs)=some xs:=rfl
@[simp] theorem zbdz:seqOf st (.scr xs)=some xs:=rfl
@[simp] theorem zbea:seqOf st (.lst xs)=some xs:=rfl
@[simp] theorem zbeb:seqV (.tup xs)=some xs:=rfl
@[simp] theorem zbed:seqV (.lst xs)=some xs:=rfl
@[simp] theorem zbec:seqV (.scr xs)=some xs:=rfl
@[simp] theorem zbeq:asL st (.lst xs)=some xs:=rfl
theorem zmi (h:st[n]?=some (.lst xs)):asL st (.ref n)=some xs:=by
 unfold asL
 dsimp only
 rw[h]
theorem zoe (h:st[n]?=some (.lst xs)):seqOf st (.ref n)=some xs:=zmi h
theorem oIx_of {x:D} {d:D} (h:seqOf st x=some xs) (h2:L2.atI xs i=some d):oIx x (.int i) st=.ok d st:=by
 unfold oIx
 rw[h]
 dsimp only
 rw[h2]
@[simp] theorem zbeh:bLen [.tup xs] st=.ok (.int xs.length) st:=rfl
@[simp] theorem zbej:bLen [.lst xs] st=.ok (.int xs.length) st:=rfl
@[simp] theorem zbei:bLen [.scr xs] st=.ok (.int xs.length) st:=rfl
@[simp] theorem bAbs_v:bAbs [.int i] st=.ok (.int (if i < 0 then -i else i)) st:=rfl
@[simp] theorem b2I_v {g:Int→Int→Int} {j:Int}:b2I g [.int i,.int j] st=.ok (.int (g i j)) st:=rfl
@[simp] theorem zbeg {ns:List Int}:bSum [rowD ns] st=.ok (.int ns.sum) st:=by
 unfold bSum
 simp
@[simp] theorem zbdv:bTuple [.tup xs] st=.ok (.tup xs) st:=rfl
@[simp] theorem ztf:bTuple [.lst xs] st=.ok (.tup xs) st:=rfl
theorem znp {l:List (List Int)} (h:l.length≤1000000):bSorted [.lst (rowsD l)] st=.ok (.lst (rowsD (sortR l))) st:=by
 unfold bSorted
 simp[h]
theorem znq {kvs:List (List Int × D)} (h:st[n]?=some (.dT kvs)) (hl:kvs.length≤1000000):bSorted [.ref n] st=.ok (.lst (rowsD (sortR (kvs.map (·.1))))) st:=by
 unfold bSorted asL pairsOf
 simp[h,hl]
theorem zkr {j:Nat} {d:D} (h:xs[j]?=some d):L2.atI xs (j:Int)=some d:=zxo h
theorem zla {o:O} (h:n < st.length):(st.set n o)[n]?=some o:=List.getElem?_set_self h
theorem zcd {o:O} (h:st[n]?=some o):n < st.length:=(List.getElem?_eq_some_iff.mp h).1
theorem set_eq {o:O} (h:st[n]?=some o):st.set n o=st:=by
 apply List.ext_getElem?
 intro i
 by_cases e:i=n
 ·subst e;rw[List.getElem?_set_self (zcd h),h]
 ·rw[List.getElem?_set_ne (Ne.symm e)]
end
theorem fn_ret {n np:Nat} {b:SS} {ds:List D} {st st':Store} {v:D} (h:ds.length=np) (e:b (ds.map some++List.replicate (n - np) none) st=.ok (.ret v) st'):fnD n np b ds st=.ok v st':=by
 rw[fnD_v,if_pos h,e]
theorem fn_nx {n np:Nat} {b:SS} {ds:List D} {st st':Store} {σ:DS} (h:ds.length=np) (e:b (ds.map some++List.replicate (n - np) none) st=.ok (.nx σ) st'):fnD n np b ds st=.ok .non st':=by
 rw[fnD_v,if_pos h,e]
noncomputable abbrev bagO (c x:Int):O:=.lst [.int c,.int x]
noncomputable def BagAt (st:Store) (n:Nat):Prop:=∃c x:Int,st[n]?=some (bagO c x)∧0≤c∧0≤x
structure Drew (st st':Store) (n:Nat):Prop where
 len:st.length≤st'.length
 keep : ∀ i, i < st.length → i ≠ n → st'[i]? = st[i]?
 bag:BagAt st' n
theorem Drew.refl {st:Store} {n:Nat} (h:BagAt st n):Drew st st n:=⟨Nat.le_refl _,fun _ _ _=>rfl,h⟩
theorem Drew.trans {st st1 st2:Store} {n:Nat} (a:Drew st st1 n) (b:Drew st1 st2 n):Drew st st2 n :=
 ⟨Nat.le_trans a.len b.len,fun i h1 h2=>(b.keep i (Nat.lt_of_lt_of_le h1 a.len) h2).trans (a.keep i h1 h2),b.bag⟩
theorem Drew.set {st:Store} {n:Nat} {c x:Int} (h:BagAt st n) (hc:0≤c) (hx:0≤x):Drew st (st.set n (bagO c x)) n:=by
 obtain ⟨_,_,e,_⟩:=h
 exact ⟨by rw[List.length_set];exact Nat.le_refl _,fun i _ h2=>List.getElem?_set_ne (Ne.symm h2),c,x,zla (zcd e),hc,hx⟩
theorem Drew.more {st:Store} {n:Nat} (h:BagAt st n) (g:Store):Drew st (st++g) n:=by
 obtain ⟨c,x,e,h1,h2⟩:=h
 exact ⟨by rw[List.length_append];(first|assumption|lia),fun i h _=>List.getElem?_append_left h,c,x,by rw[List.getElem?_append_left (zcd e)];exact e,h1,h2⟩
theorem zwh {st:Store} {n:Nat} {m:Int} (hb:BagAt st n) (h1:1≤m) (h2:m < 2 ^ 1000) :
  ∃r st',zi [.ref n,.int m] st=.ok (.int r) st'∧0≤r∧r < m∧Drew st st' n∧st'.length=st.length:=by
 obtain ⟨c,x,hn,hc,hx⟩:=id hb
 have s0:∀{c x:Int} {st:Store},st[n]?=some (bagO c x)→oIx (.ref n) (.int 0) st=.ok (.int c) st:=fun h=>oIx_of (zoe h) rfl
 have s1:∀{c x:Int} {st:Store},st[n]?=some (bagO c x)→oIx (.ref n) (.int 1) st=.ok (.int x) st:=fun h=>oIx_of (zoe h) rfl
 by_cases h0:0 < c
 ·have d1:CDivP c m:=⟨by (first|assumption|lia),h2⟩
  have e0:ixN 2 0=some 0:=rfl
  refine ⟨c % m,st.set n (bagO (c / m) x),fn_ret rfl ?_,Int.emod_nonneg _ (by (first|assumption|lia)),Int.emod_lt_of_pos _ (by (first|assumption|lia)),Drew.set hb (Int.ediv_nonneg hc (by (first|assumption|lia))) hx,List.length_set⟩
  simp[s0 hn,h0,hn,e0,show (0:Int) < m by (first|assumption|lia),d1]
 ·have hlen:=zcd hn
  have W:=ztl (c:=eB (eOp oLtT (eVar 4) (eVar 1))) (body:=sSeq (sSetIx (eVar 0) (eC (.int 1)) (eOp oMod (eOp oAdd (eOp oMulI (eOp oIx (eVar 0) (eC (.int 1))) (eC (.int 48271))) (eC (.int 7919))) (eC (.int 2147483647))))
   (sSeq (sSet 3 (eOp oAdd (eOp oMulI (eVar 3) (eC (.int 1073741789))) (eOp oMod (eOp oMulI (eOp oFdiv (eOp oIx (eVar 0) (eC (.int 1))) (eC (.int 8))) (eC (.int 69621))) (eC (.int 1073741789)))))
   (sSet 4 (eOp oMulI (eVar 4) (eC (.int 1073741789)))))) (k:=1000) (σ:=[some (.ref n),some (.int m),none,some (.int 0),some (.int 1)]) (st:=st)
   (fun j σ s=>∃c' x' nn rr:Int,σ=[some (.ref n),some (.int m),none,some (.int nn),some (.int rr)]∧s=st.set n (bagO c' x')∧0≤c'∧0≤x'∧0≤nn∧j≤1000∧2 ^ (1000 - j)≤rr)
   (fun σ s=>∃c' x' nn:Int,(∃rr,σ=[some (.ref n),some (.int m),none,some (.int nn),some (.int rr)])∧s=st.set n (bagO c' x')∧0≤c'∧0≤x'∧0≤nn)
   ⟨c,x,0,1,rfl,(set_eq hn).symm,hc,hx,by (first|assumption|lia),by (first|assumption|lia),by decide⟩ (by decide) (by
    rintro j σ s ⟨c',x',nn,rr,rfl,rfl,a1,a2,a3,a4,a5⟩
    have g1:(st.set n (bagO c' x'))[n]?=some (bagO c' x'):=zla hlen
    by_cases hlt:rr < m
    ·have hj:1≤j:=by
      rcases Nat.eq_zero_or_pos j with z | z
      ·subst z
       have a5':(2:Int) ^ 1000≤rr:=a5
       (first|assumption|lia)
      ·exact z
     have e1:ixN 2 1=some 1:=rfl
     have m1:CMul x' 48271:=.inr ⟨by decide,by decide⟩
     have m2:CMul nn 1073741789:=.inr ⟨by decide,by decide⟩
     have m3:CMul rr 1073741789:=.inr ⟨by decide,by decide⟩
     have g2:∀y:Int,(st.set n (bagO c' y))[n]?=some (bagO c' y):=fun y=>zla hlen
     have m4:∀y:Int,CMul y 69621:=fun y=>.inr ⟨by decide,by decide⟩
     have d8:∀y:Int,CDivP y 8:=fun y=>⟨by decide,by decide +kernel⟩
     refine ⟨true,st.set n (bagO c' x'),by simp[hlt],.inr ⟨rfl,j - 1,_,st.set n (bagO c' ((x' * 48271+7919) % 2147483647)),?_,⟨c',(x' * 48271+7919) % 2147483647,nn * 1073741789+(x' * 48271+7919) % 2147483647 / 8 * 69621 % 1073741789,rr * 1073741789,rfl,rfl,a1,?_,?_,by (first|assumption|lia),?_⟩,by (first|assumption|lia)⟩⟩
     ·simp[s1 g1,g1,e1,m1,m2,m3,m4,d8,s1 (g2 _)]
     ·exact Int.emod_nonneg _ (by (first|assumption|lia))
     ·have a1:0≤nn * 1073741789:=Int.mul_nonneg a3 (by (first|assumption|lia))
      have a2:=Int.emod_nonneg ((x' * 48271+7919) % 2147483647 / 8 * 69621) (show (1073741789:Int)≠0 by (first|assumption|lia))
      (first|assumption|lia)
     ·have e:(2:Int) ^ (1000 - (j - 1))=2 ^ (1000 - j) * 2:=by
       rw[← Int.pow_succ];congr 1;(first|assumption|lia)
      rw[e]
      have hp:(0:Int)≤2 ^ (1000 - j):=Int.pow_nonneg (by decide)
      (first|assumption|lia)
    ·exact ⟨false,_,by simp[hlt],.inl ⟨rfl,c',x',nn,⟨rr,rfl⟩,rfl,a1,a2,a3⟩⟩)
  obtain ⟨σ',st',e,c',x',nn,hσ,hst,k1,k2,k3⟩:=W
  obtain ⟨rr,rfl⟩:=hσ
  subst hst
  refine ⟨nn % m,st.set n (bagO c' x'),fn_ret rfl ?_,Int.emod_nonneg _ (by (first|assumption|lia)),Int.emod_lt_of_pos _ (by (first|assumption|lia)),Drew.set hb k1 k2,List.length_set⟩
  simp[s0 hn,h0,e,show (0:Int) < m by (first|assumption|lia)]
end Dd
set_option maxHeartbeats 4000000
namespace Dd
open PySem L2
theorem zmh {ns:List Int} {j:Nat} (h:j < ns.length):L2.atI (ns.map D.int) (j:Int)=some (.int ns[j]):=zxo (by rw[List.getElem?_map,List.getElem?_eq_getElem h];rfl)
theorem bag_ok {st:Store} {ns:List Int} {i:Nat} (hl:ns.length≤63) (hi:i≤100000):∃c x:Int,0≤c∧0≤x∧zeo [.scr (ns.map .int),.int i] st=.ok (.ref st.length) (st++[bagO c x]):=by
 have cell:∃c:Int,0≤c∧sIf (eB (eOp oLtT (eVar 1) (eCall bLen (aCons (eVar 0) aNil)))) (sSet 2 (eCall bAbs (aCons (eOp oIx (eVar 0) (eVar 1)) aNil))) sNx [some (.scr (ns.map .int)),some (.int i),some (.int 0),none,none] st
   = .ok (.nx [some (.scr (ns.map .int)),some (.int i),some (.int c),none,none]) st:=by
  by_cases h:i < ns.length
  ·have e:oIx (.scr (ns.map .int)) (.int i) st=.ok (.int ns[i]) st:=oIx_of rfl (zmh h)
   refine ⟨if ns[i] < 0 then -ns[i] else ns[i],by split<;>(first|assumption|lia),?_⟩
   simp[h,e]
  ·exact ⟨0,by (first|assumption|lia),by simp[h]⟩
 obtain ⟨c,hc,ec⟩:=cell
 have hmin:(if (60:Int) < (ns.length:Int) then (60:Int) else ns.length).toNat≤ns.length:=by split<;>(first|assumption|lia)
 have W:=for_ok (bd:=gN 4) (body:=sSet 3 (eOp oMod (eOp oAdd (eOp oAdd (eOp oMulI (eVar 3) (eC (.int 48271))) (eOp oMod (eOp oIx (eVar 0) (eVar 4)) (eC (.int 2147483647)))) (eVar 4)) (eC (.int 2147483629))))
  (xs:=rng 0 (if (60:Int) < (ns.length:Int) then (60:Int) else ns.length).toNat) (σ:=[some (.scr (ns.map .int)),some (.int i),some (.int c),some (.int (7919 * i+17)),none]) (st:=st)
  (fun j σ s=>s=st∧∃(mix:Int) (v:Option D),σ=[some (.scr (ns.map .int)),some (.int i),some (.int c),some (.int mix),v]∧0≤mix) ⟨rfl,_,none,rfl,by (first|assumption|lia)⟩ (by
   rintro j x σ s hx ⟨rfl,mix,v,rfl,hm⟩
   obtain ⟨hj,rfl⟩:=rng_at hx
   have hj2:j < ns.length:=by (first|assumption|lia)
   have e:oIx (.scr (ns.map .int)) (.int (0+j)) s=.ok (.int ns[j]) s:=oIx_of rfl (by rw[Int.zero_add];exact zmh hj2)
   rw[Int.zero_add] at e
   have m1:CMul mix 48271:=.inr ⟨by decide,by decide⟩
   refine ⟨_,[some (.scr (ns.map .int)),some (.int i),some (.int c),some (.int ((mix * 48271+ns[j] % 2147483647+j) % 2147483629)),some (.int (0+j))],s,rfl,?_,rfl,_,_,rfl,Int.emod_nonneg _ (by (first|assumption|lia))⟩
   simp[e,m1])
 obtain ⟨σ',st',e,rfl,mix,v,rfl,hm⟩:=W
 have m0:CMul 7919 (i:Int):=.inl ⟨by decide,by decide⟩
 have p0:CPow 10 18:=⟨by decide,by decide,by decide⟩
 have hr:RngOk (if (60:Int) < (ns.length:Int) then (60:Int) else ns.length):=by
  split<;>exact rngOk (by (first|assumption|lia)) (by (first|assumption|lia))
 by_cases hlt:c < 1000000000000000000
 ·refine ⟨0,mix,by (first|assumption|lia),hm,fn_ret rfl ?_⟩
  have hs:=small 2 (by (first|assumption|lia))
  simp at ec
  simp[ec,m0,hr,e,p0,hlt,hs]
 ·refine ⟨c,mix,hc,hm,fn_ret rfl ?_⟩
  have hs:=small 2 (by (first|assumption|lia))
  simp at ec
  simp[ec,m0,hr,e,p0,hlt,hs]
theorem seqN {s t:SS} {σ σ1:DS} {st st1:Store} {r:Res Fl} (h:s σ st=.ok (.nx σ1) st1) (k:t σ1 st1=r):sSeq s t σ st=r:=by
 rw[sSeq_v,h]
 exact k
end Dd
set_option maxHeartbeats 4000000
namespace Dd
open PySem L2
noncomputable def flipL (ks:List (List Int)) (k:List Int):List (List Int):=if k∈ks then ks.filter (fun x=>decide (x≠k)) else ks++[k]
noncomputable def oddL (l:List (List Int)):List (List Int):=l.foldl flipL []
theorem zgw {ks:List (List Int)} {k x:List Int}:x∈flipL ks k↔(x∈ks∧x≠k)∨(x=k∧k∉ks):=by
 unfold flipL
 split
 ·rename_i h
  simp[List.mem_filter,h]
 ·rename_i h
  simp only[List.mem_append,List.mem_singleton]
  constructor
  ·rintro (z | rfl)
   ·exact .inl ⟨z,fun e=>h (e ▸ z)⟩
   ·exact .inr ⟨rfl,h⟩
  ·rintro (⟨z,_⟩ | ⟨z,_⟩)
   ·exact .inl z
   ·exact .inr z
theorem zpy {ks:List (List Int)} {k:List Int} (h:ks.Nodup):(flipL ks k).Nodup:=by
 unfold flipL
 split
 ·exact h.filter _
 ·rename_i hk
  rw[List.nodup_append]
  exact ⟨h,by simp,fun a ha b hb=>by simp at hb;subst hb;exact fun e=>hk (e ▸ ha)⟩
theorem zni (ks:List (List Int)) (k:List Int):(flipL ks k).length≤ks.length+1:=by
 unfold flipL
 split
 ·exact Nat.le_succ_of_le (List.length_filter_le _ _)
 ·simp
theorem zln:∀(l ks:List (List Int)),ks.Nodup→(l.foldl flipL ks).Nodup∧(l.foldl flipL ks).length≤ks.length+l.length∧∀x,x∈l.foldl flipL ks↔(l.count x+if x∈ks then 1 else 0) % 2=1
 | [],ks,h=>⟨h,by simp,fun x=>by by_cases e:x∈ks<;>simp[e]⟩
 | a::l,ks,h=>by
  obtain ⟨h1,h2,h3⟩:=zln l (flipL ks a) (zpy h)
  refine ⟨h1,?_,fun x=>?_⟩
  ·have:=zni ks a
   rw[List.foldl_cons,List.length_cons]
   (first|assumption|lia)
  ·rw[List.foldl_cons,h3 x,List.count_cons]
   by_cases e:x=a
   ·subst e
    by_cases k:x∈ks
    ·have q:x∉flipL ks x:=by rw[zgw];simp[k]
     simp only[q,k,if_true,if_false,beq_self_eq_true]<;>(first|assumption|lia)
    ·have q:x∈flipL ks x:=by rw[zgw];simp[k]
     simp only[q,k,if_true,if_false,beq_self_eq_true]<;>(first|assumption|lia)
   ·have e':(a == x)=false:=by simpa using fun z:a=x=>e z.symm
    by_cases k:x∈ks
    ·have q:x∈flipL ks a:=by rw[zgw];simp[k,e]
     simp[q,k,e']
    ·have q:x∉flipL ks a:=by rw[zgw];simp[k,e]
     simp[q,k,e']
theorem zfj (l:List (List Int)):(oddL l).Nodup:=(zln l [] List.nodup_nil).1
theorem zei (l:List (List Int)):(oddL l).length≤l.length:=by have:=(zln l [] List.nodup_nil).2.1;simpa [oddL] using this
theorem zjr {l:List (List Int)} {x:List Int}:x∈oddL l↔l.count x % 2=1:=by have:=(zln l [] List.nodup_nil).2.2 x;simpa [oddL] using this
theorem zin {a b:List (List Int)} (h1:a.Nodup) (h2:b.Nodup) (h:∀x,x∈a↔x∈b):a.Perm b:=(List.perm_ext_iff_of_nodup h1 h2).mpr h
theorem zpj {a b:List (List Int)} (h:a.Perm b):sortR a=sortR b:=zmq ((zcg a).trans h) (zmp a)
noncomputable def oddS (l:List (List Int)):List (List Int):=sortR (oddL l)
theorem zbcc {l m:List (List Int)} (h1:m.Nodup) (h:∀x,x∈m↔l.count x % 2=1):sortR m=oddS l:=zpj (zin h1 (zfj l) fun x=>by rw[h,zjr])
theorem zyw {l:List (List Int)} {x:List Int}:x∈oddS l↔l.count x % 2=1:=by unfold oddS;rw[(zcg _).mem_iff,zjr]
theorem zhn {l:List (List Int)} {x:List Int} (h:x∈oddS l):x∈l:=by
 rw[zyw] at h
 rcases Nat.eq_zero_or_pos (l.count x) with z | z
 ·rw[z] at h;cases h
 ·exact List.count_pos_iff.mp z
theorem zio (l:List (List Int)):(oddS l).length≤l.length:=by unfold oddS;rw[zmr];exact zei l
theorem zfi (l:List (List Int)):(oddS l).Nodup:=(zcg _).nodup_iff.mpr (zfj l)
noncomputable abbrev trueD (ks:List (List Int)):List (List Int × D):=ks.map fun k=>(k,.bl true)
theorem znx {ks:List (List Int)} {k:List Int}:valD (trueD ks) k=if k∈ks then some (.bl true) else none:=by
 induction ks with
 | nil=>rfl
 | cons a ks ih =>
  unfold valD trueD at ih ⊢
  rw[List.map_cons,List.find?_cons]
  by_cases e:a=k
  ·simp[e]
  ·simp only[decide_eq_false e]
   rw[ih]
   simp[List.mem_cons,show ¬ k=a from fun z=>e z.symm]
theorem zsn {ks:List (List Int)} {k:List Int}:dropD (trueD ks) k=trueD (ks.filter fun x=>decide (x≠k)):=by
 unfold dropD trueD
 rw[List.filter_map]
 rfl
theorem zue {ks:List (List Int)} {k:List Int} (h:k∉ks):putD (trueD ks) k (.bl true)=trueD (ks++[k]):=by
 unfold putD
 rw[if_neg]
 ·simp[trueD]
 ·simp only[List.any_map,List.any_eq_true,not_exists,not_and]
  intro x hx e
  have:x=k:=by simpa using e
  exact h (this ▸ hx)
theorem zmv {st:Store} {n:Nat} {kvs:List (List Int × D)} (h:st[n]?=some (.dT kvs)):pairsOf st (.ref n)=some kvs:=by
 unfold pairsOf
 dsimp only
 rw[h]
theorem zys {st:Store} {n:Nat} {kvs:List (List Int × D)} (h:st[n]?=some (.fT kvs)):pairsOf st (.ref n)=some kvs:=by
 unfold pairsOf
 dsimp only
 rw[h]
theorem zbcf {st:Store} {n:Nat} {kvs:List (List Int × D)} {k:List Int} (h:pairsOf st (.ref n)=some kvs):oDIn false (rowD k) (.ref n) st=.ok (.bl (valD kvs k).isSome) st:=by
 unfold oDIn
 rw[zfn,h]
 rfl
theorem zyx {st:Store} {n:Nat} {kvs:List (List Int × D)} {k:List Int} {v:D} (h:pairsOf st (.ref n)=some kvs) (hv:valD kvs k=some v):oDGet (.ref n) (rowD k) st=.ok v st:=by
 unfold oDGet
 rw[zfn,h]
 dsimp only
 rw[hv]
theorem zbct {st:Store} {n:Nat} {ks:List (List Int)} {k:List Int} (h:st[n]?=some (.dT (trueD ks))) (hl:ks.length≤1000000):F_flip [.ref n,rowD k] st=.ok .non (st.set n (.dT (trueD (flipL ks k)))):=by
 have e1:=zbcf (k:=k) (zmv h)
 rw[znx] at e1
 by_cases hk:k∈ks
 ·refine fn_nx (σ:=[some (.ref n),some (rowD k)]) rfl ?_
  rw[if_pos hk] at e1
  have e2:valD (trueD ks) k=some (.bl true):=by rw[znx,if_pos hk]
  have e3:flipL ks k=ks.filter fun x=>decide (x≠k):=by unfold flipL;rw[if_pos hk]
  rw[e3,← zsn]
  have e4:=zmv h
  have e5:=zfn k
  simp only[rowD,trueD] at *
  simp[e1,e4,e5,h,e2]
 ·refine fn_nx (σ:=[some (.ref n),some (rowD k)]) rfl ?_
  rw[if_neg hk] at e1
  have e3:flipL ks k=ks++[k]:=by unfold flipL;rw[if_neg hk]
  rw[e3,← zue hk]
  have e5:=zfn k
  have e6:(trueD ks).length < sizeLine:=by rw[List.length_map];exact smallT _ hl
  simp only[rowD,trueD] at *
  simp[e1,e5,h,e6]
  rw[List.length_map] at e6
  exact e6
end Dd
set_option maxHeartbeats 4000000
namespace Dd
open PySem L2
theorem zeh {l:List (List Int)} {i:Nat} {x:D} (h:(rowsD l)[i]?=some x):∃k,l[i]?=some k∧x=rowD k:=by
 unfold rowsD at h
 rw[List.getElem?_map] at h
 cases e:l[i]? with
 | none=>rw[e] at h;cases h
 | some k=>rw[e] at h;exact ⟨k,rfl,(Option.some.inj h).symm⟩
theorem zu (l:List (List Int)):(rowsD l).length=l.length:=List.length_map _
theorem zj {α:Type} {l:List α} {i:Nat} {k:α} (h:l[i]?=some k):l.take (i+1)=l.take i++[k]:=by
 obtain ⟨hi,e⟩:=List.getElem?_eq_some_iff.mp h
 rw[List.take_succ_eq_append_getElem hi,e]
end Dd
set_option maxHeartbeats 4000000
namespace Dd
open PySem L2
theorem cut_to (xs:List D) (k:Nat):cutD xs none (some (k:Int))=xs.take k:=by
 unfold cutD
 rw[HT.zqr,HT.zwl,List.drop_zero,Nat.sub_zero]
 rcases Nat.le_total k xs.length with h | h
 ·rw[Nat.min_eq_left h]
 ·rw[Nat.min_eq_right h,List.take_length,List.take_of_length_le h]
theorem zss (xs:List D) (k:Nat):cutD xs (some (k:Int)) none=xs.drop k:=by
 unfold cutD
 rw[HT.zqr,HT.zwl]
 rcases Nat.le_total k xs.length with h | h
 ·rw[Nat.min_eq_left h,List.take_of_length_le (by rw[List.length_drop];exact Nat.le_refl _)]
 ·rw[Nat.min_eq_right h,List.drop_length,List.drop_of_length_le h]
  simp
theorem zkc (l ks:List (List Int)) (h:ks.Nodup):(l.foldl flipL ks).length≤ks.length+l.length:=(zln l ks h).2.1
theorem zpi {st:Store} {n:Nat} {ks:List (List Int)} (h:st[n]?=some (.dT (trueD ks))) (hl:ks.length≤1000000):bSorted [.ref n] st=.ok (.lst (rowsD (sortR ks))) st:=by
 rw[znq h (by rw[List.length_map];exact hl),List.map_map]
 congr 2
 exact congrArg (fun l=>rowsD (sortR l)) (List.map_id ks)
end Dd
namespace K07
open PySem L2
noncomputable def oddW (e k:Int):Bool:=decide (V.int (Builtin.bitAnd e k)=V.int k)
theorem zmf (a b:Nat):Builtin.bitAnd (a:Int) (b:Int)=((a &&& b:Nat):Int):=rfl
theorem zyv (a b:Nat):oddW a b=decide (a &&& b=b):=by
 unfold oddW
 rw[zmf]
 by_cases h:a &&& b=b
 ·rw[h];simp
 ·rw[decide_eq_false h]
  refine decide_eq_false fun e=>h ?_
  injection e with e
  exact_mod_cast e
end K07
namespace K23
open PySem L2 K07
end K23
set_option maxHeartbeats 4000000
namespace Dd
open PySem L2 K07 K23
theorem zps {st:Store} {e k:Int}:zec [.int e,.int k] st=.ok (.bl (oddW e k)) st:=by
 refine fn_ret rfl ?_
 have:decide (Builtin.bitAnd e k=k)=oddW e k:=by
  unfold oddW
  rw[Bool.eq_iff_iff]
  simp
 simp[this]
theorem ziv {st:Store} {i:Int}:zbr [.int i] st=.ok (.bl true) st:=rfl
noncomputable def slowAt (r:List Int) (p:Nat):Prop:=∃a b:Int,r[p]?=some a∧r[p+1]?=some b∧a < 2 * b
noncomputable instance (r:List Int) (p:Nat):Decidable (slowAt r p) :=
 match h1:r[p]?,h2:r[p+1]? with
 | some a,some b=>if h:a < 2 * b then .isTrue ⟨a,b,h1,h2,h⟩ else .isFalse fun ⟨x,y,e1,e2,e3⟩=>by rw[h1] at e1;rw[h2] at e2;cases e1;cases e2;exact h e3
 | none,_=>.isFalse fun ⟨x,y,e1,_⟩=>by rw[h1] at e1;cases e1
 | some _,none=>.isFalse fun ⟨x,y,_,e2,_⟩=>by rw[h2] at e2;cases e2
theorem zbdp (r:List Int) (k:Nat):cutD (r.map .int) none (some (k:Int))=(r.take k).map .int:=by rw[cut_to,List.map_take]
theorem zvw (r:List Int) (k:Nat):cutD (r.map .int) (some (k:Int)) none=(r.drop k).map .int:=by rw[zss,List.map_drop]
end Dd
set_option maxHeartbeats 4000000
namespace Dd
open PySem L2 K07 K23
structure CntG (f:Nat→D) (kvs:List (List Int × D)) (l:List (List Int)):Prop where
 nd:(kvs.map (·.1)).Nodup
 mem:∀k,k∈kvs.map (·.1)↔k∈l
 val:∀p∈kvs,p.2=f (l.count p.1)
 len:kvs.length≤l.length
theorem CntG.nil (f:Nat→D):CntG f [] []:=⟨List.nodup_nil,fun k=>by simp,fun p h=>(by cases h),by simp⟩
theorem CntG.at {f:Nat→D} {kvs:List (List Int × D)} {l:List (List Int)} (h:CntG f kvs l) (k:List Int):valD kvs k=if k∈l then some (f (l.count k)) else none:=by
 have gen:∀kvs:List (List Int × D),(∀p∈kvs,p.2=f (l.count p.1))→valD kvs k=if k∈kvs.map (·.1) then some (f (l.count k)) else none:=by
  intro kvs
  induction kvs with
  | nil=>intro _;rfl
  | cons a kvs ih =>
   intro hv
   have ih:=ih fun p hp=>hv p (List.mem_cons_of_mem _ hp)
   unfold valD at ih ⊢
   rw[List.find?_cons]
   by_cases e:a.1=k
   ·have:=hv a List.mem_cons_self
    simp only[e,decide_true,Option.map_some,List.map_cons,List.mem_cons,true_or,if_true]
    rw[this,e]
   ·simp only[decide_eq_false e]
    rw[ih]
    simp only[List.map_cons,List.mem_cons,show ¬ k=a.1 from fun z=>e z.symm,false_or]
 rw[gen kvs h.val]
 simp only[h.mem]
theorem CntG.put {f:Nat→D} {kvs:List (List Int × D)} {l:List (List Int)} (h:CntG f kvs l) (k:List Int):CntG f (putD kvs k (f (l.count k+1))) (l++[k]):=by
 have any:(kvs.any fun kv=>decide (kv.1=k))=decide (k∈l):=by
  rw[Bool.eq_iff_iff,decide_eq_true_eq,← h.mem,List.any_eq_true,List.mem_map]
  constructor
  ·rintro ⟨x,hx,e⟩
   exact ⟨x,hx,by simpa using e⟩
  ·rintro ⟨p,hp,e⟩
   exact ⟨p,hp,by simpa using e⟩
 unfold putD
 rw[any]
 by_cases hk:k∈l
 ·rw[if_pos (by simpa using hk)]
  have keys:(kvs.map fun kv=>if kv.1=k then (kv.1,f (l.count k+1)) else kv).map (·.1)=kvs.map (·.1):=by
   rw[List.map_map]
   congr 1
   funext p
   dsimp only [Function.comp]
   split<;>rfl
  refine ⟨by rw[keys];exact h.nd,fun x=>?_,fun p hp=>?_,?_⟩
  ·rw[keys,h.mem,List.mem_append,List.mem_singleton]
   exact ⟨.inl,fun z=>z.elim id fun e=>e ▸ hk⟩
  ·obtain ⟨q,hq,rfl⟩:=List.mem_map.mp hp
   have:=h.val q hq
   by_cases e:q.1=k
   ·rw[if_pos e]
    dsimp only
    rw[e,List.count_append]
    simp
   ·rw[if_neg e,this,List.count_append]
    have:List.count q.1 [k]=0:=by rw[List.count_eq_zero];simpa using e
    rw[this];rfl
  ·rw[List.length_map,List.length_append]
   have:=h.len
   (first|assumption|lia)
 ·rw[if_neg (by simpa using hk)]
  refine ⟨?_,fun x=>?_,fun p hp=>?_,?_⟩
  ·rw[List.map_append,List.nodup_append]
   refine ⟨h.nd,by simp,fun a ha b hb=>?_⟩
   simp at hb
   subst hb
   exact fun e=>hk ((h.mem _).mp (e ▸ ha))
  ·rw[List.map_append,List.mem_append,h.mem,List.mem_append]
   simp
  ·rcases List.mem_append.mp hp with hp | hp
   ·have e1:=h.val p hp
    have e2:p.1≠k:=fun e=>hk ((h.mem _).mp (e ▸ List.mem_map.mpr ⟨p,hp,rfl⟩))
    rw[e1,List.count_append]
    have:List.count p.1 [k]=0:=by rw[List.count_eq_zero];simpa using e2
    rw[this];rfl
   ·simp at hp
    subst hp
    rw[List.count_append,List.count_eq_zero.mpr hk]
    simp
  ·rw[List.length_append,List.length_append]
   have:=h.len
   simp
   exact this
noncomputable def oddB (n:Nat):D:=.bl (decide (n % 2=1))
theorem zun (n:Nat):oddB (n+1)=.bl (!decide (n % 2=1)):=by
 unfold oddB
 congr 1
 by_cases h:n % 2=1
 ·rw[decide_eq_true h,decide_eq_false (by (first|assumption|lia))];rfl
 ·rw[decide_eq_false h,decide_eq_true (by (first|assumption|lia))];rfl
theorem zpv {st:Store} {x:D} {l:List (List Int)} (hx:seqV x=some (rowsD l)) (hl:l.length≤1000000) (ho:(oddL l).length≤1000000):∃g,zbd [x] st=.ok (sumD (oddS l)) (st++g):=by
 have W:=for_ok (bd:=gN 2) (body:=zez) (xs:=rowsD l) (σ:=[some x,some (.ref st.length),none]) (st:=st++[.dT []])
  (fun i σ s=>∃(v:Option D) (kvs:List (List Int × D)),σ=[some x,some (.ref st.length),v]∧s=st++[.dT kvs]∧CntG oddB kvs (l.take i)) ⟨none,[],rfl,rfl,CntG.nil _⟩ (by
   rintro i y σ s hy ⟨v,kvs,rfl,rfl,hc⟩
   obtain ⟨k,hk,rfl⟩:=zeh hy
   have hc':=hc.put k
   have hn:(st++[O.dT kvs])[st.length]?=some (.dT kvs):=by simp
   have e2:(valD kvs k).getD (.bl false)=.bl (decide ((l.take i).count k % 2=1)):=by
    rw[hc.at]
    split
    ·rfl
    ·rename_i z
     rw[List.count_eq_zero.mpr z];rfl
   have e3:=zfn k
   have e4:=zmv hn
   have e5:kvs.length < sizeLine:=by
    have h1:=hc.len
    have h2:(l.take i).length≤l.length:=by rw[List.length_take];exact Nat.min_le_right _ _
    exact smallT _ (by (first|assumption|lia))
   refine ⟨[some x,some (.ref st.length),some (rowD k)],[some x,some (.ref st.length),some (rowD k)],st++[.dT (putD kvs k (oddB ((l.take i).count k+1)))],rfl,?_,some (rowD k),_,rfl,rfl,by rw[zj hk];exact hc'⟩
   rw[zun]
   unfold zez
   simp only[rowD] at *
   simp only[zbbb,eNot_v,zzq,eVar_v,eC_v,List.getElem?_cons_succ,List.getElem?_cons_zero,zgn,e4,e3,e2,hn,e5,if_true]
   simp)
 obtain ⟨σ',st',e,v,kvs,rfl,rfl,hc⟩:=W
 rw[zu,List.take_length] at hc
 have V:=zbdq (bd:=gN 0) (c:=eTru (eOp oDGet (eVar 1) (eVar 0))) (f:=eVar 0) (xs:=rowsD (kvs.map (·.1))) (σ:=[none,some (.ref st.length)]) (st:=st++[.fT kvs])
  (fun i acc σ s=>s=st++[.fT kvs]∧(∃w:Option D,σ=[w,some (.ref st.length)])∧acc=rowsD (((kvs.map (·.1)).take i).filter fun k=>decide (l.count k % 2=1))) ⟨rfl,⟨none,rfl⟩,rfl⟩ (by
   rintro i y acc σ s hy ⟨rfl,⟨w,rfl⟩,rfl⟩
   obtain ⟨k,hk,rfl⟩:=zeh hy
   have hn:(st++[O.fT kvs])[st.length]?=some (.fT kvs):=by simp
   have hkl:k∈l:=(hc.mem k).mp (List.mem_of_getElem? hk)
   have e2:valD kvs k=some (oddB (l.count k)):=by rw[hc.at,if_pos hkl]
   have e3:oDGet (.ref st.length) (rowD k) (st++[O.fT kvs])=.ok (oddB (l.count k)) _:=zyx (zys hn) e2
   refine ⟨[some (rowD k),some (.ref st.length)],decide (l.count k % 2=1),st++[.fT kvs],rfl,?_,?_⟩
   ·rw[eTru_v]
    show ((oDGet (.ref st.length) (rowD k) (st++[O.fT kvs])).bind _)=_
    rw[e3]
    rfl
   ·by_cases ho:l.count k % 2=1
    ·refine .inr ⟨decide_eq_true ho,rowD k,_,rfl,rfl,⟨_,rfl⟩,?_⟩
     rw[zj hk,List.filter_append]
     simp[ho,rowsD]
    ·refine .inl ⟨decide_eq_false ho,rfl,⟨_,rfl⟩,?_⟩
     rw[zj hk,List.filter_append]
     simp[ho,rowsD])
 obtain ⟨ys,σ2,st2,e2,rfl,⟨w,rfl⟩,rfl⟩:=V
 rw[zu,List.take_length] at e2
 refine ⟨[.fT kvs],fn_ret rfl ?_⟩
 have nd:((kvs.map (·.1)).filter fun k=>decide (l.count k % 2=1)).Nodup:=hc.nd.filter _
 have mm:∀k,k∈((kvs.map (·.1)).filter fun k=>decide (l.count k % 2=1))↔l.count k % 2=1:=fun k=>by
  rw[List.mem_filter,hc.mem,decide_eq_true_eq]
  refine ⟨fun h=>h.2,fun h=>⟨?_,h⟩⟩
  rcases Nat.eq_zero_or_pos (l.count k) with z | z
  ·rw[z] at h;cases h
  ·exact List.count_pos_iff.mp z
 have e5:sortR ((kvs.map (·.1)).filter fun k=>decide (l.count k % 2=1))=oddS l:=zbcc nd mm
 have few:((kvs.map (·.1)).filter fun k=>decide (l.count k % 2=1)).length≤1000000:=by
  have p:=zin nd (zfj l) fun k=>by rw[mm,zjr]
  rw[p.length_eq]
  exact ho
 have e6:=znp (st:=st++[.fT kvs]) few
 rw[e5] at e6
 have hlen:(rowsD (kvs.map (·.1))).length≤sizeLine:=by
  rw[zu,List.length_map]
  exact small _ (by have:=hc.len;(first|assumption|lia))
 refine seqN (σ1:=[some x,some (.ref st.length),none]) (st1:=st++[.dT []]) (by simp) ?_
 refine seqN (σ1:=[some x,some (.ref st.length),v]) (st1:=st++[.dT kvs]) (by simp[hx,e]) ?_
 have e7:eComp (iDict (eVar 1)) 1 [1] (gN 0) (eTru (eOp oDGet (eVar 1) (eVar 0))) (eVar 0) [some x,some (.ref st.length),v] (st++[.dT kvs])=.ok (.lst (rowsD ((kvs.map (·.1)).filter fun k=>decide (l.count k % 2=1)))) (st++[.fT kvs]):=by
  rw[zxh]
  have e8:iDict (eVar 1) [some x,some (.ref st.length),v] (st++[.dT kvs])=.ok (rowsD (kvs.map (·.1))) (st++[.fT kvs]):=by
   simp
  rw[e8,zgn,if_pos hlen]
  show (compF _ _ _ _ [none,some (.ref st.length)] _).bind _=_
  rw[e2]
  rfl
 rw[sRet_v,zxi,ztj,zxi,ztj,e7]
 simp only[zgn,aNil_v,e6,ztf]
theorem zso {i j:Int} (h0:0 < j) (h1:j≤1000):CDivP i j:=⟨h0,Int.lt_of_le_of_lt h1 (by decide +kernel)⟩
theorem rngN {j:Int} (h1:-10000≤j) (h2:j≤10000):RngOk j:=rngOk (by (first|assumption|lia)) (by (first|assumption|lia))
end Dd
set_option maxHeartbeats 4000000
namespace Dd
open PySem L2 K07 K23
theorem Drew.over {st s:Store} {n k:Nat} {o:O} (d:Drew st s n) (hn:n < st.length) (hk:st.length≤k):Drew st (s.set k o) n:=by
 obtain ⟨c,x,eb,c0,x0⟩:=d.bag
 exact ⟨by rw[List.length_set];exact d.len,fun i h1 h2=>by rw[List.getElem?_set_ne (by (first|assumption|lia))];exact d.keep i h1 h2,c,x,by rw[List.getElem?_set_ne (by (first|assumption|lia))];exact eb,c0,x0⟩
end Dd
set_option maxHeartbeats 4000000
namespace Dd
open PySem L2
noncomputable def WP {α:Type} (r:Res α) (Q:α→Store→Prop):Prop:=match r with
 | .ok a st=>Q a st
 | _=>False
theorem WP.get {α:Type} {r:Res α} {Q:α→Store→Prop} (h:WP r Q):∃a st,r=.ok a st∧Q a st:=by
 cases r with
 | ok a st=>exact ⟨a,st,rfl,h⟩
 | exc x st=>exact h.elim
 | stuck=>exact h.elim
theorem WP.of {α:Type} {r:Res α} {Q:α→Store→Prop} {a:α} {st:Store} (e:r=.ok a st) (h:Q a st):WP r Q:=by rw[e];exact h
theorem WP.mono {α:Type} {r:Res α} {Q Q':α→Store→Prop} (h:WP r Q) (k:∀a st,Q a st→Q' a st):WP r Q':=by
 obtain ⟨a,st,rfl,q⟩:=h.get
 exact k a st q
theorem zh {α β:Type} {r:Res α} {f:α→Store→Res β} {Q:β→Store→Prop}:WP (r.bind f) Q=WP r (fun a st=>WP (f a st) Q):=by
 cases r<;>rfl
noncomputable def seqK (t:SS) (Q:Fl→Store→Prop):Fl→Store→Prop:=fun fl st=>match fl with
 | .nx σ=>WP (t σ st) Q
 | fl=>Q fl st
theorem wp_seq {s t:SS} {σ:DS} {st:Store} {Q:Fl→Store→Prop}:WP (sSeq s t σ st) Q=WP (s σ st) (seqK t Q):=by
 unfold sSeq
 cases s σ st with
 | ok fl st1=>cases fl<;>rfl
 | exc x st=>rfl
 | stuck=>rfl
theorem wp_ite {α:Type} {c:Prop} [Decidable c] {a b:Res α} {Q:α→Store→Prop}:WP (if c then a else b) Q=if c then WP a Q else WP b Q:=by
 split<;>rfl
theorem zjb {α:Type} {c:Prop} [Decidable c] {a:Res α} {Q:α→Store→Prop}:WP (if c then a else .stuck) Q=(c∧WP a Q):=by
 by_cases h:c
 ·rw[if_pos h];simp[h]
 ·rw[if_neg h];simp[h,WP]
noncomputable def retK (Q:D→Store→Prop):Fl→Store→Prop:=fun fl st=>match fl with
 | .ret v=>Q v st
 | .nx _=>Q .non st
 | _=>False
theorem wp_fn {n np:Nat} {b:SS} {ds:List D} {st:Store} {Q:D→Store→Prop} (h:ds.length=np) (k:WP (b (ds.map some++List.replicate (n - np) none) st) (retK Q)):WP (fnD n np b ds st) Q:=by
 obtain ⟨fl,st',e,q⟩:=k.get
 unfold fnD
 rw[if_pos h,e]
 cases fl<;>first | exact q | exact q.elim
noncomputable def bK (Q:Bool→Store→Prop):D→Store→Prop:=fun v st=>match v with
 | .bl b=>Q b st
 | _=>False
noncomputable def gK (bd:SG) (Q:Fl→Store→Prop) (σ:DS):D→Store→Prop:=fun v st=>match bd v σ with
 | some σ1=>Q (.nx σ1) st
 | none=>False
theorem W:(∀{α:Type} {a:α} {st:Store} {Q:α→Store→Prop},WP (.ok a st) Q=Q a st)
 ∧ (∀{s t:SS} {σ:DS} {st:Store} {Q:Fl→Store→Prop},WP (sSeq s t σ st) Q=WP (s σ st) (seqK t Q))
 ∧ (∀{t:SS} {σ:DS} {st:Store} {Q:Fl→Store→Prop},seqK t Q (.nx σ) st=WP (t σ st) Q)
 ∧ (∀{t:SS} {v:D} {st:Store} {Q:Fl→Store→Prop},seqK t Q (.ret v) st=Q (.ret v) st)
 ∧ (∀{t:SS} {σ:DS} {st:Store} {Q:Fl→Store→Prop},seqK t Q (.brk σ) st=Q (.brk σ) st)
 ∧ (∀{t:SS} {σ:DS} {st:Store} {Q:Fl→Store→Prop},seqK t Q (.ct σ) st=Q (.ct σ) st)
 ∧ (∀{v:D} {st:Store} {Q:D→Store→Prop},retK Q (.ret v) st=Q v st)
 ∧ (∀{σ:DS} {st:Store} {Q:D→Store→Prop},retK Q (.nx σ) st=Q .non st)
 ∧ (∀{b:Bool} {st:Store} {Q:Bool→Store→Prop},bK Q (.bl b) st=Q b st)
 ∧ (∀{d:D} {σ:DS} {st:Store} {Q:D→Store→Prop},WP (eC d σ st) Q=Q d st)
 ∧ (∀{g:D→D→Store→Res D} {f f':SE} {σ:DS} {st:Store} {Q:D→Store→Prop},WP (eOp g f f' σ st) Q=WP (f σ st) (fun x st1=>WP (f' σ st1) (fun y st2=>WP (g x y st2) Q)))
 ∧ (∀{g:D→Store→Res D} {f:SE} {σ:DS} {st:Store} {Q:D→Store→Prop},WP (eUn g f σ st) Q=WP (f σ st) (fun x st1=>WP (g x st1) Q))
 ∧ (∀{g:List D→Store→Res D} {f:SA} {σ:DS} {st:Store} {Q:D→Store→Prop},WP (eCall g f σ st) Q=WP (f σ st) (fun x st1=>WP (g x st1) Q))
 ∧ (∀{σ:DS} {st:Store} {Q:List D→Store→Prop},WP (aNil σ st) Q=Q [] st)
 ∧ (∀{f:SE} {g:SA} {σ:DS} {st:Store} {Q:List D→Store→Prop},WP (aCons f g σ st) Q=WP (f σ st) (fun x st1=>WP (g σ st1) (fun xs st2=>Q (x::xs) st2)))
 ∧ (∀{f:SE} {σ:DS} {st:Store} {Q:Bool→Store→Prop},WP (eB f σ st) Q=WP (f σ st) (bK Q))
 ∧ (∀{f f':ST} {σ:DS} {st:Store} {Q:Bool→Store→Prop},WP (bAnd f f' σ st) Q=WP (f σ st) (fun b st1=>if b=true then WP (f' σ st1) Q else Q false st1))
 ∧ (∀{f f':ST} {σ:DS} {st:Store} {Q:Bool→Store→Prop},WP (bOr f f' σ st) Q=WP (f σ st) (fun b st1=>if b=true then Q true st1 else WP (f' σ st1) Q))
 ∧ (∀{f:ST} {σ:DS} {st:Store} {Q:Bool→Store→Prop},WP (bNot f σ st) Q=WP (f σ st) (fun b st1=>Q (!b) st1))
 ∧ (∀{σ:DS} {st:Store} {Q:Bool→Store→Prop},WP (bYes σ st) Q=Q true st)
 ∧ (∀{f f':SE} {σ:DS} {st:Store} {Q:D→Store→Prop},WP (eAnd f f' σ st) Q=WP (f σ st) (bK fun b st1=>if b=true then WP (f' σ st1) Q else Q (.bl false) st1))
 ∧ (∀{f f':SE} {σ:DS} {st:Store} {Q:D→Store→Prop},WP (eOr f f' σ st) Q=WP (f σ st) (bK fun b st1=>if b=true then Q (.bl true) st1 else WP (f' σ st1) Q))
 ∧ (∀{f:SE} {σ:DS} {st:Store} {Q:D→Store→Prop},WP (eNot f σ st) Q=WP (f σ st) (bK fun b st1=>Q (.bl (!b)) st1))
 ∧ (∀{c:ST} {f f':SE} {σ:DS} {st:Store} {Q:D→Store→Prop},WP (eIf c f f' σ st) Q=WP (c σ st) (fun b st1=>if b=true then WP (f σ st1) Q else WP (f' σ st1) Q))
 ∧ (∀{g:SA} {σ:DS} {st:Store} {Q:D→Store→Prop},WP (eTup g σ st) Q=WP (g σ st) (fun xs st1=>xs.length≤sizeLine∧Q (.tup xs) st1))
 ∧ (∀{g:SA} {σ:DS} {st:Store} {Q:D→Store→Prop},WP (eLst g σ st) Q=WP (g σ st) (fun xs st1=>xs.length≤sizeLine∧Q (.lst xs) st1))
 ∧ (∀{g:SA} {σ:DS} {st:Store} {Q:D→Store→Prop},WP (eLstM g σ st) Q=WP (g σ st) (fun xs st1=>xs.length≤sizeLine∧Q (.ref st1.length) (st1++[.lst xs])))
 ∧ (∀{σ:DS} {st:Store} {Q:D→Store→Prop},WP (eDNew σ st) Q=Q (.ref st.length) (st++[.dT []]))
 ∧ (∀{σ:DS} {st:Store} {Q:Fl→Store→Prop},WP (sNx σ st) Q=Q (.nx σ) st)
 ∧ (∀{σ:DS} {st:Store} {Q:Fl→Store→Prop},WP (sBrk σ st) Q=Q (.brk σ) st)
 ∧ (∀{σ:DS} {st:Store} {Q:Fl→Store→Prop},WP (sCt σ st) Q=Q (.ct σ) st)
 ∧ (∀{σ:DS} {st:Store} {Q:Fl→Store→Prop},WP (sRetN σ st) Q=Q (.ret .non) st)
 ∧ (∀{f:SE} {σ:DS} {st:Store} {Q:Fl→Store→Prop},WP (sRet f σ st) Q=WP (f σ st) (fun v st1=>Q (.ret v) st1))
 ∧ (∀{f:SE} {σ:DS} {st:Store} {Q:Fl→Store→Prop},WP (sDrop f σ st) Q=WP (f σ st) (fun _ st1=>Q (.nx σ) st1))
 ∧ (∀{i:Nat} {f:SE} {σ:DS} {st:Store} {Q:Fl→Store→Prop},WP (sSet i f σ st) Q=WP (f σ st) (fun v st1=>Q (.nx (σ.set i (some v))) st1))
 ∧ (∀{bd:SG} {f:SE} {σ:DS} {st:Store} {Q:Fl→Store→Prop},WP (sSetG bd f σ st) Q=WP (f σ st) (gK bd Q σ))
 ∧ (∀{c:ST} {s t:SS} {σ:DS} {st:Store} {Q:Fl→Store→Prop},WP (sIf c s t σ st) Q=WP (c σ st) (fun b st1=>if b=true then WP (s σ st1) Q else WP (t σ st1) Q))
 ∧ (∀{it:SA} {bd:SG} {body:SS} {σ:DS} {st:Store} {Q:Fl→Store→Prop},WP (sFor it bd body σ st) Q=WP (it σ st) (fun xs st1=>WP (forF bd body xs σ st1) Q))
 ∧ (∀{it:SA} {k:Nat} {is:List Nat} {bd:SG} {c:ST} {f:SE} {σ:DS} {st:Store} {Q:D→Store→Prop},WP (eComp it k is bd c f σ st) Q=WP (it σ st) (fun xs st1=>xs.length≤sizeLine∧WP (compF bd c f xs (startD k is σ) st1) (fun ys st2=>Q (.lst ys) st2)))
 ∧ (∀{it:SA} {k:Nat} {is:List Nat} {bd:SG} {c:ST} {f:SE} {σ:DS} {st:Store} {Q:D→Store→Prop},WP (eCompM it k is bd c f σ st) Q=WP (it σ st) (fun xs st1=>xs.length≤sizeLine∧WP (compF bd c f xs (startD k is σ) st1) (fun ys st2=>Q (.ref st2.length) (st2++[.lst ys]))))
 ∧ (∀{C:Int→Int→Prop} [DecidableRel C] {h:Int→Int→D} {i j:Int} {st:Store} {Q:D→Store→Prop},WP (oI C h (.int i) (.int j) st) Q=(C i j∧Q (h i j) st))
 ∧ (∀{i j:Int} {st:Store} {Q:D→Store→Prop},WP (oAdd (.int i) (.int j) st) Q=Q (.int (i+j)) st)
 ∧ (∀{a b:List D} {st:Store} {Q:D→Store→Prop},WP (oAdd (.tup a) (.tup b) st) Q=(a.length+b.length≤sizeLine∧Q (.tup (a++b)) st))
 ∧ (∀{i j:Int} {st:Store} {Q:D→Store→Prop},WP (oLtT (.int i) (.int j) st) Q=Q (.bl (decide (i < j))) st)
 ∧ (∀{i j:Int} {st:Store} {Q:D→Store→Prop},WP (oEqG false (.int i) (.int j) st) Q=Q (.bl (decide (i=j))) st)
 ∧ (∀{i j:Int} {st:Store} {Q:D→Store→Prop},WP (oEqG true (.int i) (.int j) st) Q=Q (.bl (!decide (i=j))) st)
 ∧ (∀{i:Int} {st:Store} {Q:D→Store→Prop},WP (oNeg (.int i) st) Q=Q (.int (-i)) st)
 ∧ (∀{i j:Int} {g:Int→Int→Int} {st:Store} {Q:D→Store→Prop},WP (b2I g [.int i,.int j] st) Q=Q (.int (g i j)) st)
 ∧ (∀{i:Int} {st:Store} {Q:D→Store→Prop},WP (bAbs [.int i] st) Q=Q (.int (if i < 0 then -i else i)) st)
 ∧ (∀{b:Bool} {st:Store} {Q:D→Store→Prop},WP (bInt [.bl b] st) Q=Q (.int (if b=true then 1 else 0)) st)
 ∧ (∀{xs:List D} {st:Store} {Q:D→Store→Prop},WP (bLen [.tup xs] st) Q=Q (.int xs.length) st)
 ∧ (∀{xs:List D} {st:Store} {Q:D→Store→Prop},WP (bLen [.lst xs] st) Q=Q (.int xs.length) st)
 ∧ (∀{xs:List D} {st:Store} {Q:D→Store→Prop},WP (bLen [.scr xs] st) Q=Q (.int xs.length) st)
 ∧ (∀{xs:List D} {st:Store} {Q:D→Store→Prop},WP (bTuple [.tup xs] st) Q=Q (.tup xs) st)
 ∧ (∀{xs:List D} {st:Store} {Q:D→Store→Prop},WP (bTuple [.lst xs] st) Q=Q (.tup xs) st)
 ∧ (∀{xs:List D} {st:Store} {Q:D→Store→Prop},WP (bList [.tup xs] st) Q=Q (.lst xs) st)
 ∧ (∀{xs:List D} {st:Store} {Q:D→Store→Prop},WP (bList [.lst xs] st) Q=Q (.lst xs) st)
 ∧ (∀{d:D} {σ:DS} {st:Store} {Q:D→Store→Prop},WP (eVar 0 (some d::σ) st) Q=Q d st)
 ∧ (∀{i:Nat} {σ:DS} {st:Store} {Q:D→Store→Prop} {o:Option D},WP (eVar (i+1) (o::σ) st) Q=WP (eVar i σ st) Q)
 ∧ (∀{f:SE} {σ:DS} {st:Store} {Q:List D→Store→Prop},WP (iSeq f σ st) Q=WP (f σ st) (fun x st1=>∃xs,seqV x=some xs∧Q xs st1))
 ∧ (∀{f:SE} {σ:DS} {st:Store} {Q:Bool→Store→Prop},WP (eTru f σ st) Q=WP (f σ st) (fun x st1=>∃b,tru st1 x=some b∧Q b st1))
 ∧ (∀{g:SA} {σ:DS} {st:Store} {Q:List D→Store→Prop},WP (iR1 g σ st) Q=WP (g σ st) (fun xs st1=>∃j,xs=[.int j]∧RngOk j∧Q (rng 0 j.toNat) st1))
 ∧ (∀{g:SA} {σ:DS} {st:Store} {Q:List D→Store→Prop},WP (iR2 g σ st) Q=WP (g σ st) (fun xs st1=>∃i j,xs=[.int i,.int j]∧RngOk i∧RngOk j∧Q (rng i (j - i).toNat) st1)):=by
 have g2:∀{α:Type} {c:Prop} [Decidable c] {a:α} {st:Store} {Q:α→Store→Prop},WP (if c then .ok a st else .stuck) Q=(c∧Q a st):=fun {α c _ a st Q}=>zjb
 refine ⟨rfl,wp_seq,rfl,rfl,rfl,rfl,rfl,rfl,rfl,rfl,?_⟩
 refine ⟨?_,?_⟩
 ·intros;rw[eOp_v,zh];congr;funext x st1;rw[zh]
 refine ⟨zh,zh,rfl,?_⟩
 refine ⟨?_,?_⟩
 ·intros;rw[ztj,zh];congr;funext x st1;rw[zh];rfl
 refine ⟨?_,?_⟩
 ·intros;rw[eB_v,zh];congr;funext x st1;cases x<;>rfl
 refine ⟨?_,?_⟩
 ·intros;rw[bAnd_v,zh];congr;funext x st1;rw[wp_ite];rfl
 refine ⟨?_,?_⟩
 ·intros;rw[bOr_v,zh];congr;funext x st1;rw[wp_ite];rfl
 refine ⟨zh,rfl,?_⟩
 refine ⟨?_,?_⟩
 ·intros;rw[eAnd_v,zh];congr;funext x st1;cases x<;>try rfl
  rename_i b;cases b<;>rfl
 refine ⟨?_,?_⟩
 ·intros;rw[eOr_v,zh];congr;funext x st1;cases x<;>try rfl
  rename_i b;cases b<;>rfl
 refine ⟨?_,?_⟩
 ·intros;rw[eNot_v,zh];congr;funext x st1;cases x<;>rfl
 refine ⟨?_,?_⟩
 ·intros;rw[eIf_v,zh];congr;funext x st1;rw[wp_ite]
 refine ⟨?_,?_⟩
 ·intros;rw[eTup_v,zh];congr;funext x st1;rw[g2]
 refine ⟨?_,?_⟩
 ·intros;rw[eLst_v,zh];congr;funext x st1;rw[g2]
 refine ⟨?_,?_⟩
 ·intros;rw[zbcw,zh];congr;funext x st1;rw[g2]
 refine ⟨rfl,rfl,rfl,rfl,rfl,zh,zh,zh,?_⟩
 refine ⟨?_,?_⟩
 ·intro bd f σ st Q;unfold sSetG;rw[zh];congr;funext x st1;unfold gK;cases bd x σ<;>rfl
 refine ⟨?_,?_⟩
 ·intros;rw[sIf_v,zh];congr;funext x st1;rw[wp_ite]
 refine ⟨zh,?_⟩
 refine ⟨?_,?_⟩
 ·intros;rw[zxh,zh];congr;funext x st1;rw[zjb,zh];rfl
 refine ⟨?_,?_⟩
 ·intros;unfold eCompM;rw[zh];congr;funext x st1;rw[zjb,zh];rfl
 refine ⟨?_,?_⟩
 ·intros;rw[oI_v,g2]
 refine ⟨rfl,?_⟩
 refine ⟨?_,?_⟩
 ·intros;rw[oAdd_t,g2]
 refine ⟨rfl,?_⟩
 refine ⟨?_,?_⟩
 ·intros;rw[show ∀i j st,oEqG false (.int i) (.int j) st=_ from fun i j st=>oEq_i];rfl
 refine ⟨?_,?_⟩
 ·intros;rw[show ∀i j st,oEqG true (.int i) (.int j) st=_ from fun i j st=>oNe_i];rfl
 refine ⟨rfl,rfl,rfl,rfl,rfl,rfl,rfl,rfl,rfl,rfl,rfl,fun {d σ st Q}=>rfl,fun {i σ st Q o}=>rfl,?_⟩
 refine ⟨?_,?_⟩
 ·intros;rw[iSeq_v,zh];congr;funext x st1
  cases h:seqV x with
  | none=>simp[WP]
  | some xs=>simp[WP]
 refine ⟨?_,?_⟩
 ·intros;rw[eTru_v,zh];congr;funext x st1
  cases h:tru st1 x with
  | none=>simp[WP]
  | some xs=>simp[WP]
 refine ⟨?_,?_⟩
 ·intros;rw[iR1_v,zh];congr;funext x st1
  split
  ·rw[g2];simp[RngOk]
  ·rename_i hne
   have:∀j,x≠[D.int j]:=fun j h=>hne j h
   simp[WP,this]
 ·intros;rw[iR2_v,zh];congr;funext x st1
  split
  ·rw[g2]
   simp only[RngOk,List.cons.injEq,D.int.injEq,and_true]
   apply propext
   constructor
   ·rintro ⟨h,q⟩;exact ⟨_,_,⟨rfl,rfl⟩,h.1,h.2,q⟩
   ·rintro ⟨i',j',⟨rfl,rfl⟩,h1,h2,q⟩;exact ⟨⟨h1,h2⟩,q⟩
  ·rename_i hne
   have:∀i j,x≠[D.int i,D.int j]:=fun i j h=>hne i j h
   simp[WP,this]
noncomputable def loopK (I:DS→Store→Prop) (Q:Fl→Store→Prop):Fl→Store→Prop:=fun fl st=>match fl with
 | .nx σ=>I σ st
 | .ct σ=>I σ st
 | .brk σ=>Q (.nx σ) st
 | .ret v=>Q (.ret v) st
theorem zie {bd:SG} {body:SS} {Q:Fl→Store→Prop} (I:Nat→DS→Store→Prop):∀(xs:List D) (k:Nat) (σ:DS) (st:Store),I k σ st →
  (∀i x σ st,xs[i]?=some x→I (k+i) σ st→∃σ1,bd x σ=some σ1∧WP (body σ1 st) (loopK (I (k+i+1)) Q))→(∀σ st,I (k+xs.length) σ st→Q (.nx σ) st)→WP (forF bd body xs σ st) Q
 | [],k,σ,st,h,_,q=>q σ st h
 | x::xs,k,σ,st,h,s,q=>by
  obtain ⟨σ1,e1,w⟩:=s 0 x σ st rfl h
  obtain ⟨fl,st2,e2,w⟩:=w.get
  unfold forF
  rw[e1]
  dsimp only
  rw[e2]
  have go:∀σ2,I (k+0+1) σ2 st2→WP (forF bd body xs σ2 st2) Q:=fun σ2 h2=>zie I xs (k+1) σ2 st2 h2 (fun i y σ st hy hi=>by
   have:=s (i+1) y σ st (by simpa using hy) (by rw[show k+(i+1)=k+1+i by (first|assumption|lia)];exact hi)
   rw[show k+(i+1)+1=k+1+i+1 by (first|assumption|lia)] at this
   exact this) (fun σ st h=>q σ st (by rw[List.length_cons,show k+(xs.length+1)=k+1+xs.length by (first|assumption|lia)];exact h))
  cases fl with
  | nx σ2=>exact go σ2 w
  | ct σ2=>exact go σ2 w
  | brk σ2=>exact w
  | ret v=>exact w
theorem wp_for {bd:SG} {body:SS} {Q:Fl→Store→Prop} (I:Nat→DS→Store→Prop) {xs:List D} {σ:DS} {st:Store} (h0:I 0 σ st)
  (s:∀i x σ st,xs[i]?=some x→I i σ st→∃σ1,bd x σ=some σ1∧WP (body σ1 st) (loopK (I (i+1)) Q)) (q:∀σ st,I xs.length σ st→Q (.nx σ) st):WP (forF bd body xs σ st) Q :=
 zie I xs 0 σ st h0 (fun i x σ st hx hi=>by rw[Nat.zero_add] at hi ⊢;exact s i x σ st hx hi) fun σ st h=>q σ st (by rw[Nat.zero_add] at h;exact h)
theorem L:(∀{I:DS→Store→Prop} {Q:Fl→Store→Prop} {σ:DS} {st:Store},loopK I Q (.nx σ) st=I σ st)
 ∧ (∀{I:DS→Store→Prop} {Q:Fl→Store→Prop} {σ:DS} {st:Store},loopK I Q (.ct σ) st=I σ st)
 ∧ (∀{I:DS→Store→Prop} {Q:Fl→Store→Prop} {σ:DS} {st:Store},loopK I Q (.brk σ) st=Q (.nx σ) st)
 ∧ (∀{I:DS→Store→Prop} {Q:Fl→Store→Prop} {v:D} {st:Store},loopK I Q (.ret v) st=Q (.ret v) st):=⟨rfl,rfl,rfl,rfl⟩
theorem zeu {bd:SG} {c:ST} {f:SE} (I:Nat→List D→DS→Store→Prop):∀(xs:List D) (k:Nat) (acc:List D) (σ:DS) (st:Store) (Q:List D→Store→Prop),I k acc σ st →
  (∀i x acc σ st,xs[i]?=some x→I (k+i) acc σ st→∃σ1,bd x σ=some σ1∧WP (c σ1 st) (fun b st1=>if b=true then WP (f σ1 st1) (fun y st2=>I (k+i+1) (acc++[y]) σ1 st2) else I (k+i+1) acc σ1 st1)) →
  (∀ys σ st,I (k+xs.length) (acc++ys) σ st→Q ys st)→WP (compF bd c f xs σ st) Q
 | [],k,acc,σ,st,Q,h,_,q=>q [] σ st (by rw[List.append_nil];exact h)
 | x::xs,k,acc,σ,st,Q,h,s,q=>by
  obtain ⟨σ1,e1,w⟩:=s 0 x acc σ st rfl h
  obtain ⟨b,st1,e2,w⟩:=w.get
  have s':∀i y acc σ st,xs[i]?=some y→I (k+1+i) acc σ st→∃σ1,bd y σ=some σ1∧WP (c σ1 st) (fun b st1=>if b=true then WP (f σ1 st1) (fun y st2=>I (k+1+i+1) (acc++[y]) σ1 st2) else I (k+1+i+1) acc σ1 st1):=fun i y acc σ st hy hi=>by
   have:=s (i+1) y acc σ st (by simpa using hy) (by rw[show k+(i+1)=k+1+i by (first|assumption|lia)];exact hi)
   rw[show k+(i+1)+1=k+1+i+1 by (first|assumption|lia)] at this
   exact this
  have ln:∀(zs:List D) σ st,I (k+1+xs.length) zs σ st→I (k+(x::xs).length) zs σ st:=fun zs σ st h=>by rw[List.length_cons,show k+(xs.length+1)=k+1+xs.length by (first|assumption|lia)];exact h
  unfold compF
  rw[e1]
  dsimp only
  rw[e2]
  dsimp only [zgn]
  cases b with
  | false =>
   rw[if_neg (by decide)] at w ⊢
   exact zeu I xs (k+1) acc σ1 st1 Q w s' fun ys σ st h=>q ys σ st (ln _ _ _ h)
  | true =>
   rw[if_pos rfl] at w ⊢
   obtain ⟨y,st2,e3,w⟩:=w.get
   rw[e3]
   dsimp only [zgn]
   rw[zh]
   exact zeu I xs (k+1) (acc++[y]) σ1 st2 _ w s' fun ys σ st h=>q (y::ys) σ st (ln _ _ _ (by rw[List.append_assoc] at h;exact h))
theorem znu {bd:SG} {c:ST} {f:SE} {Q:List D→Store→Prop} (I:Nat→List D→DS→Store→Prop) {xs:List D} {σ:DS} {st:Store} (h0:I 0 [] σ st)
  (s:∀i x acc σ st,xs[i]?=some x→I i acc σ st→∃σ1,bd x σ=some σ1∧WP (c σ1 st) (fun b st1=>if b=true then WP (f σ1 st1) (fun y st2=>I (i+1) (acc++[y]) σ1 st2) else I (i+1) acc σ1 st1))
  (q:∀ys σ st,I xs.length ys σ st→Q ys st):WP (compF bd c f xs σ st) Q :=
 zeu I xs 0 [] σ st Q h0 (fun i x acc σ st hx hi=>by rw[Nat.zero_add] at hi ⊢;exact s i x acc σ st hx hi) fun ys σ st h=>q ys σ st (by rw[Nat.zero_add] at h;simpa using h)
theorem wp_map {bd:SG} {c:ST} {f:SE} {α:Type} (S:DS→Prop) (P:α→Bool) (G:α→D) (E:α→D) {as:List α} {σ:DS} {st:Store} {Q:List D→Store→Prop} (h0:S σ)
  (s:∀x∈as,∀σ,S σ→∃σ1,bd (E x) σ=some σ1∧S σ1∧WP (c σ1 st) (fun b st1=>st1=st∧b=P x)∧(P x=true→WP (f σ1 st) (fun y st1=>st1=st∧y=G x)))
  (q:Q ((as.filter P).map G) st):WP (compF bd c f (as.map E) σ st) Q:=by
 refine znu (fun i acc σ s'=>S σ∧s'=st∧acc=((as.take i).filter P).map G) ⟨h0,rfl,rfl⟩ (fun i x acc σ s' hx hI=>?_) fun ys σ s' hI=>?_
 ·obtain ⟨hS,rfl,rfl⟩:=hI
  rw[List.getElem?_map] at hx
  obtain ⟨z,hz,rfl⟩:=Option.map_eq_some_iff.mp hx
  obtain ⟨σ1,e1,hS1,w1,w2⟩:=s z (List.mem_of_getElem? hz) σ hS
  refine ⟨σ1,e1,w1.mono fun b st1 hb=>?_⟩
  obtain ⟨rfl,rfl⟩:=hb
  cases hP:P z with
  | false =>
   rw[if_neg (by decide)]
   refine ⟨hS1,rfl,?_⟩
   rw[zj hz,List.filter_append,List.filter_cons_of_neg (by rw[hP];decide)]
   simp
  | true =>
   rw[if_pos rfl]
   refine (w2 hP).mono fun y st2 hy=>?_
   obtain ⟨rfl,rfl⟩:=hy
   refine ⟨hS1,rfl,?_⟩
   rw[zj hz,List.filter_append,List.filter_cons_of_pos hP,List.map_append]
   simp
 ·obtain ⟨_,rfl,rfl⟩:=hI
  rw[List.length_map,List.take_length]
  exact q
end Dd
set_option maxHeartbeats 4000000
namespace Dd
open PySem L2
theorem V:(∀{α:Type} {a b:α} {l:List α},(a::l).set 0 b=b::l)
 ∧ (∀{α:Type} {a b:α} {l:List α} {i:Nat},(a::l).set (i+1) b=a::l.set i b)
 ∧ (∀{σ:DS} {k:Nat} {is:List Nat},startD k is σ=List.replicate k none++is.map fun i=>(σ[i]?).getD none)
 ∧ (∀{α:Type} {a:α} {k:Nat},List.replicate (k+1) a=a::List.replicate k a)
 ∧ (∀{α:Type} {a:α},List.replicate 0 a=[])
 ∧ (∀{α β:Type} {f:α→β} {a:α} {l:List α},(a::l).map f=f a::l.map f)
 ∧ (∀{α β:Type} {f:α→β},([]:List α).map f=[])
 ∧ (∀{α:Type} {a:α} {l m:List α},(a::l)++m=a::(l++m))
 ∧ (∀{α:Type} {l:List α},[]++l=l)
 ∧ (∀{α:Type} {a:α} {l:List α},(a::l)[0]?=some a)
 ∧ (∀{α:Type} {a:α} {l:List α} {i:Nat},(a::l)[i+1]?=l[i]?)
 ∧ (∀{α:Type} {a:α} {d:α},(some a).getD d=a)
 ∧ (∀{i:Nat} {d:D} {σ:DS},gN i d σ=some (σ.set i (some d)))
 ∧ (∀{p:Prop} [Decidable p],(decide p=true)=p)
 ∧ (∀{p:Prop} [Decidable p],((!decide p)=true)=¬ p)
 ∧ (∀{b:Bool},((!b)=true)=(b=false))
 ∧ (∀{a b:Prop},(if True then a else b)=a)
 ∧ (∀{a b:Prop},(if False then a else b)=b)
 ∧ (∀{a b:Prop},(if true=true then a else b)=a)
 ∧ (∀{a b:Prop},(if false=true then a else b)=b)
 ∧ (∀{α:Type} {a b:α},(if True then a else b)=a)
 ∧ (∀{α:Type} {a b:α},(if False then a else b)=b)
 ∧ ((true=false)=False)∧((false=true)=False)∧((true=true)=True)∧((false=false)=True)∧((¬ True)=False)∧((¬ False)=True):=by
 refine ⟨rfl,rfl,rfl,rfl,rfl,rfl,rfl,rfl,rfl,rfl,?_,rfl,rfl,?_,?_,?_,rfl,rfl,rfl,rfl,rfl,rfl,by simp,by simp,by simp,by simp,by simp,by simp⟩
 ·intros;rfl
 ·intro p _;simp
 ·intro p _;simp
 ·intro b;simp
theorem M:(∀{f:SE} {σ:DS} {st:Store} {Q:Option Int→Store→Prop},WP (pSome f σ st) Q=WP (f σ st) (fun v st1=>∃i,v=.int i∧Q (some i) st1))
 ∧ (∀{σ:DS} {st:Store} {Q:Option Int→Store→Prop},WP (pNone σ st) Q=Q none st)
 ∧ (∀{f:SE} {lo hi:DS→Store→Res (Option Int)} {σ:DS} {st:Store} {Q:D→Store→Prop},WP (eSl f lo hi σ st) Q=WP (f σ st) (fun x st1=>WP (lo σ st1) (fun l st2=>WP (hi σ st2) (fun h st3=>(∃xs,x=.tup xs∧Q (.tup (cutD xs l h)) st3)∨(∃xs,asL st3 x=some xs∧Q (.lst (cutD xs l h)) st3)))))
 ∧ (∀{f:SE} {σ:DS} {st:Store} {Q:D→Store→Prop},WP (eFz f σ st) Q=WP (f σ st) (fun x st1=>∃n xs,x=.ref n∧st1[n]?=some (.lst xs)∧Q (.lst xs) (st1.set n .dead)))
 ∧ (∀{f g h:SE} {σ:DS} {st:Store} {Q:Fl→Store→Prop},WP (sSetIx f g h σ st) Q=WP (h σ st) (fun v st1=>WP (f σ st1) (fun x st2=>WP (g σ st2) (fun y st3=>∃n k xs j,x=.ref n∧y=.int k∧st3[n]?=some (.lst xs)∧ixN xs.length k=some j∧Q (.nx σ) (st3.set n (.lst (xs.set j v)))))))
 ∧ (∀{f:SE} {g:SA} {σ:DS} {st:Store} {Q:D→Store→Prop},WP (eAppend f g σ st) Q=WP (f σ st) (fun x st1=>∃n xs0,x=.ref n∧st1[n]?=some (.lst xs0)∧WP (g σ st1) (fun ys st2=>∃y xs,ys=[y]∧st2[n]?=some (.lst xs)∧xs.length < sizeLine∧Q .non (st2.set n (.lst (xs++[y]))))))
 ∧ (∀{x:D} {st:Store} {Q:D→Store→Prop},WP (bSum [x] st) Q=∃ns,(seqOf st x).bind asInts=some ns∧Q (.int ns.sum) st)
 ∧ (∀{x:D} {al:Bool} {st:Store} {Q:D→Store→Prop},WP (bAny al [x] st) Q=∃bs,(asL st x).bind asBools=some bs∧Q (.bl (if al then bs.all id else bs.any id)) st)
 ∧ (∀{x:D} {gt:Bool} {st:Store} {Q:D→Store→Prop},WP (bBest gt [x] st) Q=∃n ns,(seqOf st x).bind asInts=some (n::ns)∧Q (.int (bestI gt n ns)) st)
 ∧ (∀{g:SA} {σ:DS} {st:Store} {Q:List D→Store→Prop},WP (iZipT g σ st) Q=WP (g σ st) (fun xs st1=>∃a b,xs=[.tup a,.tup b]∧Q (pairsF a b) st1))
 ∧ (∀{i:Nat} {g:D→D→Store→Res D} {f:SE} {σ:DS} {st:Store} {Q:Fl→Store→Prop},WP (sAug i g f σ st) Q=∃x,σ[i]?=some (some x)∧WP (f σ st) (fun y st1=>WP (g x y st1) (fun z st2=>Q (.nx (σ.set i (some z))) st2))):=by
 refine ⟨?_,rfl,?_,?_,?_,?_,?_,?_,?_,?_,?_⟩
 ·intros;rw[zbbv,zh];congr;funext x st1
  cases x<;>simp[WP]
 ·intros;rw[eSl_v,zh];congr;funext x st1;rw[zh];congr;funext l st2;rw[zh];congr;funext h st3
  apply propext
  split
  ·constructor
   ·intro q;exact .inl ⟨_,rfl,q⟩
   ·rintro (⟨xs,e,q⟩ | ⟨xs,e,q⟩)
    ·cases e;exact q
    ·cases e
  ·rename_i hne
   constructor
   ·intro q
    split at q
    ·rename_i xs e;exact .inr ⟨xs,e,q⟩
    ·exact q.elim
   ·rintro (⟨xs,e,q⟩ | ⟨xs,e,q⟩)
    ·exact absurd e (hne xs)
    ·rw[e];exact q
 ·intros;rw[eFz_v,zh];congr;funext x st1
  apply propext
  constructor
  ·intro q
   split at q
   ·split at q
    ·rename_i xs e;exact ⟨_,xs,rfl,e,q⟩
    ·exact q.elim
   ·exact q.elim
  ·rintro ⟨n,xs,rfl,e,q⟩
   dsimp only
   rw[e];exact q
 ·intros;rw[zyd,zh];congr;funext v st1;rw[zh];congr;funext x st2;rw[zh];congr;funext y st3
  apply propext
  constructor
  ·intro q
   split at q
   ·split at q
    ·split at q
     ·exact ⟨_,_,_,_,rfl,rfl,by assumption,by assumption,q⟩
     ·exact q.elim
    ·exact q.elim
   ·exact q.elim
  ·rintro ⟨n,k,xs,j,rfl,rfl,e1,e2,q⟩
   dsimp only
   rw[e1]
   dsimp only
   rw[e2]
   exact q
 ·intros;rw[zvn,zh];congr;funext x st1
  apply propext
  constructor
  ·intro q
   split at q
   ·rename_i n xs0 e
    rw[zh] at q
    have e':st1[n]?=some (.lst xs0):=by
     unfold asL at e
     dsimp only at e
     split at e
     ·cases e;assumption
     ·cases e
    refine ⟨n,xs0,rfl,e',q.mono fun ys st2 h=>?_⟩
    split at h
    ·split at h
     ·exact ⟨_,_,rfl,by assumption,by assumption,h⟩
     ·exact h.elim
    ·exact h.elim
   ·exact q.elim
  ·rintro ⟨n,xs0,rfl,e,q⟩
   rw[zmi e]
   dsimp only
   rw[zh]
   refine q.mono fun ys st2 h=>?_
   obtain ⟨y,xs,rfl,e2,hl,h⟩:=h
   rw[e2]
   dsimp only
   rw[if_pos hl]
   exact h
 ·intro x st Q
  unfold bSum
  dsimp only
  cases h:(seqOf st x).bind asInts with
  | none=>simp[WP]
  | some ns=>simp[WP]
 ·intro x al st Q
  unfold bAny
  dsimp only
  cases h:(asL st x).bind asBools with
  | none=>simp[WP]
  | some ns=>simp[WP]
 ·intro x gt st Q
  unfold bBest
  dsimp only
  cases h:(seqOf st x).bind asInts with
  | none=>simp[WP]
  | some ns =>
   cases ns with
   | nil=>simp[WP]
   | cons n ns =>
    apply propext
    constructor
    ·intro q;exact ⟨_,_,rfl,q⟩
    ·rintro ⟨a,b,e,q⟩;cases e;exact q
 ·intro g σ st Q
  unfold iZipT
  rw[zh];congr;funext x st1
  apply propext
  constructor
  ·intro q
   split at q
   ·exact ⟨_,_,rfl,q⟩
   ·exact q.elim
  ·rintro ⟨a,b,rfl,q⟩
   exact q
 ·intro i g f σ st Q
  rw[sAug_v]
  apply propext
  constructor
  ·intro q
   split at q
   ·rename_i x e
    rw[zh] at q
    exact ⟨x,e,q.mono fun y st1 h=>by rw[zh] at h;exact h⟩
   ·exact q.elim
  ·rintro ⟨x,e,q⟩
   rw[e]
   dsimp only
   rw[zh]
   exact q.mono fun y st1 h=>by rw[zh];exact h
theorem N:(∀{xs:List D} {P:List D→Prop},(∃ys,D.tup xs=D.tup ys∧P ys)=P xs)
 ∧ (∀{i:Int} {P:Int→Prop},(∃j,D.int i=D.int j∧P j)=P i)
 ∧ (∀{xs:List D} {st:Store} {P:List D→Prop},(∃ys,asL st (.tup xs)=some ys∧P ys)=False)
 ∧ (∀{xs:List D} {st:Store} {P:List D→Prop},(∃ys,asL st (.lst xs)=some ys∧P ys)=P xs)
 ∧ (∀{xs:List D} {P:List D→Prop},(∃ys,seqV (.tup xs)=some ys∧P ys)=P xs)
 ∧ (∀{xs:List D} {P:List D→Prop},(∃ys,seqV (.lst xs)=some ys∧P ys)=P xs)
 ∧ (∀{b:Bool} {st:Store} {P:Bool→Prop},(∃c,tru st (.bl b)=some c∧P c)=P b)
 ∧ (∀{i:Int} {P:Int→Prop},(∃j,[D.int i]=[D.int j]∧P j)=P i)
 ∧ (∀{i j:Int} {P:Int→Int→Prop},(∃k l,[D.int i,D.int j]=[D.int k,D.int l]∧P k l)=P i j)
 ∧ (∀{x:D} {P:D→Prop},(∃y,[x]=[y]∧P y)=P x)
 ∧ (∀{a b:List D} {P:List D→List D→Prop},(∃c d,[D.tup a,D.tup b]=[.tup c,.tup d]∧P c d)=P a b)
 ∧ (∀{p:Prop},(p∨False)=p)∧(∀{p:Prop},(True∧p)=p):=by
 refine ⟨?_,?_,?_,?_,?_,?_,?_,?_,?_,?_,?_,by simp,by simp⟩
 ·intros;apply propext;exact ⟨fun ⟨_,e,p⟩=>by cases e;exact p,fun p=>⟨_,rfl,p⟩⟩
 ·intros;apply propext;exact ⟨fun ⟨_,e,p⟩=>by cases e;exact p,fun p=>⟨_,rfl,p⟩⟩
 ·intros;apply propext;exact ⟨fun ⟨_,e,p⟩=>(by cases e),fun p=>p.elim⟩
 ·intros;apply propext;exact ⟨fun ⟨_,e,p⟩=>by cases e;exact p,fun p=>⟨_,rfl,p⟩⟩
 ·intros;apply propext;exact ⟨fun ⟨_,e,p⟩=>by cases e;exact p,fun p=>⟨_,rfl,p⟩⟩
 ·intros;apply propext;exact ⟨fun ⟨_,e,p⟩=>by cases e;exact p,fun p=>⟨_,rfl,p⟩⟩
 ·intros;apply propext;exact ⟨fun ⟨_,e,p⟩=>by cases e;exact p,fun p=>⟨_,rfl,p⟩⟩
 ·intros;apply propext;exact ⟨fun ⟨_,e,p⟩=>by cases e;exact p,fun p=>⟨_,rfl,p⟩⟩
 ·intros;apply propext;exact ⟨fun ⟨_,_,e,p⟩=>by cases e;exact p,fun p=>⟨_,_,rfl,p⟩⟩
 ·intros;apply propext;exact ⟨fun ⟨_,e,p⟩=>by cases e;exact p,fun p=>⟨_,rfl,p⟩⟩
 ·intros;apply propext;exact ⟨fun ⟨_,_,e,p⟩=>by cases e;exact p,fun p=>⟨_,_,rfl,p⟩⟩
section
variable {st:Store} {n:Nat} {Q:D→Store→Prop}
theorem zcx {m:Int} (hb:BagAt st n) (h1:1≤m) (h2:m≤1000000) (k:∀r st',0≤r→r < m→Drew st st' n→Q (.int r) st'):WP (zi [.ref n,.int m] st) Q:=by
 obtain ⟨r,st',e,a1,a2,a3,_⟩:=zwh hb h1 (Int.lt_of_le_of_lt h2 (by decide +kernel))
 exact WP.of e (k r st' a1 a2 a3)
theorem ix_wp {x:D} {xs:List D} {i:Int} {d:D} (h:seqOf st x=some xs) (h2:L2.atI xs i=some d) (q:Q d st):WP (oIx x (.int i) st) Q:=WP.of (oIx_of h h2) q
theorem zqz {xs:List D} {i:Int} (h0:0≤i) (h1:i < xs.length) (q:∀d∈xs,Q d st):WP (oIx (.lst xs) (.int i) st) Q:=by
 obtain ⟨j,rfl⟩:=Int.eq_ofNat_of_zero_le h0
 have hj:j < xs.length:=by (first|assumption|lia)
 exact ix_wp (xs:=xs) (d:=xs[j]) rfl (zkr (List.getElem?_eq_getElem hj)) (q _ (List.getElem_mem hj))
theorem bag_wp {ns:List Int} {i:Nat} (hl:ns.length≤63) (hi:i≤100000) (k:∀g,BagAt (st++g) st.length→Q (.ref st.length) (st++g)):WP (zeo [.scr (ns.map .int),.int i] st) Q:=by
 obtain ⟨c,x,hc,hx,e⟩:=bag_ok (st:=st) hl hi
 exact WP.of e (k _ ⟨c,x,by simp,hc,hx⟩)
end
end Dd
set_option maxHeartbeats 4000000
namespace Dd
open PySem L2
end Dd
set_option maxHeartbeats 4000000
namespace Dd
open PySem L2
theorem BagAt.lt {st:Store} {n:Nat} (h:BagAt st n):n < st.length:=by obtain ⟨c,x,e,_⟩:=h;exact zcd e
theorem zho {r:List Int} {P:Int→Prop} (h:∀x∈r,P x) {y:Int} (hy:P y):∀x∈r++[y],P x:=fun x hx=>by
 rcases List.mem_append.mp hx with hx | hx
 ·exact h x hx
 ·simp at hx;subst hx;exact hy
theorem zel {α:Type} (l:List α):(l.filter fun _=>true)=l:=List.filter_eq_self.mpr (by simp)
theorem ziz {α:Type} (P:α→Bool):∀as:List α,asBools (as.map fun x=>.bl (P x))=some (as.map P)
 | []=>rfl
 | x::as=>by rw[List.map_cons,asBools,ziz P as];rfl
section
variable {st:Store} {n:Nat} {Q:D→Store→Prop}
theorem zrz (hb:BagAt st n) (k:∀(m:Int) st',1≤m→m≤10→Drew st st' n→Q (.int m) st'):WP (zca [.ref n] st) Q:=by
 refine wp_fn rfl ?_
 simp only[W,V]
 refine zcx hb (by (first|assumption|lia)) (by (first|assumption|lia)) fun r st1 h1 h2 d1=>?_
 simp only[W,V]
 refine ⟨small _ (by simp),?_⟩
 refine zcx d1.bag (by (first|assumption|lia)) (by (first|assumption|lia)) fun r2 st2 h3 h4 d2=>?_
 refine zqz h3 (by simp;(first|assumption|lia)) fun d hd=>?_
 simp only[List.mem_cons,List.not_mem_nil,or_false] at hd
 rcases hd with rfl | rfl | rfl | rfl | rfl | rfl | rfl | rfl | rfl | rfl | rfl<;>exact k _ _ (by (first|assumption|lia)) (by (first|assumption|lia)) (d1.trans d2)
theorem zqh (l:List Int) (j:Nat):(l.drop j++l.take j).length=l.length:=by rw[List.length_append,Nat.add_comm,← List.length_append,List.take_append_drop]
theorem zxw {l:List Int} {j:Nat} {s:Store} (h:l.length≤sizeLine):oAdd (.lst ((l.drop j).map .int)) (.lst ((l.take j).map .int)) s=.ok (.lst ((l.drop j++l.take j).map .int)) s:=by
 show (if _≤sizeLine then Res.ok (D.lst _) s else .stuck)=_
 rw[if_pos,List.map_append]
 rw[List.length_map,List.length_map,← List.length_append,zqh]
 exact h
theorem zrj {x:D} {l:List (List Int)} (hx:seqV x=some (rowsD l)) (hl:l.length≤1000000) (k:∀g,Q (sumD (oddS l)) (st++g)):WP (zbd [x] st) Q:=by
 have h1:=zei l
 obtain ⟨g,e⟩:=zpv (st:=st) hx (by (first|assumption|lia)) (by (first|assumption|lia))
 exact WP.of e (k g)
theorem few_ix {a b:Int} {p:Prop} [Decidable p] {st:Store} {Q:D→Store→Prop} (q:Q (.int (if p then b else a)) st):WP (oIx (.lst [.int a,.int b]) (.int (if p then 1 else 0)) st) Q:=by
 by_cases h:p
 ·simp only[h,if_true] at q ⊢
  exact ix_wp (xs:=[.int a,.int b]) rfl rfl q
 ·simp only[h,if_false] at q ⊢
  exact ix_wp (xs:=[.int a,.int b]) rfl rfl q
end
end Dd
set_option maxHeartbeats 4000000
namespace Dd
open PySem L2
section
variable {st:Store} {n:Nat} {Q:D→Store→Prop}
end
end Dd
set_option maxHeartbeats 4000000
namespace Dd
open PySem L2
section
variable {S:D} {v1 v2 v5 v6 v7 v8:Option D} {N:Int} {l:List (List Int)} {st:Store} {I:DS→Store→Prop} {Q:Fl→Store→Prop}
end
end Dd
namespace K61
end K61
set_option maxHeartbeats 4000000
namespace Dd
open PySem L2
section
variable {k:Nat} {d:D} {st:Store}
end
section
variable {k:Nat} {d:D} {st:Store} {Q:D→Store→Prop}
end
end Dd
set_option maxHeartbeats 4000000
namespace Dd
open PySem L2
section
variable {k:Nat} {d:D} {st:Store} {Q:D→Store→Prop}
end
end Dd
set_option maxHeartbeats 4000000
namespace Dd
open PySem L2
theorem zeq {s t:SS} {σ:DS} {st:Store} {Q R:Fl→Store→Prop} (h:WP (s σ st) R) (k:∀fl s',R fl s'→seqK t Q fl s'):WP (sSeq s t σ st) Q:=by
 rw[wp_seq]
 exact h.mono k
section
variable {st:Store} {n:Nat} {Q:D→Store→Prop}
end
end Dd
set_option maxHeartbeats 4000000
namespace Dd
open PySem L2
section
variable {st:Store} {n:Nat} {Q:D→Store→Prop}
theorem zbcs {ks:List (List Int)} {k:List Int} (h:st[n]?=some (.dT (trueD ks))) (hl:ks.length≤1000000) (q:Q .non (st.set n (.dT (trueD (flipL ks k))))):WP (F_flip [.ref n,rowD k] st) Q:=WP.of (zbct h hl) q
theorem ztx {ks:List (List Int)} (h:st[n]?=some (.dT (trueD ks))) (hl:ks.length≤1000000) (q:Q (.lst (rowsD (sortR ks))) st):WP (bSorted [.ref n] st) Q:=WP.of (zpi h hl) q
end
end Dd
set_option maxHeartbeats 4000000
namespace Dd
open PySem L2
section
variable {st:Store} {n:Nat} {Q:D→Store→Prop}
theorem zyz {l:List (List Int)} {r:List Int} {P:List Int→Prop} (h:∀x∈l,P x) (hr:P r):∀x∈l++[r],P x:=fun x hx=>by
 rcases List.mem_append.mp hx with hx | hx
 ·exact h x hx
 ·simp at hx;subst hx;exact hr
end
end Dd
namespace K03
end K03
namespace K13
open PySem PyProof.Rows
noncomputable abbrev In (e y:Nat):Prop:=e &&& y=y
theorem In.le {e y:Nat} (h:In e y):y≤e:=by rw[← h];exact Nat.and_le_left
noncomputable def subL (e:Nat) (lo hi:Int) (n:Nat):List Nat:=(List.range n).filter fun x=>decide (e &&& x=x∧lo≤x∧(x:Int)≤hi)
theorem ztv (e:Nat) (lo hi:Int) (n:Nat):subL e lo hi (n+1)=subL e lo hi n++(if e &&& n=n∧lo≤n∧(n:Int)≤hi then [n] else []):=by
 unfold subL
 rw[List.range_succ,List.filter_append]
 congr 1
 by_cases c:e &&& n=n∧lo≤n∧(n:Int)≤hi
 ·rw[if_pos c]
  exact List.filter_cons_of_pos (p:=fun x:Nat=>decide (e &&& x=x∧lo≤x∧(x:Int)≤hi)) (decide_eq_true c)
 ·rw[if_neg c]
  exact List.filter_cons_of_neg (p:=fun x:Nat=>decide (e &&& x=x∧lo≤x∧(x:Int)≤hi)) (by rw[decide_eq_false c];decide)
theorem znz {e:Nat} {lo hi:Int} {n:Nat}:∀(k:Nat),(∀x,n≤x→x < n+k→¬ (e &&& x=x∧lo≤x∧(x:Int)≤hi))→subL e lo hi (n+k)=subL e lo hi n
 | 0,_=>rfl
 | k+1,h=>by
  rw[← Nat.add_assoc,ztv,if_neg (h _ (by (first|assumption|lia)) (by (first|assumption|lia))),List.append_nil]
  exact znz k fun x h1 h2=>h x h1 (by (first|assumption|lia))
theorem zmm (e:Nat) (lo hi:Int) (n:Nat):(subL e lo hi n).length≤n:=by
 have:=List.length_filter_le (fun x=>decide (e &&& x=x∧lo≤x∧(x:Int)≤hi)) (List.range n)
 rw[List.length_range] at this
 exact this
noncomputable def sharesL (e:Nat) (lo hi:Int):List Nat:=subL e lo hi (e+1)
theorem zcf {e j:Nat} {lo hi:Int}:j∈sharesL e lo hi↔(In e j∧lo≤j∧(j:Int)≤hi):=by
 unfold sharesL subL
 rw[List.mem_filter,List.mem_range,decide_eq_true_eq]
 exact ⟨fun h=>h.2,fun h=>⟨Nat.lt_succ_of_le h.1.le,h⟩⟩
end K13
set_option maxHeartbeats 4000000
namespace Dd
open PySem L2 K13
section
variable {st:Store} {n:Nat} {Q:D→Store→Prop}
end
end Dd
set_option maxHeartbeats 4000000
namespace Dd
open PySem L2 K13
noncomputable abbrev Pt:=List Int × Int
noncomputable def ptD (p:Pt):D:=.tup [rowD p.1,.int p.2]
noncomputable def letJ (e:Nat) (rest:Int) (p:Pt):List Pt:=(sharesL e (p.2 - rest) p.2).map fun j:Nat=>(p.1++[(e:Int)+(j:Int)],p.2 - (j:Int))
noncomputable def letL (e:Nat) (rest:Int) (ps:List Pt):List Pt:=ps.flatMap (letJ e rest)
theorem zzg (e:Nat) (rest:Int) (p:Pt):(letJ e rest p).length≤e+1:=by
 unfold letJ
 rw[List.length_map]
 exact zmm _ _ _ _
theorem zsa (e:Nat) (rest:Int):∀ps:List Pt,(letL e rest ps).length≤ps.length * (e+1)
 | []=>by simp[letL]
 | p::ps=>by
  have e1:letL e rest (p::ps)=letJ e rest p++letL e rest ps:=by simp[letL]
  have:=zsa e rest ps
  have:=zzg e rest p
  rw[e1,List.length_append,List.length_cons,Nat.succ_mul]
  (first|assumption|lia)
section
variable {st:Store} {n:Nat} {Q:D→Store→Prop}
theorem zkz (o o':O) (g:Store):(st++o::g).set st.length o'=st++o'::g:=by simp
theorem zgk (o:O) (g:Store):(st++o::g)[st.length]?=some o:=by simp
theorem zlp {α:Type} {f:α→D} {l:List α} {i:Nat} {x:D} (h:(l.map f)[i]?=some x):∃a,l[i]?=some a∧x=f a:=by
 rw[List.getElem?_map] at h
 obtain ⟨a,h1,h2⟩:=Option.map_eq_some_iff.mp h
 exact ⟨a,h1,h2.symm⟩
noncomputable def stepP (s:Int × List Pt) (e:Int):Int × List Pt:=(s.1 - e,letL e.toNat (s.1 - e) s.2)
noncomputable def prodS (r:List Int) (k:Int) (m:List Int):Int × List Pt:=m.foldl stepP (r.sum,[([],k)])
noncomputable def prodP (r:List Int) (k:Int):List (List Int):=(prodS r k r).2.map (·.1)
noncomputable def box:List Int→Nat
 | []=>1
 | e::r=>(e.toNat+1) * box r
theorem zcj:∀a b:List Int,box (a++b)=box a * box b
 | [],b=>by simp[box]
 | e::a,b=>by rw[List.cons_append,box,box,zcj a b,Nat.mul_assoc]
theorem zxn:∀a:List Int,1≤box a
 | []=>Nat.le_refl _
 | e::a=>by have:=zxn a;unfold box;exact Nat.le_trans this (Nat.le_mul_of_pos_left _ (by (first|assumption|lia)))
theorem zta (r:List Int) (i:Nat):box (r.take i)≤box r:=by
 have e:=zcj (r.take i) (r.drop i)
 rw[List.take_append_drop] at e
 rw[e]
 exact Nat.le_mul_of_pos_right _ (zxn _)
theorem zqx (r:List Int) (k:Int) (m:List Int) (e:Int):prodS r k (m++[e])=stepP (prodS r k m) e:=by unfold prodS;rw[List.foldl_append];rfl
theorem zug {r:List Int} {k:Int} {P:List Int→Int × List Pt→Prop} (h0:P [] (r.sum,[([],k)])) (h:∀m e s,P m s→P (m++[e]) (stepP s e)):∀(i:Nat),P (r.take i) (prodS r k (r.take i)):=fun i=>by
 induction i with
 | zero=>exact h0
 | succ i ih =>
  by_cases c:i < r.length
  ·have g:r[i]?=some r[i]:=List.getElem?_eq_getElem c
   rw[zj g,zqx]
   exact h _ _ _ ih
  ·rw[List.take_of_length_le (by (first|assumption|lia))] at ih ⊢
   exact ih
theorem zuf (r:List Int) (k:Int) (i:Nat):(prodS r k (r.take i)).2.length≤box (r.take i):=by
 refine zug (P:=fun m s=>s.2.length≤box m) (by simp[box]) (fun m e s hs=>?_) i
 have:=zsa e.toNat (s.1 - e) s.2
 rw[zcj]
 show (letL e.toNat (s.1 - e) s.2).length≤box m * ((e.toNat+1) * 1)
 rw[Nat.mul_one]
 exact Nat.le_trans this (Nat.mul_le_mul_right _ hs)
theorem zuh (r:List Int) (k:Int):(prodP r k).length≤box r:=by
 have:=zuf r k r.length
 rw[List.take_length] at this
 unfold prodP
 rw[List.length_map]
 exact this
noncomputable def raiseR (k:Int) (r:List Int):List (List Int):=if k≤r.sum then prodP r k else []
noncomputable def raiseL (k:Int) (l:List (List Int)):List (List Int):=l.flatMap (raiseR k)
theorem zlg {k:Int} {r:List Int} {B:Nat} (h:box r≤B):(raiseR k r).length≤B:=by
 unfold raiseR
 split
 ·exact Nat.le_trans (zuh r k) h
 ·simp
theorem zlh {k:Int} {B:Nat}:∀{l:List (List Int)},(∀r∈l,box r≤B)→(raiseL k l).length≤l.length * B
 | [],_=>by simp[raiseL]
 | r::l,h=>by
  have e:raiseL k (r::l)=raiseR k r++raiseL k l:=by simp[raiseL]
  have h1:=zlg (k:=k) (h r List.mem_cons_self)
  have h2:=zlh (k:=k) (l:=l) fun x hx=>h x (List.mem_cons_of_mem _ hx)
  rw[e,List.length_append,List.length_cons,Nat.succ_mul]
  (first|assumption|lia)
theorem zpl (k:Int) (l:List (List Int)) (r:List Int):raiseL k (l++[r])=raiseL k l++raiseR k r:=by simp[raiseL]
end
end Dd
set_option maxHeartbeats 4000000
namespace Dd
open PySem L2 K13
theorem nn_sum:∀{r:List Int},(∀x∈r,0≤x)→0≤r.sum
 | [],_=>by simp
 | x::r,h=>by
  have:=nn_sum (r:=r) fun y hy=>h y (List.mem_cons_of_mem _ hy)
  have:=h x List.mem_cons_self
  rw[List.sum_cons]
  (first|assumption|lia)
theorem nn_le:∀{r:List Int},(∀x∈r,0≤x)→∀x∈r,x≤r.sum
 | [],_,_,h=>nomatch h
 | y::r,h,x,hx=>by
  have h1:=fun z hz=>h z (List.mem_cons_of_mem y hz)
  have h2:=nn_sum h1
  have h3:=h y List.mem_cons_self
  rw[List.sum_cons]
  rcases List.mem_cons.mp hx with rfl | hx
  ·(first|assumption|lia)
  ·have:=nn_le h1 x hx;(first|assumption|lia)
theorem ztw (e:Int) (suf:List Int) (ps:List Pt):(e::suf).foldl stepP ((e::suf).sum,ps)=suf.foldl stepP (suf.sum,letL e.toNat suf.sum ps):=by
 rw[List.foldl_cons,List.sum_cons]
 unfold stepP
 dsimp only
 rw[show e+suf.sum - e=suf.sum by (first|assumption|lia)]
theorem ztb:∀{r:List Int},(∀x∈r,x≤24)→box r≤25 ^ r.length
 | [],_=>Nat.le_refl _
 | e::r,h=>by
  have h1:=h e List.mem_cons_self
  have h2:=ztb (r:=r) fun x hx=>h x (List.mem_cons_of_mem _ hx)
  rw[List.length_cons,Nat.pow_succ,Nat.mul_comm]
  exact Nat.mul_le_mul (by (first|assumption|lia)) h2
theorem zsz:∀{r:List Int},(∀x∈r,0≤x)→box r≤2 ^ r.sum.toNat
 | [],_=>by simp[box]
 | e::r,h=>by
  have h1:=h e List.mem_cons_self
  have h1':=fun x hx=>h x (List.mem_cons_of_mem e hx)
  have h2:=zsz h1'
  have h3:=nn_sum h1'
  rw[List.sum_cons,show (e+r.sum).toNat=e.toNat+r.sum.toNat by (first|assumption|lia),Nat.pow_add]
  exact Nat.mul_le_mul (Nat.succ_le_of_lt Nat.lt_two_pow_self) h2
section
variable {st:Store} {n:Nat} {Q:D→Store→Prop}
theorem zxy {m:Int} (hb:BagAt st n) (h1:1≤m) (h2:m < 2 ^ 1000) (k:∀r st',0≤r→r < m→Drew st st' n→Q (.int r) st'):WP (zi [.ref n,.int m] st) Q:=by
 obtain ⟨r,st',e,a1,a2,a3,_⟩:=zwh hb h1 h2
 exact WP.of e (k r st' a1 a2 a3)
end
end Dd
namespace K13
end K13
set_option maxHeartbeats 4000000
namespace Dd
open PySem L2 K13
theorem zjc {f:SE} {g:SA} {σ:DS} {st:Store} {Q:D→Store→Prop}:WP (eExtend f g σ st) Q=WP (f σ st) (fun x st1=>∃n xs0,x=.ref n∧st1[n]?=some (.lst xs0)∧WP (g σ st1) (fun ys st2=>∃y xs zs,ys=[y]∧st2[n]?=some (.lst xs)∧asL st2 y=some zs∧xs.length+zs.length≤sizeLine∧Q .non (st2.set n (.lst (xs++zs))))):=by
 rw[zvm,zh]
 congr
 funext x st1
 apply propext
 constructor
 ·intro q
  split at q
  ·rename_i n xs0 e
   rw[zh] at q
   have e':st1[n]?=some (.lst xs0):=by
    unfold asL at e
    dsimp only at e
    split at e
    ·cases e;assumption
    ·cases e
   refine ⟨n,xs0,rfl,e',q.mono fun ys st2 h=>?_⟩
   split at h
   ·split at h
    ·split at h
     ·exact ⟨_,_,_,rfl,by assumption,by assumption,by assumption,h⟩
     ·exact h.elim
    ·exact h.elim
   ·exact h.elim
  ·exact q.elim
 ·rintro ⟨n,xs0,rfl,e,q⟩
  rw[zmi e]
  dsimp only
  rw[zh]
  refine q.mono fun ys st2 h=>?_
  obtain ⟨y,xs,zs,rfl,e2,e3,hl,h⟩:=h
  rw[e2]
  dsimp only
  rw[e3]
  dsimp only
  rw[if_pos hl]
  exact h
section
variable {st:Store} {n:Nat} {Q:D→Store→Prop}
noncomputable def lawJ (e:Nat) (p:Pt):List Pt:=(sharesL e 0 p.2).map fun j:Nat=>(p.1++[(e:Int)+(j:Int)],p.2 - (j:Int))
noncomputable def lawL (e:Nat) (ps:List Pt):List Pt:=ps.flatMap (lawJ e)
theorem zsf (e:Nat) (p:Pt):(lawJ e p).length≤e+1:=by
 unfold lawJ
 rw[List.length_map]
 exact zmm _ _ _ _
theorem zvc (e:Nat) (ps:List Pt) (p:Pt):lawL e (ps++[p])=lawL e ps++lawJ e p:=by simp[lawL]
theorem znh (e:Nat):∀ps:List Pt,(lawL e ps).length≤ps.length * (e+1)
 | []=>by simp[lawL]
 | p::ps=>by
  have e1:lawL e (p::ps)=lawJ e p++lawL e ps:=by simp[lawL]
  have:=znh e ps
  have:=zsf e p
  rw[e1,List.length_append,List.length_cons,Nat.succ_mul]
  (first|assumption|lia)
theorem zrn {e:Nat} {ps:List Pt} {q:Pt}:q∈lawL e ps↔∃p∈ps,∃j:Nat,j∈sharesL e 0 p.2∧q=(p.1++[(e:Int)+(j:Int)],p.2 - (j:Int)):=by
 unfold lawL lawJ
 simp only[List.mem_flatMap,List.mem_map]
 constructor
 ·rintro ⟨p,hp,j,hj,rfl⟩;exact ⟨p,hp,j,hj,rfl⟩
 ·rintro ⟨p,hp,j,hj,rfl⟩;exact ⟨p,hp,j,hj,rfl⟩
theorem zqp {e:Nat} {left:Int} (h:0≤left):(List.range ((if left < (e:Int) then left else (e:Int))+1).toNat).filter (fun x=>decide (e &&& x=x))=sharesL e 0 left:=by
 have key:∀n:Nat,(n:Int)≤left+1→subL e 0 left n=(List.range n).filter (fun x=>decide (e &&& x=x)):=fun n hn=>by
  unfold subL
  refine List.filter_congr fun x hx=>?_
  have:=List.mem_range.mp hx
  have h1:(0:Int)≤(x:Int):=by (first|assumption|lia)
  have h2:(x:Int)≤left:=by (first|assumption|lia)
  simp[h1,h2]
 rw[← key _ (by split<;>(first|assumption|lia))]
 unfold sharesL
 split
 ·rename_i c
  obtain ⟨k,hk⟩:∃k,e+1=(left+1).toNat+k:=⟨e+1 - (left+1).toNat,by (first|assumption|lia)⟩
  rw[hk]
  exact (znz k fun x h1 h2 z=>by (first|assumption|lia)).symm
 ·rw[show ((e:Int)+1).toNat=e+1 by (first|assumption|lia)]
end
end Dd
set_option maxHeartbeats 4000000
namespace Dd
open PySem L2 K13
noncomputable def lawStep (ps:List Pt) (e:Int):List Pt:=lawL e.toNat ps
noncomputable def lawS (k:Int) (m:List Int):List Pt:=m.foldl lawStep [([],k)]
noncomputable def lawP (k:Int) (r:List Int):List (List Int):=((lawS k r).filter fun p=>decide (p.2=0)).map (·.1)
theorem zqq {e:Nat} {left S:Int} (h:0≤left):(sharesL e 0 left).filter (fun j:Nat=>decide (left - (j:Int)≤S))=sharesL e (left - S) left:=by
 unfold sharesL subL
 rw[List.filter_filter]
 refine List.filter_congr fun x _=>?_
 rw[← Bool.decide_and]
 exact decide_eq_decide.mpr ⟨fun h=>⟨h.2.1,by (first|assumption|lia),h.2.2.2⟩,fun h=>⟨by (first|assumption|lia),h.1,by (first|assumption|lia),h.2.2⟩⟩
theorem zva {e:Nat} {S:Int} {p:Pt} (h:¬ p.2≤e+S):letJ e S p=[]:=by
 unfold letJ
 have:sharesL e (p.2 - S) p.2=[]:=by
  refine List.eq_nil_iff_forall_not_mem.mpr fun j hj=>?_
  obtain ⟨h1,h2,h3⟩:=zcf.mp hj
  have:=h1.le
  (first|assumption|lia)
 rw[this]
 rfl
theorem zzk {e:Nat} {S:Int} {p:Pt} (h:0≤p.2):(lawJ e p).filter (fun q=>decide (q.2≤S))=letJ e S p:=by
 unfold lawJ letJ
 rw[List.filter_map,← zqq h]
 rfl
theorem zse {e:Nat} {S:Int}:∀{ps:List Pt},(∀p∈ps,0≤p.2)→(lawL e ps).filter (fun q=>decide (q.2≤S))=letL e S (ps.filter fun p=>decide (p.2≤e+S))
 | [],_=>rfl
 | p::ps,h=>by
  have ih:=zse (e:=e) (S:=S) (ps:=ps) fun q hq=>h q (List.mem_cons_of_mem _ hq)
  have e1:lawL e (p::ps)=lawJ e p++lawL e ps:=by simp[lawL]
  rw[e1,List.filter_append,ih,zzk (h p List.mem_cons_self)]
  by_cases c:p.2≤e+S
  ·rw[List.filter_cons_of_pos (by simpa using c)]
   simp[letL]
  ·rw[List.filter_cons_of_neg (by simpa using c),zva c]
   rfl
theorem zpa:∀(suf:List Int) (ps:List Pt),(∀x∈suf,0≤x)→(∀p∈ps,0≤p.2)→(suf.foldl lawStep ps).filter (fun p=>decide (p.2=0))=(suf.foldl stepP (suf.sum,ps.filter fun p=>decide (p.2≤suf.sum))).2
 | [],ps,_,h=>by
  show ps.filter _=ps.filter _
  refine List.filter_congr fun p hp=>?_
  have:=h p hp
  exact decide_eq_decide.mpr ⟨fun z=>by simp;(first|assumption|lia),fun z=>by simp at z;(first|assumption|lia)⟩
 | e::suf,ps,hs,h=>by
  have h1:=fun z hz=>hs z (List.mem_cons_of_mem e hz)
  have h3:=hs e List.mem_cons_self
  rw[ztw,List.foldl_cons,zpa suf (lawStep ps e) h1 (fun q hq=>?_)]
  ·unfold lawStep
   rw[zse h,List.sum_cons,show ((e.toNat:Nat):Int)=e by (first|assumption|lia)]
  ·obtain ⟨p,hp,j,hj,rfl⟩:=zrn.mp hq
   obtain ⟨j1,j2,j3⟩:=zcf.mp hj
   dsimp only
   (first|assumption|lia)
theorem zob:∀(suf:List Int) (t:Int),(suf.foldl stepP (t,[])).2=[]
 | [],_=>rfl
 | e::suf,t=>by
  rw[List.foldl_cons]
  exact zob suf (t - e)
theorem zwx {r:List Int} {k:Int} (h:∀x∈r,0≤x) (hk:0≤k):lawP k r=raiseR k r:=by
 unfold lawP lawS
 rw[zpa r [([],k)] h (fun p hp=>by rw[List.mem_singleton.mp hp];exact hk)]
 unfold raiseR
 by_cases c:k≤r.sum
 ·rw[if_pos c,List.filter_cons_of_pos (by simpa using c)]
  rfl
 ·rw[if_neg c,List.filter_cons_of_neg (by simpa using c)]
  show (r.foldl stepP (r.sum,[])).2.map _=[]
  rw[zob]
  rfl
theorem zjz (k:Int) (m:List Int) (e:Int):lawS k (m++[e])=lawStep (lawS k m) e:=by unfold lawS;rw[List.foldl_append];rfl
theorem zsd {k:Int} {P:List Int→List Pt→Prop} (h0:P [] [([],k)]) (h:∀m e s,P m s→P (m++[e]) (lawStep s e)) (r:List Int):∀(i:Nat),P (r.take i) (lawS k (r.take i)):=fun i=>by
 induction i with
 | zero=>exact h0
 | succ i ih =>
  by_cases c:i < r.length
  ·have g:r[i]?=some r[i]:=List.getElem?_eq_getElem c
   rw[zj g,zjz]
   exact h _ _ _ ih
  ·rw[List.take_of_length_le (by (first|assumption|lia))] at ih ⊢
   exact ih
theorem zsc (r:List Int) (k:Int) (i:Nat):(lawS k (r.take i)).length≤box (r.take i):=by
 refine zsd (P:=fun m s=>s.length≤box m) (by simp[box]) (fun m e s hs=>?_) r i
 have:=znh e.toNat s
 rw[zcj]
 show (lawL e.toNat s).length≤box m * ((e.toNat+1) * 1)
 rw[Nat.mul_one]
 exact Nat.le_trans this (Nat.mul_le_mul_right _ hs)
theorem zzi (r:List Int) {k:Int} (hk:0≤k) (i:Nat):∀p∈lawS k (r.take i),p.1.length=(r.take i).length∧0≤p.2:=by
 refine zsd (P:=fun m s=>∀p∈s,p.1.length=m.length∧0≤p.2) (by simpa using hk) (fun m e s hs=>?_) r i
 intro q hq
 obtain ⟨p,hp,j,hj,rfl⟩:=zrn.mp hq
 obtain ⟨j1,j2,j3⟩:=zcf.mp hj
 obtain ⟨h1,h2⟩:=hs p hp
 dsimp only
 rw[List.length_append,List.length_append,h1]
 exact ⟨rfl,by (first|assumption|lia)⟩
section
variable {st:Store} {n:Nat} {Q:D→Store→Prop}
end
end Dd
namespace K08
end K08
set_option maxHeartbeats 4000000
namespace Dd
open PySem L2 K13
noncomputable def outL (e:Nat):List Int:=(sharesL e 0 e).map fun j:Nat=>(e:Int)+(j:Int)
noncomputable def longL (rows:List (List Int)) (xs:List Int):List (List Int):=rows.flatMap fun row=>xs.map fun x=>row++[x]
noncomputable def wholeStep (rows:List (List Int)) (e:Int):List (List Int):=longL rows (outL e.toNat)
noncomputable def wholeS (m:List Int):List (List Int):=m.foldl wholeStep [[]]
theorem zif (m:List Int) (e:Int):wholeS (m++[e])=wholeStep (wholeS m) e:=by unfold wholeS;rw[List.foldl_append];rfl
theorem zpk {e:Nat} {left:Int}:(sharesL e 0 e).filter (fun j:Nat=>decide ((j:Int)≤left))=sharesL e 0 left:=by
 unfold sharesL subL
 rw[List.filter_filter]
 refine List.filter_congr fun x hx=>?_
 have:=List.mem_range.mp hx
 rw[← Bool.decide_and]
 exact decide_eq_decide.mpr ⟨fun h=>⟨h.2.1,h.2.2.1,h.1⟩,fun h=>⟨h.2.2,h.1,h.2.1,by (first|assumption|lia)⟩⟩
noncomputable def fitP (k M:Int) (rows:List (List Int)):List Pt:=(rows.filter fun row=>decide (row.sum - M≤k)).map fun row=>(row,k - (row.sum - M))
theorem zsl {k M:Int} {e:Nat}:∀rows:List (List Int),fitP k (M+e) (longL rows (outL e))=lawL e (fitP k M rows)
 | []=>rfl
 | row::rows=>by
  have ih:=zsl (k:=k) (M:=M) (e:=e) rows
  have e1:longL (row::rows) (outL e)=((outL e).map fun x=>row++[x])++longL rows (outL e):=by simp[longL]
  have e2:fitP k (M+e) (longL (row::rows) (outL e))=fitP k (M+e) ((outL e).map fun x=>row++[x])++fitP k (M+e) (longL rows (outL e)):=by
   rw[e1];unfold fitP;rw[List.filter_append,List.map_append]
  have e3:fitP k (M+e) ((outL e).map fun x=>row++[x])=(sharesL e 0 (k - (row.sum - M))).map fun j:Nat=>(row++[(e:Int)+(j:Int)],k - (row.sum - M) - (j:Int)):=by
   unfold fitP outL
   rw[List.map_map,List.filter_map,List.map_map,show sharesL e 0 (k - (row.sum - M))=_ from zpk.symm]
   have e4:∀j:Nat,(row++[(e:Int)+(j:Int)]).sum - (M+e)=row.sum - M+j:=fun j=>by rw[List.sum_append];simp;(first|assumption|lia)
   have e5:(sharesL e 0 e).filter ((fun r:List Int=>decide (r.sum - (M+e)≤k)) ∘ ((fun x=>row++[x]) ∘ fun j:Nat=>(e:Int)+(j:Int)))=(sharesL e 0 e).filter fun j:Nat=>decide ((j:Int)≤k - (row.sum - M)) :=
    List.filter_congr fun j _=>by
     show decide ((row++[(e:Int)+(j:Int)]).sum - (M+e)≤k)=_
     rw[e4]
     exact decide_eq_decide.mpr ⟨fun h=>by (first|assumption|lia),fun h=>by (first|assumption|lia)⟩
   rw[e5]
   refine List.map_congr_left fun j _=>?_
   show (row++[(e:Int)+(j:Int)],k - ((row++[(e:Int)+(j:Int)]).sum - (M+e)))=_
   rw[e4]
   congr 1
   (first|assumption|lia)
  rw[e2,ih,e3]
  by_cases c:row.sum - M≤k
  ·have e6:fitP k M (row::rows)=(row,k - (row.sum - M))::fitP k M rows:=by
    unfold fitP
    rw[List.filter_cons_of_pos (by simpa using c)]
    rfl
   rw[e6]
   simp[lawL,lawJ]
  ·have e6:fitP k M (row::rows)=fitP k M rows:=by
    unfold fitP
    rw[List.filter_cons_of_neg (by simpa using c)]
   have e7:sharesL e 0 (k - (row.sum - M))=[]:=List.eq_nil_iff_forall_not_mem.mpr fun j hj=>by
    obtain ⟨_,h2,h3⟩:=zcf.mp hj
    (first|assumption|lia)
   rw[e6,e7]
   rfl
theorem zzj {r:List Int} {k:Int} (h:∀x∈r,0≤x) (hk:0≤k):∀i:Nat,lawS k (r.take i)=fitP k (r.take i).sum (wholeS (r.take i)):=fun i=>by
 induction i with
 | zero =>
  show [([],k)]=fitP k 0 [[]]
  unfold fitP
  rw[List.filter_cons_of_pos (by simpa using hk)]
  simp
 | succ i ih =>
  by_cases c:i < r.length
  ·have g:r[i]?=some r[i]:=List.getElem?_eq_getElem c
   have h0:=h r[i] (List.getElem_mem c)
   rw[zj g,zjz,zif,ih]
   unfold lawStep wholeStep
   rw[← zsl,List.sum_append,show (r.take i).sum+[r[i]].sum=(r.take i).sum+(r[i].toNat:Int) by simp;(first|assumption|lia)]
  ·rw[List.take_of_length_le (by (first|assumption|lia))] at ih ⊢
   exact ih
theorem zqv {r:List Int} {k:Int} (h:∀x∈r,0≤x) (hk:0≤k):raiseR k r=(wholeS r).filter fun m=>decide (m.sum=r.sum+k):=by
 have e:=zzj h hk r.length
 rw[List.take_length] at e
 rw[← zwx h hk]
 unfold lawP
 rw[e]
 unfold fitP
 rw[List.filter_map,List.map_map,List.filter_filter]
 have:∀l:List (List Int),l.map ((fun p:Pt=>p.1) ∘ fun row=>(row,k - (row.sum - r.sum)))=l:=fun l=>by
  show l.map (fun row=>row)=l
  exact List.map_id l
 rw[this]
 refine List.filter_congr fun m _=>?_
 show (decide (k - (m.sum - r.sum)=0) && decide (m.sum - r.sum≤k))=_
 rw[← Bool.decide_and]
 exact decide_eq_decide.mpr ⟨fun h=>by (first|assumption|lia),fun h=>by (first|assumption|lia)⟩
theorem zma (a:List (List Int)) (x:List Int):(oddS a).count x % 2=a.count x % 2:=by
 have nd:=zfi a
 have mm:x∈oddS a↔a.count x % 2=1:=by unfold oddS;rw[(zcg _).mem_iff,zjr]
 by_cases c:x∈oddS a
 ·have h1:(oddS a).count x≤1:=List.nodup_iff_count.mp nd x
  have h2:0 < (oddS a).count x:=List.count_pos_iff.mpr c
  have:=mm.mp c
  (first|assumption|lia)
 ·have h1:(oddS a).count x=0:=List.count_eq_zero.mpr c
  have:¬ a.count x % 2=1:=fun z=>c (mm.mpr z)
  (first|assumption|lia)
end Dd
set_option maxHeartbeats 4000000
namespace Dd
open PySem L2 K13
theorem zbar {a b:List D} {st:Store} {Q:D→Store→Prop}:WP (oAdd (.lst a) (.lst b) st) Q=(a.length+b.length≤sizeLine∧Q (.lst (a++b)) st):=by
 show WP (if a.length+b.length≤sizeLine then Res.ok (D.lst (a++b)) st else .stuck) Q=_
 rw[zjb]
 rfl
section
variable {st:Store} {n:Nat} {Q:D→Store→Prop}
end
end Dd
set_option maxHeartbeats 4000000
namespace Dd
open PySem L2 K13
theorem zmb (r x:List Int) (y:Int):∀xs:List Int,(xs.map fun z=>r++[z]).count (x++[y])=if r=x then xs.count y else 0
 | []=>by split<;>rfl
 | z::xs=>by
  rw[List.map_cons,List.count_cons,zmb r x y xs]
  by_cases c:r=x
  ·subst c
   rw[if_pos rfl,if_pos rfl,List.count_cons]
   congr 1
   by_cases d:z=y
   ·subst d;simp
   ·simp[d]
  ·rw[if_neg c,if_neg c]
   have:¬ (r++[z]=x++[y]):=fun h=>c (by
    have:=congrArg List.dropLast h
    simpa using this)
   simp[c]
theorem zhw (x:List Int) (y:Int) (xs:List Int):∀rows:List (List Int),(longL rows xs).count (x++[y])=rows.count x * xs.count y
 | []=>by simp[longL]
 | r::rows=>by
  have e:longL (r::rows) xs=(xs.map fun z=>r++[z])++longL rows xs:=by simp[longL]
  rw[e,List.count_append,zmb,zhw x y xs rows,List.count_cons]
  by_cases c:r=x
  ·subst c;simp[Nat.add_mul];(first|assumption|lia)
  ·simp[c]
end Dd
set_option maxHeartbeats 4000000
namespace Dd
open PySem L2 K13
noncomputable abbrev Row:=List Int
noncomputable def tot {α:Type} (l:List α) (c:α→Nat):Nat:=(l.map c).sum
theorem zwe {α:Type} (c:α→Nat):tot [] c=0:=rfl
theorem zbn {α:Type} (a:α) (l:List α) (c:α→Nat):tot (a::l) c=c a+tot l c:=by simp[tot]
theorem zku {α:Type} (a b:List α) (c:α→Nat):tot (a++b) c=tot a c+tot b c:=by simp[tot]
theorem zxx {α:Type} {a b:List α} (h:a.Perm b) (c:α→Nat):tot a c=tot b c:=(h.map c).sum_nat
theorem zql (c:Row→Nat):∀(n:Nat) (l:List Row),l.length≤n→(∀x,l.count x % 2=0)→tot l c % 2=0
 | _,[],_,_=>rfl
 | 0,_::_,h,_=>by simp at h
 | n+1,y::l,hn,h=>by
  have h1:=h y
  rw[List.count_cons_self] at h1
  have hy:y∈l:=List.count_pos_iff.mp (by (first|assumption|lia))
  have p:=List.perm_cons_erase hy
  have ih:=zql c n (l.erase y) (by rw[List.length_erase_of_mem hy];simp at hn;(first|assumption|lia)) fun x=>by
   have h2:=h x
   rw[List.count_cons,p.count_eq,List.count_cons] at h2
   split at h2<;>(first|assumption|lia)
  rw[zbn,zxx p,zbn]
  (first|assumption|lia)
theorem zbaw {a b:List Row} (c:Row→Nat) (h:∀x,a.count x % 2=b.count x % 2):tot a c % 2=tot b c % 2:=by
 have:=zql c _ (a++b) (Nat.le_refl _) fun x=>by rw[List.count_append];have:=h x;(first|assumption|lia)
 rw[zku] at this
 (first|assumption|lia)
theorem zwf {α:Type} {c d:α→Nat}:∀{l:List α},(∀a∈l,c a % 2=d a % 2)→tot l c % 2=tot l d % 2
 | [],_=>rfl
 | a::l,h=>by
  have h1:=h a List.mem_cons_self
  have h2:=zwf (c:=c) (d:=d) (l:=l) fun b hb=>h b (List.mem_cons_of_mem _ hb)
  rw[zbn,zbn]
  (first|assumption|lia)
theorem zeg {α:Type} {c d:α→Nat} {l:List α} (h:∀a∈l,c a=d a):tot l c=tot l d:=by
 unfold tot
 rw[List.map_congr_left h]
theorem zwg {α:Type} (c d:α→Nat):∀l:List α,tot l (fun a=>c a+d a)=tot l c+tot l d
 | []=>rfl
 | a::l=>by rw[zbn,zbn,zbn,zwg c d l];(first|assumption|lia)
theorem zqj {α β:Type} (c:α→β→Nat) (m:List β):∀l:List α,tot l (fun a=>tot m (c a))=tot m (fun b=>tot l (fun a=>c a b))
 | []=>by
  show 0=tot m fun _=>0
  unfold tot
  rw[List.map_const']
  simp
 | a::l=>by
  rw[zbn,zqj c m l,← zwg]
  exact zeg fun b _=>(zbn a l fun a=>c a b).symm
theorem zmc {α:Type} (x:Row) (f:α→List Row):∀l:List α,(l.flatMap f).count x=tot l fun a=>(f a).count x
 | []=>rfl
 | a::l=>by rw[List.flatMap_cons,List.count_append,zmc x f l,zbn]
theorem zqk {α:Type} (f:α→List Row) (c:Row→Nat):∀l:List α,tot (l.flatMap f) c=tot l fun a=>tot (f a) c
 | []=>rfl
 | a::l=>by rw[List.flatMap_cons,zku,zqk f c l,zbn]
theorem zvx (x:Row) (g:Row→Row) (l:List Row):(l.map g).count x=tot l fun a=>if g a=x then 1 else 0:=by
 induction l with
 | nil=>rfl
 | cons a l ih =>
  rw[List.map_cons,List.count_cons,ih,zbn]
  by_cases c:g a=x
  ·subst c;simp;(first|assumption|lia)
  ·simp[c]
end Dd
set_option maxHeartbeats 4000000
namespace Dd
open PySem L2 K13
section
variable {st:Store} {n:Nat} {Q:D→Store→Prop}
end
end Dd
namespace K11
end K11
set_option maxHeartbeats 4000000
namespace Dd
open PySem L2 K13
noncomputable def lowJ (e:Int):List Int:=((List.range ((e / 2).toNat+1)).filter fun j:Nat=>decide ((e.toNat - j) &&& j=j)).map fun j:Nat=>(j:Int)
noncomputable def lowO (e:Int):List Int:=(lowJ e).map fun j=>e - j
noncomputable def lowS (m:Row):List Row:=m.foldl (fun rows e=>longL rows (lowO e)) [[]]
theorem zfl (m:Row) (e:Int):lowS (m++[e])=longL (lowS m) (lowO e):=by unfold lowS;rw[List.foldl_append];rfl
theorem zgg {e j:Int} (he:0≤e):j∈lowJ e↔0≤j∧j≤e / 2∧(e.toNat - j.toNat) &&& j.toNat=j.toNat:=by
 unfold lowJ
 simp only[List.mem_map,List.mem_filter,List.mem_range,decide_eq_true_eq]
 constructor
 ·rintro ⟨a,⟨h1,h2⟩,rfl⟩
  exact ⟨by (first|assumption|lia),by (first|assumption|lia),h2⟩
 ·rintro ⟨h1,h2,h3⟩
  exact ⟨j.toNat,⟨by (first|assumption|lia),h3⟩,by (first|assumption|lia)⟩
noncomputable def lowLJ (e rest:Int) (p:Pt):List Pt:=((lowJ e).filter fun j=>decide (p.2 - rest≤j∧j≤p.2)).map fun j=>(p.1++[e - j],p.2 - j)
noncomputable def lowLL (e rest:Int) (ps:List Pt):List Pt:=ps.flatMap (lowLJ e rest)
noncomputable def lowFit (k M rest:Int) (rows:List Row):List Pt:=(rows.filter fun u=>decide (0≤k - (M - u.sum)∧k - (M - u.sum)≤rest)).map fun u=>(u,k - (M - u.sum))
theorem zrr {k M e rest:Int} (he:0≤e):∀rows:List Row,lowFit k (M+e) rest (longL rows (lowO e))=lowLL e rest (lowFit k M (e / 2+rest) rows)
 | []=>rfl
 | u::rows=>by
  have ih:=zrr (k:=k) (M:=M) (rest:=rest) he rows
  have e1:longL (u::rows) (lowO e)=((lowO e).map fun x=>u++[x])++longL rows (lowO e):=by simp[longL]
  have e2:lowFit k (M+e) rest (longL (u::rows) (lowO e))=lowFit k (M+e) rest ((lowO e).map fun x=>u++[x])++lowFit k (M+e) rest (longL rows (lowO e)):=by
   rw[e1];unfold lowFit;rw[List.filter_append,List.map_append]
  have e4:∀j:Int,k - (M+e - (u++[e - j]).sum)=k - (M - u.sum) - j:=fun j=>by rw[List.sum_append];simp;(first|assumption|lia)
  have e3:lowFit k (M+e) rest ((lowO e).map fun x=>u++[x])=lowLJ e rest (u,k - (M - u.sum)):=by
   unfold lowFit lowO lowLJ
   rw[List.map_map,List.filter_map,List.map_map]
   have e5:(lowJ e).filter ((fun r:Row=>decide (0≤k - (M+e - r.sum)∧k - (M+e - r.sum)≤rest)) ∘ ((fun x=>u++[x]) ∘ fun j:Int=>e - j))=(lowJ e).filter fun j=>decide (k - (M - u.sum) - rest≤j∧j≤k - (M - u.sum)) :=
    List.filter_congr fun j _=>by
     show decide (0≤k - (M+e - (u++[e - j]).sum)∧k - (M+e - (u++[e - j]).sum)≤rest)=_
     rw[e4]
     exact decide_eq_decide.mpr ⟨fun h=>by (first|assumption|lia),fun h=>by (first|assumption|lia)⟩
   rw[e5]
   refine List.map_congr_left fun j _=>?_
   show (u++[e - j],k - (M+e - (u++[e - j]).sum))=_
   rw[e4]
  rw[e2,ih,e3]
  by_cases c:0≤k - (M - u.sum)∧k - (M - u.sum)≤e / 2+rest
  ·have e6:lowFit k M (e / 2+rest) (u::rows)=(u,k - (M - u.sum))::lowFit k M (e / 2+rest) rows:=by
    unfold lowFit
    rw[List.filter_cons_of_pos (by simpa using c)]
    rfl
   rw[e6]
   simp[lowLL]
  ·have e6:lowFit k M (e / 2+rest) (u::rows)=lowFit k M (e / 2+rest) rows:=by
    unfold lowFit
    rw[List.filter_cons_of_neg (by simpa using c)]
   have e7:lowLJ e rest (u,k - (M - u.sum))=[]:=by
    unfold lowLJ
    rw[List.filter_eq_nil_iff.mpr fun j hj=>?_]
    ·rfl
    ·obtain ⟨h1,h2,_⟩:=(zgg he).mp hj
     simp only[decide_eq_true_eq]
     (first|assumption|lia)
   rw[e6,e7]
   rfl
noncomputable def halves (r:Row):Int:=(r.map (· / 2)).sum
noncomputable def lowStep (s:Int × List Pt) (e:Int):Int × List Pt:=(s.1 - e / 2,lowLL e (s.1 - e / 2) s.2)
noncomputable def lowR (k:Int) (r:Row):List Row:=(r.foldl lowStep (halves r,[([],k)])).2.map (·.1)
theorem zdx (a b:Row):halves (a++b)=halves a+halves b:=by unfold halves;rw[List.map_append,List.sum_append]
theorem zop {r:Row} (h:∀x∈r,0≤x):0≤halves r:=nn_sum fun x hx=>by
 obtain ⟨y,hy,rfl⟩:=List.mem_map.mp hx
 have:=h y hy
 (first|assumption|lia)
theorem zju {k:Int} (hk:0≤k):∀(suf m:Row),(∀x∈suf,0≤x)→(suf.foldl lowStep (halves suf,lowFit k m.sum (halves suf) (lowS m))).2=lowFit k (m++suf).sum 0 (lowS (m++suf))
 | [],m,_=>by simp[halves]
 | e::suf,m,h=>by
  have he:=h e List.mem_cons_self
  have ih:=zju hk suf (m++[e]) fun x hx=>h x (List.mem_cons_of_mem _ hx)
  have eh:halves (e::suf)=e / 2+halves suf:=by simp[halves]
  rw[List.foldl_cons]
  have es:lowStep (halves (e::suf),lowFit k m.sum (halves (e::suf)) (lowS m)) e=(halves suf,lowFit k (m++[e]).sum (halves suf) (lowS (m++[e]))):=by
   unfold lowStep
   rw[eh,show e / 2+halves suf - e / 2=halves suf by (first|assumption|lia),zfl,List.sum_append,show m.sum+[e].sum=m.sum+e by simp,zrr he]
  rw[es,ih,List.append_assoc]
  rfl
theorem znf {r:Row} {k:Int} (ne:r≠[]) (h:∀x∈r,0≤x) (hk:0≤k):lowR k r=(lowS r).filter fun u=>decide (u.sum=r.sum - k):=by
 unfold lowR
 by_cases c:k≤halves r
 ·have e:=zju hk r [] h
  have e0:lowFit k ([]:Row).sum (halves r) (lowS [])=[([],k)]:=by
   show lowFit k 0 (halves r) [[]]=_
   unfold lowFit
   rw[List.filter_cons_of_pos (by simp;(first|assumption|lia))]
   simp
  rw[e0] at e
  rw[e,List.nil_append]
  unfold lowFit
  rw[List.map_map]
  have e2:(lowS r).filter (fun u=>decide (0≤k - (r.sum - u.sum)∧k - (r.sum - u.sum)≤0))=(lowS r).filter fun u=>decide (u.sum=r.sum - k):=List.filter_congr fun u _=>decide_eq_decide.mpr ⟨fun h=>by (first|assumption|lia),fun h=>by (first|assumption|lia)⟩
  rw[e2]
  exact List.map_id _
 ·have e:=zju hk r [] h
  have e0:lowFit k ([]:Row).sum (halves r) (lowS [])=[]:=by
   show lowFit k 0 (halves r) [[]]=_
   unfold lowFit
   rw[List.filter_cons_of_neg (by simp;(first|assumption|lia))]
   simp
  rw[e0] at e
  have none:∀(suf:Row) (ps:List Pt),(∀x∈suf,0≤x)→(∀p∈ps,halves suf < p.2)→(suf.foldl lowStep (halves suf,ps)).2.map (·.1)=([]:List Row)∨(suf=[]∧(suf.foldl lowStep (halves suf,ps)).2=ps):=fun suf=>by
   induction suf with
   | nil=>intro ps _ _;exact .inr ⟨rfl,rfl⟩
   | cons e suf ih =>
    intro ps hs hp
    left
    have he:=hs e List.mem_cons_self
    have eh:halves (e::suf)=e / 2+halves suf:=by simp[halves]
    have:lowStep (halves (e::suf),ps) e=(halves suf,[]):=by
     unfold lowStep
     rw[eh,show e / 2+halves suf - e / 2=halves suf by (first|assumption|lia)]
     congr 1
     unfold lowLL
     refine List.flatMap_eq_nil_iff.mpr fun p hpp=>?_
     unfold lowLJ
     have h1:=hp p hpp
     rw[List.filter_eq_nil_iff.mpr fun j hj=>?_]
     ·rfl
     ·obtain ⟨h2,h3,_⟩:=(zgg he).mp hj
      simp only[decide_eq_true_eq]
      (first|assumption|lia)
    rw[List.foldl_cons,this]
    rcases ih [] (fun x hx=>hs x (List.mem_cons_of_mem _ hx)) (by simp) with h | ⟨h1,h2⟩
    ·exact h
    ·rw[h2];rfl
  have low:∀(i:Nat),∀u∈lowS (r.take i),(r.take i).sum - halves (r.take i)≤u.sum:=fun i=>by
   induction i with
   | zero=>intro u hu;rw[List.mem_singleton.mp (show u∈[[]] from hu)];simp[halves]
   | succ i ih =>
    by_cases ci:i < r.length
    ·have g:r[i]?=some r[i]:=List.getElem?_eq_getElem ci
     have h0:=h r[i] (List.getElem_mem ci)
     intro u hu
     rw[zj g,zfl] at hu
     unfold longL lowO at hu
     obtain ⟨v,hv,hu⟩:=List.mem_flatMap.mp hu
     rw[List.map_map] at hu
     obtain ⟨j,hj,rfl⟩:=List.mem_map.mp hu
     obtain ⟨h1,h2,_⟩:=(zgg h0).mp hj
     have h3:=ih v hv
     rw[zj g,zdx]
     simp only[Function.comp,List.sum_append,List.sum_cons,List.sum_nil]
     have:halves [r[i]]=r[i] / 2:=by simp[halves]
     (first|assumption|lia)
    ·rw[List.take_of_length_le (by (first|assumption|lia))] at ih ⊢
     exact ih
  have empty:(lowS r).filter (fun u=>decide (u.sum=r.sum - k))=[]:=List.filter_eq_nil_iff.mpr fun u hu=>by
   have:=low r.length u (by rw[List.take_length];exact hu)
   rw[List.take_length] at this
   simp only[decide_eq_true_eq]
   (first|assumption|lia)
  rw[empty]
  rcases none r [([],k)] h (fun p hp=>by rw[List.mem_singleton.mp hp];(first|assumption|lia)) with h1 | ⟨h1,h2⟩
  ·exact h1
  ·exact absurd h1 ne
theorem cnt1 {α:Type} [BEq α] [LawfulBEq α] {l:List α} {x:α} (nd:l.Nodup) (h:x∈l):l.count x=1:=by
 have h1:l.count x≤1:=List.nodup_iff_count.mp nd x
 have h2:0 < l.count x:=List.count_pos_iff.mpr h
 (first|assumption|lia)
theorem zsu {e x:Int} (he:0≤e) (hx:0≤x):(lowO e).count x=(outL x.toNat).count e:=by
 have nd1:(lowO e).Nodup:=by
  unfold lowO lowJ
  rw[List.map_map]
  refine List.Pairwise.map _ ?_ ((List.nodup_range).filter _)
  intro a b hab hc
  simp only[Function.comp] at hc
  (first|assumption|lia)
 have nd2:(outL x.toNat).Nodup:=by
  unfold outL sharesL subL
  refine List.Pairwise.map _ ?_ ((List.nodup_range).filter _)
  intro a b hab hc
  (first|assumption|lia)
 have iff:x∈lowO e↔e∈outL x.toNat:=by
  unfold lowO outL
  simp only[List.mem_map]
  constructor
  ·rintro ⟨j,hj,rfl⟩
   obtain ⟨h1,h2,h3⟩:=(zgg he).mp hj
   refine ⟨j.toNat,zcf.mpr ⟨?_,by (first|assumption|lia),by (first|assumption|lia)⟩,by (first|assumption|lia)⟩
   rw[show (e - j).toNat=e.toNat - j.toNat by (first|assumption|lia)]
   exact h3
  ·rintro ⟨j,hj,h⟩
   obtain ⟨h1,h2,h3⟩:=zcf.mp hj
   refine ⟨(j:Int),(zgg he).mpr ⟨by (first|assumption|lia),by (first|assumption|lia),?_⟩,by (first|assumption|lia)⟩
   rw[show e.toNat - (j:Int).toNat=x.toNat by (first|assumption|lia),Int.toNat_natCast]
   exact h1
 by_cases c:x∈lowO e
 ·rw[cnt1 nd1 c,cnt1 nd2 (iff.mp c)]
 ·rw[List.count_eq_zero.mpr c,List.count_eq_zero.mpr fun z=>c (iff.mpr z)]
theorem zzd (r:Row) (i:Nat):∀m∈lowS (r.take i),m.length=(r.take i).length:=by
 induction i with
 | zero=>intro m hm;rw[List.mem_singleton.mp (show m∈[[]] from hm)];rfl
 | succ i ih =>
  by_cases c:i < r.length
  ·have g:r[i]?=some r[i]:=List.getElem?_eq_getElem c
   intro m hm
   rw[zj g,zfl] at hm
   unfold longL at hm
   obtain ⟨v,hv,hm⟩:=List.mem_flatMap.mp hm
   obtain ⟨x,_,rfl⟩:=List.mem_map.mp hm
   rw[zj g,List.length_append,List.length_append,ih v hv]
   rfl
  ·rw[List.take_of_length_le (by (first|assumption|lia))] at ih ⊢
   exact ih
theorem adj {q p:Row} (hl:q.length=p.length) (hq:∀x∈q,0≤x) (hp:∀x∈p,0≤x):∀i,i≤q.length→(lowS (q.take i)).count (p.take i)=(wholeS (p.take i)).count (q.take i):=fun i=>by
 induction i with
 | zero=>intro _;rfl
 | succ i ih =>
  intro hi
  have gq:q[i]?=some q[i]:=List.getElem?_eq_getElem (by (first|assumption|lia))
  have gp:p[i]?=some (p[i]'(by (first|assumption|lia))):=List.getElem?_eq_getElem (by (first|assumption|lia))
  rw[zj gq,zj gp,zfl,zif]
  unfold wholeStep
  rw[zhw,zhw,ih (by (first|assumption|lia)),zsu (hq _ (List.getElem_mem _)) (hp _ (List.getElem_mem _))]
theorem zut {q p:Row} {k:Int} (ne:q≠[]) (hl:q.length=p.length) (hq:∀x∈q,0≤x) (hp:∀x∈p,0≤x) (hk:0≤k):(lowR k q).count p=(raiseR k p).count q:=by
 rw[znf ne hq hk,zqv hp hk]
 have a:=adj hl hq hp q.length (Nat.le_refl _)
 rw[List.take_length,hl,List.take_length] at a
 by_cases c:p.sum=q.sum - k
 ·rw[List.count_filter (by simpa using c),List.count_filter (by simp;(first|assumption|lia)),a]
 ·have z1:((lowS q).filter fun u=>decide (u.sum=q.sum - k)).count p=0:=List.count_eq_zero.mpr fun z=>c (by simpa using (List.mem_filter.mp z).2)
  have z2:((wholeS p).filter fun m=>decide (m.sum=p.sum+k)).count q=0:=List.count_eq_zero.mpr fun z=>c (by have:=(List.mem_filter.mp z).2;simp at this;(first|assumption|lia))
  rw[z1,z2]
noncomputable def lowL (k:Int) (l:List Row):List Row:=l.flatMap (lowR k)
theorem zqi (A B:List Row):tot A (fun a=>B.count a)=tot B fun b=>A.count b:=by
 have one:∀(x:Row) (L:List Row),L.count x=tot L fun y=>if y=x then 1 else 0:=fun x L=>by
  have:=zvx x id L
  simpa using this
 rw[zeg (l:=A) fun a _=>one a B,zqj]
 refine zeg fun b _=>?_
 rw[one b A]
 exact zeg fun a _=>by
  by_cases c:a=b
  ·subst c;rfl
  ·rw[if_neg c,if_neg fun z=>c z.symm]
noncomputable def meets (A B:List Row):Nat:=tot A fun a=>B.count a
theorem zne {A B:List Row} (nd:B.Nodup):(A.filter fun a=>decide (a∈B)).length=meets A B:=by
 unfold meets
 induction A with
 | nil=>rfl
 | cons a A ih =>
  rw[zbn]
  by_cases c:a∈B
  ·rw[List.filter_cons_of_pos (by simpa using c),List.length_cons,ih,cnt1 nd c]
   (first|assumption|lia)
  ·rw[List.filter_cons_of_neg (by simpa using c),ih,List.count_eq_zero.mpr c]
   (first|assumption|lia)
theorem zoj {A A' B B':List Row} (hA:∀x,A.count x % 2=A'.count x % 2) (hB:∀x,B.count x % 2=B'.count x % 2):meets A B % 2=meets A' B' % 2:=by
 unfold meets
 rw[zbaw _ hA]
 exact zwf fun a _=>hB a
noncomputable def Rows (n:Nat) (l:List Row):Prop:=∀r∈l,r.length=n∧∀x∈r,0≤x
theorem zus {n:Nat} {row some:List Row} {k:Int} (hn:n≠0) (hr:Rows n row) (hs:Rows n some) (hk:0≤k):meets (lowL k row) some=meets row (raiseL k some):=by
 unfold meets lowL
 rw[zqk]
 refine zeg fun q hq=>?_
 rw[zqi]
 unfold raiseL
 rw[zmc]
 refine zeg fun p hp=>?_
 exact zut (fun z=>by subst z;exact hn (hr [] hq).1.symm) ((hr q hq).1.trans (hs p hp).1.symm) (hr q hq).2 (hs p hp).2 hk
theorem Rows.low {n:Nat} {l:List Row} (hn:n≠0) (h:Rows n l) {k:Int} (hk:0≤k):Rows n (lowL k l):=fun m hm=>by
 unfold lowL at hm
 obtain ⟨r,hr,hm⟩:=List.mem_flatMap.mp hm
 rw[znf (fun z=>by subst z;exact hn (h [] hr).1.symm) (h r hr).2 hk] at hm
 have hm:=(List.mem_filter.mp hm).1
 have hl:=zzd r r.length m (by rw[List.take_length];exact hm)
 rw[List.take_length] at hl
 refine ⟨by rw[hl,(h r hr).1],fun x hx=>?_⟩
 have key:∀i:Nat,∀m∈lowS (r.take i),∀x∈m,0≤x:=fun i=>by
  induction i with
  | zero=>intro m hm;rw[List.mem_singleton.mp (show m∈[[]] from hm)];simp
  | succ i ih =>
   by_cases c:i < r.length
   ·have g:r[i]?=some r[i]:=List.getElem?_eq_getElem c
    have h0:=(h r hr).2 r[i] (List.getElem_mem c)
    intro m hm
    rw[zj g,zfl] at hm
    unfold longL lowO at hm
    obtain ⟨v,hv,hm⟩:=List.mem_flatMap.mp hm
    rw[List.map_map] at hm
    obtain ⟨j,hj,rfl⟩:=List.mem_map.mp hm
    obtain ⟨h1,h2,_⟩:=(zgg h0).mp hj
    exact zho (ih v hv) (by simp only[Function.comp];(first|assumption|lia))
   ·rw[List.take_of_length_le (by (first|assumption|lia))] at ih ⊢
    exact ih
 exact key r.length m (by rw[List.take_length];exact hm) x hx
theorem zxp {n:Nat} {row some:List Row} {k:Int} (hn:n≠0) (hr:Rows n row) (hs:Rows n some) (hk:0≤k):meets (oddS (lowL k row)) some % 2=meets row (oddS (raiseL k some)) % 2:=by
 rw[zoj (B':=some) (zma (lowL k row)) fun _=>rfl,zus hn hr hs hk]
 exact zoj (fun _=>rfl) fun x=>(zma _ x).symm
end Dd
set_option maxHeartbeats 4000000
namespace Dd
open PySem L2 K13
section
variable {st:Store} {n:Nat} {Q:D→Store→Prop}
theorem zbah {e:Int} (he:0≤e) {σ1:DS} {w:D→Store→Prop} (q:∀x,0≤x→x≤e→w (.int x) st) :
  WP (compF (gN 0) (eB (eOp oLe (eVar 0) (eVar 1))) (eVar 0) [.int 0,.int 1,.int 3,.int 7,.int 15] [none,some (.int e)] st) (fun ys st2=>WP (bBest true [.lst ys] st2) w):=by
 refine wp_map (as:=[(0:Int),1,3,7,15]) (E:=fun x=>D.int x) (fun σ=>∃v,σ=[v,some (.int e)]) (fun x=>decide (x≤e)) (fun x=>.int x) ⟨_,rfl⟩ ?_ ?_
 ·rintro x hx σ ⟨v,rfl⟩
  refine ⟨_,rfl,⟨_,rfl⟩,?_,fun _=>?_⟩
  ·simp only[W,V,and_self]
  ·simp only[W,V,and_self]
 ·rw[List.filter_cons_of_pos (by simpa using he)]
  simp only[M]
  refine ⟨0,([1,3,7,15]:List Int).filter (fun x=>decide (x≤e)),?_,?_⟩
  ·have:=zbz (0::([1,3,7,15]:List Int).filter (fun x=>decide (x≤e)))
   exact this
  ·obtain ⟨h1,h2⟩:=zno (([1,3,7,15]:List Int).filter (fun x=>decide (x≤e))) 0
   refine q _ (h2 0 List.mem_cons_self) ?_
   rcases List.mem_cons.mp h1 with h | h
   ·rw[h];exact he
   ·simpa using (List.mem_filter.mp h).2
theorem znc {N d:Int} (hb:BagAt st n) (hN:1≤N) (hN2:N≤1000) (hd:0≤d) (hd2:d≤1000) (k:∀r st',r.length=N.toNat→(∀x∈r,0≤x)→r.sum=d→Drew st st' n→Q (rowD r) st'):WP (zbj [.ref n,.int N,.int d] st) Q:=by
 refine wp_fn rfl ?_
 simp only[W,V]
 refine ⟨small _ (by simp),?_⟩
 have D0:Drew st (st++[.lst []]) n:=.more hb _
 refine zcx D0.bag (by (first|assumption|lia)) (by (first|assumption|lia)) fun fk st2 h3 h4 d2=>?_
 have D2:=D0.trans d2
 have hk:st.length≤st.length:=Nat.le_refl _
 have hkn:st.length≠n:=Nat.ne_of_gt hb.lt
 have g0:st2[st.length]?=some (.lst []):=(d2.keep _ (by simp) hkn).trans (by simp)
 try simp only[W,V]
 refine ⟨trivial,_,rfl,rngN (by (first|assumption|lia)) (by (first|assumption|lia)),?_⟩
 refine wp_for (fun i σ s=>∃(left:Int) (r:List Int) (v w:Option D),σ=[some (.ref n),some (.int N),some (.int d),some (.int left),some (.ref st.length),some (.int fk),v,w,none]∧0≤left∧left+r.sum=d∧r.length=i∧(∀x∈r,0≤x)∧Drew st s n∧s[st.length]?=some (.lst (r.map .int)))
  ⟨d,[],none,none,rfl,hd,by simp,rfl,by simp,D2,g0⟩ ?_ ?_
 ·rintro i x σ s hx ⟨left,r,v,w,rfl,a1,a2,a3,a4,a5,a6⟩
  obtain ⟨hi,rfl⟩:=zfg hx
  have rn:=nn_sum a4
  refine ⟨_,rfl,?_⟩
  unfold zdd
  refine zeq (R:=fun fl s=>∃y:Int,fl=.nx [some (.ref n),some (.int N),some (.int d),some (.int left),some (.ref st.length),some (.int fk),some (.int (0+(i:Int))),some (.int y),none]∧0≤y∧y≤left∧Drew st s n∧s[st.length]?=some (.lst (r.map .int))) ?_ ?_
  ·simp only[W,V]
   refine zcx a5.bag (by (first|assumption|lia)) (by (first|assumption|lia)) fun y s2 b1 b2 e2=>?_
   exact ⟨y,rfl,b1,by (first|assumption|lia),a5.trans e2,(e2.keep _ (zcd a6) hkn).trans a6⟩
  rintro fl s1 ⟨y,rfl,y1,y2,E1,g1⟩
  show WP _ _
  refine zeq (R:=fun fl s=>∃y:Int,fl=.nx [some (.ref n),some (.int N),some (.int d),some (.int left),some (.ref st.length),some (.int fk),some (.int (0+(i:Int))),some (.int y),none]∧0≤y∧y≤left∧s=s1) ?_ ?_
  ·simp only[W,V,Dd.N]
   split
   ·refine ⟨small _ (by simp),small _ (by simp),?_⟩
    refine zbah (σ1:=[]) y1 fun z z1 z2=>?_
    exact ⟨z,rfl,z1,by (first|assumption|lia),rfl⟩
   ·exact ⟨y,rfl,y1,y2,trivial⟩
  rintro fl s2 ⟨y,rfl,y1,y2,rfl⟩
  show WP _ _
  simp only[W,V,M,Dd.N,L]
  have hlt:=zcd g1
  refine ⟨_,_,rfl,g1,_,_,rfl,g1,by rw[List.length_map];exact smallT _ (by (first|assumption|lia)),left - y,r++[y],_,_,rfl,by (first|assumption|lia),by rw[List.sum_append];simp;(first|assumption|lia),by simp[a3],zho a4 y1,E1.over hb.lt hk,?_⟩
  rw[zla hlt];simp
 ·rintro σ s ⟨left,r,v,w,rfl,a1,a2,a3,a4,a5,a6⟩
  rw[zx] at a3
  simp only[W,V,M]
  have hlt:=zcd a6
  refine ⟨_,_,rfl,a6,_,_,rfl,a6,by rw[List.length_map];exact smallT _ (by (first|assumption|lia)),?_⟩
  have a7:(s.set st.length (.lst (r.map D.int++[D.int left])))[st.length]?=some (.lst ((r++[left]).map .int)):=by rw[zla hlt];simp
  have D5:Drew st (s.set st.length (.lst (r.map D.int++[D.int left]))) n:=a5.over hb.lt hk
  refine zcx D5.bag (by (first|assumption|lia)) (by (first|assumption|lia)) fun y s2 b1 b2 e2=>?_
  have a8:s2[st.length]?=some (.lst ((r++[left]).map .int)):=(e2.keep _ (zcd a7) hkn).trans a7
  refine ⟨y,rfl,.inr ⟨_,zmi a8,y,rfl,.inr ⟨_,zmi a8,?_⟩⟩⟩
  obtain ⟨j,rfl⟩:=Int.eq_ofNat_of_zero_le b1
  rw[zvw,zbdp]
  refine WP.of (zxw (small _ (by rw[List.length_append,List.length_singleton];(first|assumption|lia)))) ?_
  simp only[W,V]
  refine k _ _ ?_ ?_ ?_ (D5.trans e2)
  ·rw[zqh,List.length_append,List.length_singleton];(first|assumption|lia)
  ·intro x hx
   rcases List.mem_append.mp hx with hx | hx
   ·exact zho a4 a1 x (List.mem_of_mem_drop hx)
   ·exact zho a4 a1 x (List.mem_of_mem_take hx)
  ·have:=congrArg List.sum (List.take_append_drop j (r++[left]))
   rw[List.sum_append,List.sum_append] at this
   rw[List.sum_append]
   simp at this
   (first|assumption|lia)
theorem ztu {N d m:Int} (hb:BagAt st n) (hN:1≤N) (hN2:N≤1000) (hd:0≤d) (hd2:d≤1000) (hm:0≤m) (hm2:m≤1000) (k:∀l st',(l.length:Int)≤m→Rows N.toNat l→l.Nodup→(∀r∈l,r.sum=d)→Drew st st' n→Q (sumD l) st'):WP (zcl [.ref n,.int N,.int d,.int m] st) Q:=by
 refine wp_fn rfl ?_
 simp only[W,V]
 refine zcx hb (by (first|assumption|lia)) (by (first|assumption|lia)) fun c st1 h1 h2 d1=>?_
 simp only[W,V,Dd.N]
 refine ⟨rngN (by (first|assumption|lia)) (by (first|assumption|lia)),by rw[zx];exact small _ (by (first|assumption|lia)),?_⟩
 refine znu (fun i acc σ s=>∃(l:List (List Int)) (v:Option D),acc=rowsD l∧l.length=i∧(∀r∈l,r.length=N.toNat∧(∀x∈r,0≤x)∧r.sum=d)∧σ=[v,some (.ref n),some (.int N),some (.int d)]∧Drew st s n) ⟨[],none,rfl,rfl,by simp,rfl,d1⟩ ?_ ?_
 ·rintro i x acc σ s hx ⟨l,v,rfl,a1,a2,rfl,a3⟩
  refine ⟨_,rfl,?_⟩
  simp only[W,V]
  exact znc a3.bag hN hN2 hd hd2 fun r s2 b1 b2 b3 b4=>⟨l++[r],_,by simp[rowsD],by simp[a1],zyz a2 ⟨b1,b2,b3⟩,rfl,a3.trans b4⟩
 ·rintro ys σ s ⟨l,v,rfl,a1,a2,rfl,a3⟩
  rw[zx] at a1
  refine zrj (l:=l) rfl (by (first|assumption|lia)) fun g=>k _ _ ?_ (fun r hr=>⟨(a2 r (zhn hr)).1,(a2 r (zhn hr)).2.1⟩) (zfi l) (fun r hr=>(a2 r (zhn hr)).2.2) (a3.trans (.more a3.bag g))
  have:=zio l
  (first|assumption|lia)
theorem zjy {a0 a1 a2 a3 v6 v7 v8:Option D} {e:Nat} {ps:List Pt} {I:DS→Store→Prop} {Q:Fl→Store→Prop} (he:e≤1000) (hl:ps.length * (e+1)≤100000) (hr:∀p∈ps,p.1.length≤1000∧0≤p.2)
  (k:∀w6 w7 w8 g,I [a0,a1,a2,a3,some (.lst ((lawL e ps).map ptD)),some (.int e),w6,w7,w8] (st++g)) :
  WP (zcw [a0,a1,a2,a3,some (.lst (ps.map ptD)),some (.int e),v6,v7,v8] st) (loopK I Q):=by
 unfold zcw
 simp only[W,V,Dd.N]
 refine ⟨small _ (by simp),?_⟩
 refine wp_for (fun i σ s=>(∃v w,σ=[a0,a1,a2,a3,some (.lst (ps.map ptD)),some (.int e),some (.ref st.length),v,w])∧s=st++[.lst ((lawL e (ps.take i)).map ptD)]) ⟨⟨_,_,rfl⟩,rfl⟩ ?_ ?_
 ·rintro i y σ s hy ⟨⟨v,w,rfl⟩,rfl⟩
  obtain ⟨p,hp,rfl⟩:=zlp hy
  have hi:i < ps.length:=(List.getElem?_eq_some_iff.mp hp).1
  obtain ⟨h3,h4⟩:=hr p (List.mem_of_getElem? hp)
  refine ⟨_,rfl,?_⟩
  have hlen:(lawL e (ps.take i)).length+(e+1)≤100000:=by
   have h1:=znh e (ps.take i)
   have h2:(ps.take i).length=i:=by rw[List.length_take];(first|assumption|lia)
   rw[h2] at h1
   have h3:(i+1) * (e+1)≤ps.length * (e+1):=Nat.mul_le_mul_right _ hi
   rw[Nat.succ_mul] at h3
   (first|assumption|lia)
  have hJ:=zsf e p
  unfold zet
  simp only[W,V,L,zjc]
  refine ⟨_,_,rfl,by simp;rfl,_,rfl,rngN (by split<;>(first|assumption|lia)) (by split<;>(first|assumption|lia)),by rw[zx];exact small _ (by split<;>(first|assumption|lia)),?_⟩
  unfold rng
  refine wp_map (as:=List.range ((if p.2 < (e:Int) then p.2 else (e:Int))+1).toNat) (fun σ=>∃v,σ=[v,some (rowD p.1),some (.int p.2),some (.int e)]) (fun x=>decide (e &&& x=x)) (fun j:Nat=>ptD (p.1++[(e:Int)+(j:Int)],p.2 - (j:Int))) (fun i=>.int (0+(i:Int))) ⟨_,rfl⟩ ?_ ?_
  ·rintro j hj σ ⟨v,rfl⟩
   refine ⟨_,rfl,⟨_,rfl⟩,?_,fun _=>?_⟩
   ·simp only[W,V]
    rw[Int.zero_add,K07.zmf]
    refine ⟨trivial,trivial,?_⟩
    exact decide_eq_decide.mpr ⟨fun h=>by (first|assumption|lia),fun h=>by (first|assumption|lia)⟩
   ·simp only[W,V,Dd.N]
    rw[Int.zero_add]
    refine ⟨small _ (by simp),by rw[List.length_map];exact small _ (by simp;(first|assumption|lia)),small _ (by simp),?_⟩
    simp[ptD,rowD]
  ·rw[zqp h4]
   refine ⟨_,_,_,rfl,by simp;rfl,rfl,?_,⟨_,_,rfl⟩,?_⟩
   ·rw[List.length_map,List.length_map]
    have:(sharesL e 0 p.2).length≤e+1:=zmm _ _ _ _
    exact small _ (by (first|assumption|lia))
   ·rw[zj hp,zvc]
    unfold lawJ
    simp[List.map_map,Function.comp_def]
 ·rintro σ s ⟨⟨v,w,rfl⟩,rfl⟩
  rw[List.length_map,List.take_length]
  simp only[W,V,M,Dd.N,L]
  refine ⟨_,_,rfl,by simp;rfl,?_⟩
  have:=k (some (.ref st.length)) v w [.dead]
  simpa using this
theorem zls {l:List Row} {t:Int} {B:Nat} (ht:0≤t) (hp:∀r∈l,∀x∈r,0≤x∧x≤1000) (hr:∀r∈l,r.length≤1000) (hb:∀r∈l,box r≤B) (hB:B≤20000) (hl:l.length * B≤900000) (k:∀g,Q (sumD (oddS (raiseL t l))) (st++g)):WP (zcm [sumD l,.int t] st) Q:=by
 refine wp_fn rfl ?_
 simp only[W,V,Dd.N]
 refine ⟨small _ (by simp),?_⟩
 have lens:∀i,(raiseL t (l.take i)).length≤900000:=fun i=>by
  have h2:=zlh (k:=t) (l:=l.take i) (B:=B) fun x hx=>hb x (List.mem_of_mem_take hx)
  have h3:(l.take i).length * B≤l.length * B:=Nat.mul_le_mul_right _ (by rw[List.length_take];exact Nat.min_le_right _ _)
  (first|assumption|lia)
 refine wp_for (fun i σ s=>(∃v w x y z a,σ=[some (sumD l),some (.int t),some (.ref st.length),v,w,x,y,z,a])∧∃g,s=st++(.lst (rowsD (raiseL t (l.take i)))::g)) ⟨⟨_,_,_,_,_,_,rfl⟩,[],rfl⟩ ?_ ?_
 ·rintro i y σ s hy ⟨⟨v,w,x,y',z,a,rfl⟩,g,rfl⟩
  obtain ⟨r,hrr,rfl⟩:=zeh hy
  have hm:=List.mem_of_getElem? hrr
  have pos:∀x∈r,0≤x:=fun x hx=>(hp r hm x hx).1
  refine ⟨_,rfl,?_⟩
  unfold zes
  simp only[W,V,Dd.N]
  refine ⟨small _ (by simp),small _ (by simp),small _ (by simp),?_⟩
  refine wp_for (fun j σ s=>(∃x y z a,σ=[some (sumD l),some (.int t),some (.ref st.length),some (rowD r),some (.lst ((lawS t (r.take j)).map ptD)),x,y,z,a])∧∃g,s=st++(.lst (rowsD (raiseL t (l.take i)))::g)) ⟨⟨_,_,_,_,rfl⟩,g,rfl⟩ ?_ ?_
  ·rintro j y σ s hy ⟨⟨x,y',z,a,rfl⟩,g,rfl⟩
   obtain ⟨e,he,rfl⟩:=zlp hy
   refine ⟨_,rfl,?_⟩
   obtain ⟨h1,h2⟩:=hp r hm e (List.mem_of_getElem? he)
   have hlen:=zsc r t j
   have hbx:=zta r (j+1)
   rw[zj he,zcj,show box [e]=e.toNat+1 by simp[box]] at hbx
   have hmm:(lawS t (r.take j)).length * (e.toNat+1)≤20000:=Nat.le_trans (Nat.mul_le_mul_right _ hlen) (Nat.le_trans hbx (Nat.le_trans (hb r hm) hB))
   have hrow:=zzi r ht j
   have hrl:=hr r hm
   rw[zj he,zjz]
   unfold lawStep
   generalize lawS t (r.take j)=ps at hmm hrow ⊢
   obtain ⟨e',rfl⟩:=Int.eq_ofNat_of_zero_le h1
   simp only[V]
   refine zjy (e:=e') (by (first|assumption|lia)) (by rw[Int.toNat_natCast] at hmm;(first|assumption|lia)) (fun p hp=>?_) fun w6 w7 w8 g2=>?_
   ·obtain ⟨q1,q2⟩:=hrow p hp
    rw[q1,List.length_take]
    exact ⟨by (first|assumption|lia),q2⟩
   ·refine ⟨⟨_,_,_,_,rfl⟩,g++g2,by simp⟩
  ·rintro σ s ⟨⟨x,y',z,a,rfl⟩,g,rfl⟩
   rw[List.length_map,List.take_length]
   simp only[W,V,Dd.N,L,zjc]
   have hlen:=zsc r t r.length
   rw[List.take_length] at hlen
   have hbr:=hb r hm
   refine ⟨_,_,rfl,zgk _ _,by rw[List.length_map];exact small _ (by (first|assumption|lia)),?_⟩
   refine wp_map (as:=lawS t r) (fun σ=>∃v w,σ=[v,w]) (fun p=>decide (p.2=0)) (fun p=>rowD p.1) ptD ⟨_,_,rfl⟩ ?_ ?_
   ·rintro p hp σ ⟨v,w,rfl⟩
    exact ⟨_,rfl,⟨_,_,rfl⟩,by simp only[W,V,and_self],fun _=>by simp only[W,V,and_self]⟩
   ·have e1:((lawS t r).filter fun p=>decide (p.2=0)).map (fun p=>rowD p.1)=rowsD (raiseR t r):=by
     rw[← zwx pos ht]
     unfold lawP rowsD
     rw[List.map_map]
     rfl
    rw[e1]
    have h1:=lens i
    have h2:=zlg (k:=t) (hb r hm)
    refine ⟨_,_,_,rfl,zgk _ _,rfl,by rw[zu,zu];exact small _ (by (first|assumption|lia)),⟨_,_,_,_,_,_,rfl⟩,g,?_⟩
    rw[zkz,zj hrr,zpl]
    simp[rowsD]
 ·rintro σ s ⟨⟨v,w,x,y',z,a,rfl⟩,g,rfl⟩
  rw[zu,List.take_length]
  have h1:=lens l.length
  rw[List.take_length] at h1
  simp only[W,V,M,Dd.N]
  refine ⟨_,_,rfl,zgk _ _,?_⟩
  refine zrj (l:=raiseL t l) rfl (by (first|assumption|lia)) fun g2=>?_
  rw[zkz,List.append_assoc]
  exact k _
theorem in_sum {neg:Bool} (a:Row) (b:List Row):oInG neg (rowD a) (sumD b) st=.ok (.bl (if neg then !decide (a∈b) else decide (a∈b))) st:=by
 unfold oInG
 rw[zzy,znj]
 dsimp only
 rw[if_pos ⟨zqa a,zey b⟩]
 have e:((b.map dRow).any fun y=>PyData.eqv y (dRow a))=decide (a∈b):=by
  rw[List.any_map,Bool.eq_iff_iff,List.any_eq_true,decide_eq_true_iff]
  constructor
  ·rintro ⟨x,hx,h⟩
   have h:PyData.eqv (dRow x) (dRow a)=true:=h
   rw[znk] at h
   have:=of_decide_eq_true h
   subst this
   exact hx
  ·intro h
   refine ⟨a,h,?_⟩
   show PyData.eqv (dRow a) (dRow a)=true
   rw[znk]
   simp
 rw[e]
theorem zza {A B:List Row} (nd:B.Nodup) (hl:A.length≤1000000) (q:Q (.bl (decide (meets A B % 2=1))) st):WP (zde [sumD A,sumD B] st) Q:=by
 refine wp_fn rfl ?_
 simp only[W,V,Dd.N]
 refine ⟨by rw[zu];exact small _ hl,?_⟩
 refine wp_map (as:=A) (fun σ=>∃v,σ=[v,some (sumD B)]) (fun a=>decide (a∈B)) rowD rowD ⟨_,rfl⟩ ?_ ?_
 ·rintro r hr σ ⟨v,rfl⟩
  refine ⟨_,rfl,⟨_,rfl⟩,?_,fun _=>?_⟩
  ·simp only[W,V]
   refine WP.of (in_sum r B) ?_
   simp only[W,V,and_self]
  ·simp only[W,V,and_self]
 ·try simp only[W,V,Dd.N]
  rw[List.length_map,zne nd]
  refine ⟨by decide,?_⟩
  have:decide ((meets A B:Int) % 2=1)=decide (meets A B % 2=1):=decide_eq_decide.mpr ⟨fun h=>by (first|assumption|lia),fun h=>by (first|assumption|lia)⟩
  rw[this]
  exact q
end
end Dd
set_option maxHeartbeats 4000000
namespace Dd
open PySem L2 K13
theorem zhl:∀(M lo cnt:Nat),lo+cnt≤M→(List.range M).filter (fun j=>decide (lo≤j∧j < lo+cnt))=(List.range cnt).map fun t=>lo+t
 | 0,lo,cnt,h=>by
  rw[show cnt=0 by (first|assumption|lia)]
  rfl
 | M+1,lo,cnt,h=>by
  rw[List.range_succ,List.filter_append]
  by_cases c:lo+cnt≤M
  ·rw[zhl M lo cnt c,List.filter_cons_of_neg (by simp;(first|assumption|lia))]
   simp
  ·cases cnt with
   | zero =>
    rw[List.filter_eq_nil_iff.mpr fun j _=>by simp,List.filter_eq_nil_iff.mpr fun j _=>by simp]
    rfl
   | succ k =>
    have e:(List.range M).filter (fun j=>decide (lo≤j∧j < lo+(k+1)))=(List.range M).filter fun j=>decide (lo≤j∧j < lo+k):=List.filter_congr fun j hj=>by
     have:=List.mem_range.mp hj
     exact decide_eq_decide.mpr ⟨fun h=>by (first|assumption|lia),fun h=>by (first|assumption|lia)⟩
    rw[e,zhl M lo k (by (first|assumption|lia)),List.filter_cons_of_pos (by simp;(first|assumption|lia)),List.range_succ,List.map_append]
    simp
    (first|assumption|lia)
noncomputable def loOf (rest left:Int):Int:=if left - rest > 0 then left - rest else 0
noncomputable def hiOf (e left:Int):Int:=(if left < e / 2 then left else e / 2)+1
theorem lo_le {rest left j:Int} (h:0≤j):loOf rest left≤j↔left - rest≤j:=by unfold loOf;split<;>(first|assumption|lia)
theorem lt_hi {e left j:Int}:j < hiOf e left↔j≤left∧j≤e / 2:=by unfold hiOf;split<;>(first|assumption|lia)
noncomputable def lowT (e rest:Int) (p:Pt) (t:Nat):List Pt:=((List.range t).filter fun i:Nat=>K07.oddW (e - (loOf rest p.2+i)) (loOf rest p.2+i)).map fun i:Nat=>(p.1++[e - (loOf rest p.2+i)],p.2 - (loOf rest p.2+i))
theorem zzc {e rest:Int} {p:Pt} (he:0≤e) (hp:0≤p.2):lowT e rest p (hiOf e p.2 - loOf rest p.2).toNat=lowLJ e rest p:=by
 have l0:0≤loOf rest p.2:=by unfold loOf;split<;>(first|assumption|lia)
 have e0:((e / 2).toNat:Int)=e / 2:=Int.toNat_of_nonneg (Int.ediv_nonneg he (by decide))
 obtain ⟨lo,hlo⟩:=Int.eq_ofNat_of_zero_le l0
 have hh:hiOf e p.2≤e / 2+1:=by unfold hiOf;split<;>(first|assumption|lia)
 have hle:∀a:Nat,p.2 - rest≤(a:Int)↔lo≤a:=fun a=>by rw[← lo_le (Int.natCast_nonneg a),hlo];exact Int.ofNat_le
 unfold lowT lowLJ lowJ
 rw[hlo]
 by_cases c:(lo:Int)≤hiOf e p.2
 ·have part:=zhl ((e / 2).toNat+1) lo (hiOf e p.2 - lo).toNat (by (first|assumption|lia))
  rw[List.filter_map,List.filter_filter,List.map_map]
  have e1:(List.range ((e / 2).toNat+1)).filter (fun a=>((fun j=>decide (p.2 - rest≤j∧j≤p.2)) ∘ fun j:Nat=>(j:Int)) a && decide ((e.toNat - a) &&& a=a))=((List.range ((e / 2).toNat+1)).filter (fun j=>decide (lo≤j∧j < lo+(hiOf e p.2 - lo).toNat))).filter fun a=>decide ((e.toNat - a) &&& a=a):=by
   rw[List.filter_filter]
   refine List.filter_congr fun a ha=>?_
   have:=List.mem_range.mp ha
   rw[Bool.and_comm]
   congr 1
   show decide (p.2 - rest≤(a:Int)∧(a:Int)≤p.2)=_
   refine decide_eq_decide.mpr ?_
   have hlt:a < lo+(hiOf e p.2 - lo).toNat↔(a:Int) < hiOf e p.2:=by (first|assumption|lia)
   have ha2:(a:Int)≤e / 2:=e0 ▸ Int.ofNat_le.mpr (Nat.le_of_lt_succ this)
   exact ⟨fun h=>⟨(hle a).mp h.1,hlt.mpr (lt_hi.mpr ⟨h.2,ha2⟩)⟩,fun h=>⟨(hle a).mpr h.1,(lt_hi.mp (hlt.mp h.2)).1⟩⟩
  rw[e1,part,List.filter_map,List.map_map]
  have e2:(List.range (hiOf e p.2 - lo).toNat).filter (fun i:Nat=>K07.oddW (e - ((lo:Int)+i)) ((lo:Int)+i))=(List.range (hiOf e p.2 - lo).toNat).filter ((fun a=>decide ((e.toNat - a) &&& a=a)) ∘ fun t=>lo+t):=List.filter_congr fun i hi=>by
   have:=List.mem_range.mp hi
   show _=decide ((e.toNat - (lo+i)) &&& (lo+i)=lo+i)
   rw[← K07.zyv]
   congr 1
   (first|assumption|lia)
  rw[e2]
  refine List.map_congr_left fun i _=>?_
  simp only[Function.comp]
  rw[show ((lo+i:Nat):Int)=(lo:Int)+i by (first|assumption|lia)]
 ·have hz:(((List.range ((e / 2).toNat+1)).filter fun j:Nat=>decide ((e.toNat - j) &&& j=j)).map fun j:Nat=>(j:Int)).filter (fun j=>decide (p.2 - rest≤j∧j≤p.2))=[]:=List.filter_eq_nil_iff.mpr fun j hj=>by
   obtain ⟨a,ha,rfl⟩:=List.mem_map.mp hj
   have:=List.mem_range.mp (List.mem_filter.mp ha).1
   rw[decide_eq_true_eq]
   exact fun h=>c (Int.le_of_lt (Int.lt_of_le_of_lt (Int.ofNat_le.mpr ((hle a).mp h.1)) (lt_hi.mpr ⟨h.2,e0 ▸ Int.ofNat_le.mpr (Nat.le_of_lt_succ this)⟩)))
  rw[hz,show (hiOf e p.2 - lo).toNat=0 by (first|assumption|lia)]
  rfl
theorem zuu (e rest:Int) (p:Pt) (t:Nat):lowT e rest p (t+1)=lowT e rest p t++if K07.oddW (e - (loOf rest p.2+t)) (loOf rest p.2+t)=true then [(p.1++[e - (loOf rest p.2+t)],p.2 - (loOf rest p.2+t))] else []:=by
 unfold lowT
 rw[List.range_succ,List.filter_append,List.map_append]
 congr 1
 split
 ·rename_i h;simp[h]
 ·rename_i h;simp[h]
theorem zzb (e rest:Int) (p:Pt) (t:Nat):(lowT e rest p t).length≤t:=by
 unfold lowT
 rw[List.length_map]
 exact Nat.le_trans (List.length_filter_le _ _) (by simp)
theorem zux {e rest:Int} {p:Pt}:(lowLJ e rest p).length≤e.toNat+1:=by
 unfold lowLJ lowJ
 rw[List.length_map]
 refine Nat.le_trans (List.length_filter_le _ _) ?_
 rw[List.length_map]
 refine Nat.le_trans (List.length_filter_le _ _) ?_
 rw[List.length_range]
 (first|assumption|lia)
theorem zjx (e rest:Int):∀ps:List Pt,(lowLL e rest ps).length≤ps.length * (e.toNat+1)
 | []=>by simp[lowLL]
 | p::ps=>by
  have e1:lowLL e rest (p::ps)=lowLJ e rest p++lowLL e rest ps:=by simp[lowLL]
  have:=zjx e rest ps
  have:=@zux e rest p
  rw[e1,List.length_append,List.length_cons,Nat.succ_mul]
  (first|assumption|lia)
theorem zrv (e rest:Int) (ps:List Pt) (p:Pt):lowLL e rest (ps++[p])=lowLL e rest ps++lowLJ e rest p:=by simp[lowLL]
section
variable {st:Store} {n:Nat} {Q:D→Store→Prop}
theorem zgs {e rest:Int} {ps:List Pt} (h0:0≤e) (he:e≤1000) (hl:ps.length * (e.toNat+1)≤100000) (hr:∀p∈ps,p.1.length≤1000∧0≤p.2) (hrr:0≤rest) (hp2:∀p∈ps,p.2≤5000) (hr2:rest≤5000) (k:∀g,Q (.lst ((lowLL e rest ps).map ptD)) (st++g)):WP (zbc [.lst (ps.map ptD),.int e,.int rest] st) Q:=by
 refine wp_fn rfl ?_
 simp only[W,V,Dd.N]
 refine ⟨small _ (by simp),?_⟩
 refine wp_for (fun i σ s=>(∃v w z,σ=[some (.lst (ps.map ptD)),some (.int e),some (.int rest),some (.ref st.length),v,w,z])∧∃g,s=st++(.lst ((lowLL e rest (ps.take i)).map ptD)::g)) ⟨⟨_,_,_,rfl⟩,[],rfl⟩ ?_ ?_
 ·rintro i y σ s hy ⟨⟨v,w,z,rfl⟩,g,rfl⟩
  obtain ⟨p,hp,rfl⟩:=zlp hy
  have hi:i < ps.length:=(List.getElem?_eq_some_iff.mp hp).1
  obtain ⟨h3,h4⟩:=hr p (List.mem_of_getElem? hp)
  have h5:=hp2 p (List.mem_of_getElem? hp)
  refine ⟨_,rfl,?_⟩
  unfold zcu
  have hlen:(lowLL e rest (ps.take i)).length+(e.toNat+1)≤100000:=by
   have h1:=zjx e rest (ps.take i)
   have h2:(ps.take i).length=i:=by rw[List.length_take];(first|assumption|lia)
   rw[h2] at h1
   have h3:(i+1) * (e.toNat+1)≤ps.length * (e.toNat+1):=Nat.mul_le_mul_right _ hi
   rw[Nat.succ_mul] at h3
   (first|assumption|lia)
  have b1:0≤loOf rest p.2∧loOf rest p.2≤5000:=by unfold loOf;split<;>(first|assumption|lia)
  have b2:0 < hiOf e p.2∧hiOf e p.2≤e / 2+1:=by unfold hiOf;split<;>(first|assumption|lia)
  simp only[W,V,Dd.N]
  refine ⟨zso (by (first|assumption|lia)) (by (first|assumption|lia)),?_⟩
  refine ⟨rngN (show -10000≤loOf rest p.2 by (first|assumption|lia)) (show loOf rest p.2≤10000 by (first|assumption|lia)),rngN (show -10000≤hiOf e p.2 by (first|assumption|lia)) (show hiOf e p.2≤10000 by (first|assumption|lia)),?_⟩
  show WP (forF (gN 6) zbq (rng (loOf rest p.2) (hiOf e p.2 - loOf rest p.2).toNat) _ _) _
  refine wp_for (fun t σ s=>(∃z,σ=[some (.lst (ps.map ptD)),some (.int e),some (.int rest),some (.ref st.length),some (rowD p.1),some (.int p.2),z])∧∃g,s=st++(.lst ((lowLL e rest (ps.take i)++lowT e rest p t).map ptD)::g)) ⟨⟨_,rfl⟩,g,by simp[lowT]⟩ ?_ ?_
  ·rintro t y σ s hy ⟨⟨z,rfl⟩,g,rfl⟩
   obtain ⟨ht,rfl⟩:=zfg hy
   refine ⟨_,rfl,?_⟩
   unfold zbq
   simp only[W,V]
   refine ⟨trivial,?_⟩
   refine WP.of zps ⟨_,rfl,?_⟩
   rw[zuu]
   have hT:=zzb e rest p t
   by_cases c:K07.oddW (e - (loOf rest p.2+t)) (loOf rest p.2+t)=true
   ·rw[if_pos c,if_pos c]
    simp only[W,V,M,Dd.N,L]
    refine ⟨_,_,rfl,zgk _ _,small _ (by simp),by rw[List.length_map];exact small _ (by simp;(first|assumption|lia)),small _ (by simp),_,_,rfl,zgk _ _,by rw[List.length_map,List.length_append];exact smallT _ (by (first|assumption|lia)),⟨_,rfl⟩,g,?_⟩
    rw[zkz]
    simp[ptD,rowD]
   ·rw[if_neg c,if_neg c]
    simp only[W,V,L]
    exact ⟨⟨_,rfl⟩,g,by simp⟩
  ·rintro σ s ⟨⟨z,rfl⟩,g,rfl⟩
   simp only[L]
   refine ⟨⟨_,_,_,rfl⟩,g,?_⟩
   rw[zx,zzc h0 h4,zj hp,zrv]
 ·rintro σ s ⟨⟨v,w,z,rfl⟩,g,rfl⟩
  rw[List.length_map,List.take_length]
  simp only[W,V,M,Dd.N]
  refine ⟨_,_,rfl,zgk _ _,?_⟩
  rw[zkz]
  exact k _
end
theorem zjw {r:Row} {k:Int} {P:Row→Int × List Pt→Prop} (h0:P [] (halves r,[([],k)])) (h:∀m e s,P m s→P (m++[e]) (lowStep s e)):∀(i:Nat),P (r.take i) ((r.take i).foldl lowStep (halves r,[([],k)])):=fun i=>by
 induction i with
 | zero=>exact h0
 | succ i ih =>
  by_cases c:i < r.length
  ·have g:r[i]?=some r[i]:=List.getElem?_eq_getElem c
   rw[zj g,List.foldl_append]
   exact h _ _ _ ih
  ·rw[List.take_of_length_le (by (first|assumption|lia))] at ih ⊢
   exact ih
theorem zjv (r:Row) (k:Int) (i:Nat):((r.take i).foldl lowStep (halves r,[([],k)])).2.length≤box (r.take i):=by
 refine zjw (P:=fun m s=>s.2.length≤box m) (by simp[box]) (fun m e s hs=>?_) i
 have:=zjx e (s.1 - e / 2) s.2
 rw[zcj]
 show (lowLL e (s.1 - e / 2) s.2).length≤box m * ((e.toNat+1) * 1)
 rw[Nat.mul_one]
 exact Nat.le_trans this (Nat.mul_le_mul_right _ hs)
theorem zuv (r:Row) {k:Int} (hk:0≤k) (i:Nat):∀p∈((r.take i).foldl lowStep (halves r,[([],k)])).2,p.1.length=(r.take i).length∧0≤p.2∧p.2≤k:=by
 refine zjw (P:=fun m s=>∀p∈s.2,p.1.length=m.length∧0≤p.2∧p.2≤k) (by simp;(first|assumption|lia)) (fun m e s hs=>?_) i
 intro q hq
 unfold lowStep lowLL lowLJ at hq
 obtain ⟨p,hp,hq⟩:=List.mem_flatMap.mp hq
 obtain ⟨j,hj,rfl⟩:=List.mem_map.mp hq
 obtain ⟨hj1,hj2⟩:=List.mem_filter.mp hj
 simp only[decide_eq_true_eq] at hj2
 have:0≤j:=by
  unfold lowJ at hj1
  obtain ⟨a,_,rfl⟩:=List.mem_map.mp hj1
  (first|assumption|lia)
 obtain ⟨a,b,c⟩:=hs p hp
 refine ⟨?_,by show 0≤p.2 - j;(first|assumption|lia),by show p.2 - j≤k;(first|assumption|lia)⟩
 rw[List.length_append,List.length_append,a]
 rfl
theorem zrs (r:Row) (k:Int) (i:Nat):((r.take i).foldl lowStep (halves r,[([],k)])).1+halves (r.take i)=halves r:=by
 refine zjw (P:=fun m s=>s.1+halves m=halves r) (by simp[halves]) (fun m e s hs=>?_) i
 rw[zdx]
 show s.1 - e / 2+(halves m+halves [e])=halves r
 have:halves [e]=e / 2:=by simp[halves]
 (first|assumption|lia)
theorem zvk {r:Row} (h:∀x∈r,0≤x):halves r≤r.sum:=by
 induction r with
 | nil=>simp[halves]
 | cons a r ih =>
  have:=ih fun x hx=>h x (List.mem_cons_of_mem _ hx)
  have h1:=h a List.mem_cons_self
  have:halves (a::r)=a / 2+halves r:=by simp[halves]
  rw[List.sum_cons]
  (first|assumption|lia)
section
variable {st:Store} {n:Nat} {Q:D→Store→Prop}
theorem zgc {r:Row} {t:Int} (hp:∀x∈r,0≤x∧x≤1000) (hl:r.length≤1000) (hb:box r≤20000) (ht:0≤t) (ht2:t≤5000) (hs:r.sum≤5000) (k:∀g,Q (.lst (rowsD (lowR t r))) (st++g)):WP (zbb [rowD r,.int t] st) Q:=by
 refine wp_fn rfl ?_
 have pos:∀x∈r,0≤x:=fun x hx=>(hp x hx).1
 refine zeq (R:=fun fl s=>fl=.nx [some (rowD r),some (.int t),some (.lst ([(([]:Row),t)].map ptD)),none,none]∧s=st) ?_ ?_
 ·simp only[W,V,Dd.N]
  exact ⟨small _ (by simp),small _ (by simp),small _ (by simp),rfl,trivial⟩
 rintro fl s ⟨rfl,rfl⟩
 show WP _ _
 refine zeq (R:=fun fl s'=>fl=.nx [some (rowD r),some (.int t),some (.lst ([(([]:Row),t)].map ptD)),some (.int (halves r)),none]∧s'=s) ?_ ?_
 ·rw[show ∀{i:Nat} {f:SE} {σ:DS} {st:Store} {Q:Fl→Store→Prop},WP (sSet i f σ st) Q=WP (f σ st) (fun v st1=>Q (.nx (σ.set i (some v))) st1) from W.2.2.2.2.2.2.2.2.2.2.2.2.2.2.2.2.2.2.2.2.2.2.2.2.2.2.2.2.2.2.2.2.2.2.1]
  simp only[W,V,Dd.N]
  refine ⟨by rw[List.length_map];exact small _ (by (first|assumption|lia)),?_⟩
  refine wp_map (as:=r) (fun σ=>∃v,σ=[v]) (fun _=>true) (fun x=>.int (x / 2)) .int ⟨_,rfl⟩ ?_ ?_
  ·rintro x hx σ ⟨v,rfl⟩
   exact ⟨_,rfl,⟨_,rfl⟩,by simp only[W,and_self],fun _=>by simp only[W,V,and_true];exact zso (by (first|assumption|lia)) (by (first|assumption|lia))⟩
  ·rw[zel]
   simp only[M]
   refine ⟨r.map (· / 2),?_,rfl,trivial⟩
   have:=zbz (r.map (· / 2))
   rw[List.map_map] at this
   exact this
 rintro fl s' ⟨rfl,rfl⟩
 show WP _ _
 simp only[W,V,Dd.N]
 refine wp_for (fun i σ s2=>(∃v,σ=[some (rowD r),some (.int t),some (.lst (((r.take i).foldl lowStep (halves r,[([],t)])).2.map ptD)),some (.int ((r.take i).foldl lowStep (halves r,[([],t)])).1),v])∧∃g,s2=s'++g) ⟨⟨_,rfl⟩,[],by simp⟩ ?_ ?_
 ·rintro i y σ s2 hy ⟨⟨v,rfl⟩,g,rfl⟩
  obtain ⟨e,he,rfl⟩:=zlp hy
  refine ⟨_,rfl,?_⟩
  unfold zck
  obtain ⟨h1,h2⟩:=hp e (List.mem_of_getElem? he)
  have hlen:=zjv r t i
  have hbx:=zta r (i+1)
  rw[zj he,zcj,show box [e]=e.toNat+1 by simp[box]] at hbx
  have hm:((r.take i).foldl lowStep (halves r,[([],t)])).2.length * (e.toNat+1)≤20000:=Nat.le_trans (Nat.mul_le_mul_right _ hlen) (Nat.le_trans hbx hb)
  have hrow:=zuv r ht i
  have hrest:=zrs r t (i+1)
  have hn1:=zop (r:=r.drop (i+1)) fun x hx=>pos x (List.mem_of_mem_drop hx)
  have hn3:halves (r.take (i+1))+halves (r.drop (i+1))=halves r:=by rw[← zdx,List.take_append_drop]
  have hn4:=zop (r:=r.take (i+1)) fun x hx=>pos x (List.mem_of_mem_take hx)
  have hn2:=zvk pos
  have est:(r.take (i+1)).foldl lowStep (halves r,[([],t)])=lowStep ((r.take i).foldl lowStep (halves r,[([],t)])) e:=by rw[zj he,List.foldl_append];rfl
  rw[est] at hrest ⊢
  generalize (r.take i).foldl lowStep (halves r,[([],t)])=s0 at hm hrow hrest ⊢
  have hr1:(lowStep s0 e).1=s0.1 - e / 2:=rfl
  simp only[W,V,M,Dd.N,L]
  refine ⟨_,rfl,zso (by (first|assumption|lia)) (by (first|assumption|lia)),?_⟩
  refine zgs h1 h2 (by (first|assumption|lia)) (fun p hp=>?_) (by (first|assumption|lia)) (fun p hp=>by have:=(hrow p hp).2.2;(first|assumption|lia)) (by (first|assumption|lia)) fun g2=>?_
  ·obtain ⟨q1,q2,_⟩:=hrow p hp
   rw[q1,List.length_take]
   exact ⟨by (first|assumption|lia),q2⟩
  ·simp only[W,V,L]
   exact ⟨⟨_,rfl⟩,g++g2,by simp⟩
 ·rintro σ s2 ⟨⟨v,rfl⟩,g,rfl⟩
  rw[List.length_map,List.take_length]
  simp only[W,V,M,Dd.N]
  have hlen:=zjv r t r.length
  rw[List.take_length] at hlen
  refine ⟨by rw[List.length_map];exact small _ (by (first|assumption|lia)),?_⟩
  refine wp_map (as:=(r.foldl lowStep (halves r,[([],t)])).2) (fun σ=>∃v w,σ=[v,w]) (fun _=>true) (fun p=>rowD p.1) ptD ⟨_,_,rfl⟩ ?_ ?_
  ·rintro p hp σ ⟨v,w,rfl⟩
   exact ⟨_,rfl,⟨_,_,rfl⟩,by simp only[W,and_self],fun _=>by simp only[W,V,and_self]⟩
  ·rw[zel]
   have:=k g
   unfold lowR rowsD at this
   rw[List.map_map] at this
   exact this
theorem zrt (r:Row) (k:Int):(lowR k r).length≤box r:=by
 have:=zjv r k r.length
 rw[List.take_length] at this
 unfold lowR
 rw[List.length_map]
 exact this
theorem zru {k:Int} {B:Nat}:∀{l:List Row},(∀r∈l,box r≤B)→(lowL k l).length≤l.length * B
 | [],_=>by simp[lowL]
 | r::l,h=>by
  have e:lowL k (r::l)=lowR k r++lowL k l:=by simp[lowL]
  have h1:=Nat.le_trans (zrt r k) (h r List.mem_cons_self)
  have h2:=zru (k:=k) (l:=l) fun x hx=>h x (List.mem_cons_of_mem _ hx)
  rw[e,List.length_append,List.length_cons,Nat.succ_mul]
  (first|assumption|lia)
theorem zuw (k:Int) (l:List Row) (r:Row):lowL k (l++[r])=lowL k l++lowR k r:=by simp[lowL]
theorem zrq {l:List Row} {t:Int} (ht:0≤t) (ht2:t≤5000) (hp:∀r∈l,∀x∈r,0≤x∧x≤1000) (hr:∀r∈l,r.length≤1000) (hs:∀r∈l,r.sum≤5000) (hb:∀r∈l,box r≤20000) (hl:l.length≤45) (k:∀g,Q (sumD (oddS (lowL t l))) (st++g)):WP (zfr [sumD l,.int t] st) Q:=by
 refine wp_fn rfl ?_
 simp only[W,V,Dd.N]
 refine WP.of (ziv (st:=st) (i:=t)) ⟨true,rfl,?_⟩
 have tn:¬ t < 0:=by (first|assumption|lia)
 simp only[W,V,Dd.N,tn,decide_false]
 have total:∀i,(lowL t (l.take i)).length≤900000:=fun i=>by
  have:=zru (k:=t) (l:=l.take i) fun x hx=>hb x (List.mem_of_mem_take hx)
  have h3:(l.take i).length≤l.length:=by rw[List.length_take];exact Nat.min_le_right _ _
  (first|assumption|lia)
 refine wp_for (fun i σ s=>(∃v w,σ=[some (sumD l),some (.int t),some (.ref st.length),v,w])∧∃g,s=st++(.dT (trueD (oddL (lowL t (l.take i))))::g)) ⟨⟨_,_,rfl⟩,[],rfl⟩ ?_ ?_
 ·rintro i y σ s hy ⟨⟨v,w,rfl⟩,g,rfl⟩
  obtain ⟨r,hrr,rfl⟩:=zeh hy
  have hm:=List.mem_of_getElem? hrr
  refine ⟨_,rfl,?_⟩
  unfold zia
  simp only[W,V,M,Dd.N,L]
  rw[zj hrr,zuw]
  have h0:=total i
  have h1:=zei (lowL t (l.take i))
  refine zgc (hp r hm) (hr r hm) (hb r hm) ht ht2 (hs r hm) fun g2=>?_
  simp only[W,V,Dd.N]
  rw[List.append_assoc,List.cons_append]
  generalize g++g2=g3
  have hpl:=Nat.le_trans (zrt r t) (hb r hm)
  refine wp_for (fun j σ s=>(∃w,σ=[some (sumD l),some (.int t),some (.ref st.length),some (rowD r),w])∧s=st++(.dT (trueD (((lowR t r).take j).foldl flipL (oddL (lowL t (l.take i)))))::g3)) ⟨⟨_,rfl⟩,rfl⟩ ?_ ?_
  ·rintro j y σ s hy ⟨⟨w,rfl⟩,rfl⟩
   obtain ⟨b,hb',rfl⟩:=zeh hy
   refine ⟨_,rfl,?_⟩
   unfold zja
   simp only[W,V,L]
   have h1:=zkc ((lowR t r).take j) (oddL (lowL t (l.take i))) (zfj _)
   have h2:((lowR t r).take j).length≤(lowR t r).length:=by rw[List.length_take];exact Nat.min_le_right _ _
   refine zbcs (ks:=((lowR t r).take j).foldl flipL (oddL (lowL t (l.take i)))) (zgk _ _) (by (first|assumption|lia)) ⟨⟨_,rfl⟩,?_⟩
   rw[zkz,zj hb',List.foldl_append]
   rfl
  ·rintro σ s ⟨⟨w,rfl⟩,rfl⟩
   simp only[L]
   refine ⟨⟨_,_,rfl⟩,g3,?_⟩
   rw[zu,List.take_length]
   unfold oddL
   rw[List.foldl_append]
 ·rintro σ s ⟨⟨v,w,rfl⟩,g,rfl⟩
  have h0:=total l.length
  rw[List.take_length] at h0
  rw[zu,List.take_length]
  simp only[W,V]
  have h1:=zei (lowL t l)
  refine ztx (ks:=oddL (lowL t l)) (zgk _ _) (by (first|assumption|lia)) ?_
  simp only[W,V]
  exact k _
end
end Dd
set_option maxHeartbeats 4000000
namespace Dd
open PySem L2 K13
section
variable {st:Store} {n:Nat} {Q:D→Store→Prop}
end
end Dd
namespace K54
end K54
set_option maxHeartbeats 4000000
namespace Dd
open PySem L2
open PySem.Builtin.Int (intBits)
noncomputable def cntP (d:Int):Nat→Int
 | 0=>1
 | i+1=>cntP d i * (d+(1+(i:Int))) / (1+(i:Int))
theorem zoz {d:Int} (h0:0≤d) (h1:d < 10 ^ 40):∀i:Nat,i≤20→intBits (cntP d i)≤200 * (i+1)
 | 0,_=>by show intBits 1≤200;decide
 | i+1,hi=>by
  have ih:=zoz h0 h1 i (by (first|assumption|lia))
  have b:intBits (d+(1+(i:Int)))≤200:=by
   rw[intBits_le_iff]
   have:(10:Int) ^ 40≤2 ^ 199:=by decide
   have e:(2:Nat) ^ 200=2 ^ 199+2 ^ 199:=by decide
   have e2:(1000:Nat)≤2 ^ 199:=by decide
   (first|assumption|lia)
  have m:=intBits_mul_le ih b
  unfold cntP
  refine intBits_le_of_natAbs (Int.natAbs_ediv_le_natAbs _ _) (Nat.le_trans m (by (first|assumption|lia)))
section
variable {st:Store} {n:Nat} {Q:D→Store→Prop}
theorem zgu {N d:Int} (hN:1≤N) (hN2:N≤10) (h0:0≤d) (h1:d < 10 ^ 40) (q:Q (.int (cntP d (N - 1).toNat)) st):WP (ze [.int N,.int d] st) Q:=by
 refine wp_fn rfl ?_
 simp only[W,V,Dd.N]
 refine ⟨rngN (by (first|assumption|lia)) (by (first|assumption|lia)),rngN (by (first|assumption|lia)) (by (first|assumption|lia)),?_⟩
 refine wp_for (fun i σ s=>(∃v,σ=[some (.int N),some (.int d),some (.int (cntP d i)),v])∧s=st) ⟨⟨_,rfl⟩,rfl⟩ ?_ ?_
 ·rintro i y σ s hy ⟨⟨v,rfl⟩,rfl⟩
  obtain ⟨hi,rfl⟩:=zfg hy
  refine ⟨_,rfl,?_⟩
  unfold zbs
  simp only[W,V,L]
  have b:=zoz h0 h1 i (by (first|assumption|lia))
  refine ⟨⟨Nat.le_trans b (by (first|assumption|lia)),?_⟩,⟨by (first|assumption|lia),?_⟩,⟨_,rfl⟩,trivial⟩
  ·rw[intBits_le_iff]
   have:(10:Int) ^ 40≤2 ^ 199:=by decide
   have e2:(1000:Nat)≤2 ^ 199:=by decide
   have e3:(2:Nat) ^ 200≤2 ^ 60000:=Nat.pow_le_pow_right (by decide) (by decide)
   have e:(2:Nat) ^ 200=2 ^ 199+2 ^ 199:=by decide
   refine Nat.lt_of_lt_of_le ?_ e3
   (first|assumption|lia)
  ·have:(1+(i:Int)) < 2 ^ 60:=Int.lt_of_le_of_lt (show (1+(i:Int))≤100 by (first|assumption|lia)) (by decide +kernel)
   exact Int.lt_of_lt_of_le this (by decide +kernel)
 ·rintro σ s ⟨⟨v,rfl⟩,rfl⟩
  rw[zx]
  simp only[W,V]
  exact q
theorem zlk {d:Int}:∀{l:List Int},l≠[]→(∀x∈l,x=d)→once l=[d]
 | [],h,_=>absurd rfl h
 | [a],_,h=>by
  have:=h a (by simp)
  subst this
  rfl
 | a::b::l,_,h=>by
  have h1:=h a (by simp)
  have h2:=h b (by simp)
  have ih:=zlk (d:=d) (l:=b::l) (by simp) fun x hx=>h x (List.mem_cons_of_mem _ hx)
  subst h1
  unfold once
  rw[if_pos (by rw[h2];simp)]
  exact ih
theorem zty (d:Int):sortI [d]=[d]:=by
 have:=zha [d]
 exact List.perm_singleton.mp this
theorem zly {l:List Row} (hl:l.length≤1000) (hs:∀r∈l,0≤r.sum∧r.sum < 64) (q:Q (.ref st.length) (st++[.lst ((sortI (once (l.map List.sum))).map .int)])):WP (zft [sumD l] st) Q:=by
 refine wp_fn rfl ?_
 simp only[W,V,Dd.N]
 refine ⟨by rw[zu];exact small _ (by (first|assumption|lia)),?_⟩
 refine wp_map (as:=l) (fun σ=>∃v,σ=[v]) (fun _=>true) (fun r=>.int r.sum) rowD ⟨_,rfl⟩ ?_ ?_
 ·rintro r hr σ ⟨v,rfl⟩
  refine ⟨_,rfl,⟨_,rfl⟩,by simp only[W,and_self],fun _=>?_⟩
  simp only[W,V,M]
  exact ⟨r,zbz r,trivial,rfl⟩
 ·rw[zel]
  have e1:=zbz (l.map List.sum)
  rw[List.map_map] at e1
  have e2:bSortSetM [.lst (l.map fun r=>.int r.sum)] st=.ok (.ref st.length) (st++[.lst ((sortI (once (l.map List.sum))).map .int)]):=by
   unfold bSortSetM
   dsimp only
   rw[show (asL st (.lst (l.map fun r=>D.int r.sum))).bind asInts=some (l.map List.sum) from e1]
   dsimp only
   rw[if_pos]
   rw[List.all_eq_true]
   intro x hx
   obtain ⟨r,hr,rfl⟩:=List.mem_map.mp hx
   have:=hs r hr
   simp[smallI]
   (first|assumption|lia)
  exact WP.of e2 q
theorem zvg {N d:Int} (hN:1≤N) (hN2:N≤10) (h0:0≤d) (h1:d≤if N≤3 then 24 else 10) (h2:cntP d (N - 1).toNat≤200) (q:Q (.int d) st):WP (zfu [.int N,.int d] st) Q:=by
 refine wp_fn rfl ?_
 have hd:d < 10 ^ 40:=by
  have:(30:Int) < 10 ^ 40:=by decide
  split at h1<;>(first|assumption|lia)
 have key:WP (zbk [.int N,.int d] st) (fun v s=>v=.bl true∧s=st):=by
  refine wp_fn rfl ?_
  simp only[W,V]
  refine WP.mono (Q:=fun v s=>v=.int (if N≤3 then 24 else 10)∧s=st) ?_ ?_
  ·refine wp_fn rfl ?_
   simp only[W,V]
   refine ⟨trivial,?_⟩
   by_cases c:N≤3
   ·simp only[c,if_true,and_self]
   ·simp only[c,if_false,and_self]
  ·rintro v s ⟨rfl,rfl⟩
   simp only[W,V]
   refine ⟨trivial,?_⟩
   simp only[h1,decide_true,if_true,W,V]
   refine zgu hN hN2 h0 hd ?_
   simp only[W,V]
   refine ⟨trivial,?_⟩
   rw[decide_eq_true h2]
   first | exact ⟨rfl,trivial⟩ | exact ⟨rfl,rfl⟩ | simp
 obtain ⟨v,s,e,rfl,rfl⟩:=key.get
 simp only[W,V]
 refine WP.of e ?_
 simp only[Dd.N,W,V,Bool.not_true]
 exact q
theorem zlj {N d:Int} {l:List Row} (hN:1≤N) (hN2:N≤10) (h0:0≤d) (h1:d≤if N≤3 then 24 else 10) (h2:cntP d (N - 1).toNat≤200) (hl:l.length≤1000) (ne:l≠[]) (hs:∀r∈l,r.sum=d) (k:∀g,Q (.int d) (st++g)):WP (zbw [.int N,sumD l] st) Q:=by
 refine wp_fn rfl ?_
 simp only[W,V]
 refine zly hl (fun r hr=>by rw[hs r hr];split at h1<;>(first|assumption|lia)) ?_
 have e1:once (l.map List.sum)=[d]:=zlk (by simpa using ne) fun x hx=>by
  obtain ⟨r,hr,rfl⟩:=List.mem_map.mp hx
  exact hs r hr
 rw[e1,zty]
 have g:(st++[O.lst ([d].map .int)])[st.length]?=some (.lst [.int d]):=by simp
 have s1:seqOf (st++[O.lst ([d].map .int)]) (.ref st.length)=some [.int d]:=by
  unfold seqOf asL
  simp[g]
 have k1:=k [O.lst ([d].map .int)]
 generalize st++[O.lst ([d].map .int)]=st1 at g s1 k1
 have e2:bLen [.ref st.length] st1=.ok (.int 1) st1:=by
  unfold bLen
  dsimp only
  rw[s1]
  rfl
 have e3:tru st1 (.ref st.length)=some true:=by
  unfold tru asL
  simp[g]
 refine WP.of e2 ?_
 simp only[W,V]
 refine ⟨trivial,?_⟩
 rw[if_neg (by decide)]
 refine ⟨true,e3,?_⟩
 simp only[V]
 refine ix_wp (d:=.int d) s1 rfl ?_
 exact zvg hN hN2 h0 h1 h2 k1
theorem znd {N:Int} (k:∀g,Q .non (st++g)):WP (zbw [.int N,sumD []] st) Q:=by
 refine wp_fn rfl ?_
 simp only[W,V]
 refine zly (l:=[]) (by simp) (fun r hr=>(by cases hr)) ?_
 have e1:sortI (once (([]:List Row).map List.sum))=[]:=List.perm_nil.mp (zha _)
 rw[e1]
 have g:(st++[O.lst (([]:List Int).map .int)])[st.length]?=some (.lst []):=by simp
 have k1:=k [O.lst (([]:List Int).map .int)]
 generalize st++[O.lst (([]:List Int).map .int)]=st1 at g k1
 have s1:seqOf st1 (.ref st.length)=some []:=by
  unfold seqOf asL
  simp[g]
 have e2:bLen [.ref st.length] st1=.ok (.int 0) st1:=by
  unfold bLen
  dsimp only
  rw[s1]
  rfl
 have e3:tru st1 (.ref st.length)=some false:=by
  unfold tru asL
  simp[g]
 refine WP.of e2 ?_
 simp only[W,V]
 refine ⟨trivial,?_⟩
 rw[if_neg (by decide)]
 refine ⟨false,e3,?_⟩
 simp only[V]
 exact k1
noncomputable def evenB (d:Int) (l:List Row):Bool:=(List.range (d / 2).toNat).all fun k:Nat=>decide (oddS (lowL (1+(k:Int)) l)=[])
theorem zpx {N:Int} (k:∀g,Q (.bl true) (st++g)):WP (zdk [.int N,.tup []] st) Q:=by
 refine wp_fn rfl ?_
 simp only[W,V]
 refine znd fun g=>?_
 try simp only[W,V]
 refine WP.of (show oIsN false .non .non (st++g)=.ok (.bl true) (st++g) from rfl) ?_
 simp only[W,V]
 exact k g
theorem zsh {N d:Int} {l:List Row} (hN:1≤N) (hN2:N≤10) (h0:0≤d) (h1:d≤if N≤3 then 24 else 10) (h2:cntP d (N - 1).toNat≤200) (hl:l.length≤40) (ne:l≠[]) (hs:∀r∈l,r.sum=d) (hr:Rows N.toNat l) (k:∀g,Q (.bl (evenB d l)) (st++g)):WP (zdk [.int N,sumD l] st) Q:=by
 refine wp_fn rfl ?_
 simp only[W,V]
 have hd:d≤24:=by split at h1<;>(first|assumption|lia)
 refine zlj hN hN2 h0 h1 h2 (by (first|assumption|lia)) ne hs fun g=>?_
 try simp only[W,V]
 refine WP.of (show oIsN false (.int d) .non (st++g)=.ok (.bl false) (st++g) from rfl) ?_
 simp only[W,V,Dd.N]
 have pos:∀r∈l,∀x∈r,0≤x∧x≤24:=fun r h x hx=>by
  have:=nn_le (hr r h).2 x hx
  rw[hs r h] at this
  exact ⟨(hr r h).2 x hx,by (first|assumption|lia)⟩
 have bx:∀r∈l,box r≤20000:=fun r h=>by
  by_cases c:N≤3
  ·have b1:=ztb fun x hx=>(pos r h x hx).2
   rw[(hr r h).1] at b1
   have b2:25 ^ N.toNat≤25 ^ 3:=Nat.pow_le_pow_right (by (first|assumption|lia)) (by (first|assumption|lia))
   (first|assumption|lia)
  ·rw[if_neg c] at h1
   have b1:=zsz (hr r h).2
   rw[hs r h] at b1
   have b2:2 ^ d.toNat≤2 ^ 10:=Nat.pow_le_pow_right (by (first|assumption|lia)) (by (first|assumption|lia))
   (first|assumption|lia)
 refine ⟨⟨by (first|assumption|lia),by decide⟩,rngN (by (first|assumption|lia)) (by (first|assumption|lia)),rngN (by (first|assumption|lia)) (by (first|assumption|lia)),by rw[zx];exact small _ (by (first|assumption|lia)),?_⟩
 refine znu (fun i acc σ s=>(∃v,σ=[v,some (sumD l)])∧(∃g,s=st++g)∧acc=(List.range i).map fun k:Nat=>D.bl (decide (oddS (lowL (1+(k:Int)) l)=[]))) ⟨⟨_,rfl⟩,⟨g,rfl⟩,rfl⟩ ?_ ?_
 ·rintro i y acc σ s hy ⟨⟨v,rfl⟩,⟨g,rfl⟩,rfl⟩
  obtain ⟨hi,rfl⟩:=zfg hy
  refine ⟨_,rfl,?_⟩
  simp only[W,V]
  refine zrq (by (first|assumption|lia)) (by (first|assumption|lia)) (fun r h x hx=>by have:=pos r h x hx;(first|assumption|lia)) (fun r h=>by rw[(hr r h).1];(first|assumption|lia)) (fun r h=>by rw[hs r h];(first|assumption|lia)) bx (by (first|assumption|lia)) fun g2=>?_
  try simp only[W,V]
  refine ⟨by simp,?_⟩
  refine WP.of (zbce (neg:=false) _ []) ?_
  refine ⟨⟨_,rfl⟩,⟨_,List.append_assoc _ _ _⟩,?_⟩
  rw[List.range_succ,List.map_append]
  rfl
 ·rintro ys σ s ⟨⟨v,rfl⟩,⟨g,rfl⟩,rfl⟩
  rw[zx]
  try simp only[W,V,M]
  refine ⟨_,ziz _ _,?_⟩
  have e:(((List.range (d / 2+1 - 1).toNat).map fun k:Nat=>decide (oddS (lowL (1+(k:Int)) l)=[])).all id)=evenB d l:=by
   unfold evenB
   rw[List.all_map,show d / 2+1 - 1=d / 2 by (first|assumption|lia)]
   rfl
  try simp only[if_true]
  rw[e]
  exact k g
noncomputable def allJ (p:Pt):List Pt:=(List.range (p.2.toNat+1)).map fun e:Nat=>(p.1++[(e:Int)],p.2 - (e:Int))
noncomputable def allS (d:Int):Nat→List Pt
 | 0=>[([],d)]
 | k+1=>(allS d k).flatMap allJ
noncomputable def allL (d:Int) (k:Nat):List Row:=(allS d k).map fun p=>p.1++[p.2]
theorem zxg {α:Type} {f:α→List Pt} {B:Nat}:∀{l:List α},(∀a∈l,(f a).length≤B)→(l.flatMap f).length≤l.length * B
 | [],_=>by simp
 | a::l,h=>by
  have h1:=h a List.mem_cons_self
  have h2:=zxg (l:=l) fun b hb=>h b (List.mem_cons_of_mem _ hb)
  rw[List.flatMap_cons,List.length_append,List.length_cons,Nat.succ_mul]
  (first|assumption|lia)
theorem zeb {d:Int} (h0:0≤d):∀k:Nat,∀p∈allS d k,p.1.length=k∧(∀x∈p.1,0≤x)∧0≤p.2∧p.1.sum+p.2=d
 | 0,p,hp=>by
  simp[allS] at hp
  subst hp
  exact ⟨rfl,by simp,h0,by simp⟩
 | k+1,p,hp=>by
  obtain ⟨q,hq,hp⟩:=List.mem_flatMap.mp hp
  obtain ⟨h1,h2,h3,h4⟩:=zeb h0 k q hq
  obtain ⟨e,he,rfl⟩:=List.mem_map.mp hp
  have he:=List.mem_range.mp he
  refine ⟨by simp[h1],fun x hx=>?_,by dsimp only;(first|assumption|lia),by simp;(first|assumption|lia)⟩
  rcases List.mem_append.mp hx with hx | hx
  ·exact h2 x hx
  ·simp at hx;(first|assumption|lia)
theorem znr {d:Int} (h0:0≤d):∀k:Nat,(allS d k).length≤(d.toNat+1) ^ k
 | 0=>by simp[allS]
 | k+1=>by
  have ih:=znr h0 k
  have h:=zxg (f:=allJ) (B:=d.toNat+1) (l:=allS d k) fun p hp=>by
   obtain ⟨_,h2,h3,h4⟩:=zeb h0 k p hp
   have:=nn_sum h2
   unfold allJ
   rw[List.length_map,List.length_range]
   (first|assumption|lia)
  show ((allS d k).flatMap allJ).length≤_
  rw[Nat.pow_succ]
  exact Nat.le_trans h (Nat.mul_le_mul_right _ ih)
theorem zban:∀(a:Row) (d:Int),(∀x∈a,0≤x)→a.sum≤d→(a,d - a.sum)∈allS d a.length:=fun a=>by
 induction hn:a.length generalizing a with
 | zero =>
  intro d _ _
  have:a=[]:=List.length_eq_zero_iff.mp hn
  subst this
  simp[allS]
 | succ k ih =>
  intro d ha hs
  have ne:a≠[]:=by rintro rfl;simp at hn
  obtain ⟨b,e,rfl⟩:∃b e,a=b++[e]:=⟨a.dropLast,a.getLast ne,(List.dropLast_concat_getLast ne).symm⟩
  have he:=ha e (by simp)
  have hb:=fun x hx=>ha x (List.mem_append_left _ hx)
  rw[List.sum_append,List.sum_singleton] at hs
  have h1:=ih b (by simp at hn;exact hn) d hb (by (first|assumption|lia))
  refine List.mem_flatMap.mpr ⟨_,h1,List.mem_map.mpr ⟨e.toNat,List.mem_range.mpr (by dsimp only;(first|assumption|lia)),?_⟩⟩
  have e1:((e.toNat:Nat):Int)=e:=by (first|assumption|lia)
  rw[List.sum_append,List.sum_singleton,e1]
  dsimp only
  congr 1
  (first|assumption|lia)
theorem zbao {r:Row} {d:Int} {k:Nat} (hl:r.length=k+1) (hr:∀x∈r,0≤x) (hs:r.sum=d):r∈allL d k:=by
 have ne:r≠[]:=by rintro rfl;simp at hl
 obtain ⟨b,e,rfl⟩:∃b e,r=b++[e]:=⟨r.dropLast,r.getLast ne,(List.dropLast_concat_getLast ne).symm⟩
 rw[List.sum_append,List.sum_singleton] at hs
 have h1:=zban b d (fun x hx=>hr x (List.mem_append_left _ hx)) (by have:=hr e (by simp);(first|assumption|lia))
 have e1:b.length=k:=by simpa using hl
 rw[e1] at h1
 refine List.mem_map.mpr ⟨_,h1,?_⟩
 dsimp only
 rw[show d - b.sum=e by (first|assumption|lia)]
theorem zmk {d:Int} (h0:0≤d) {k:Nat} {r:Row} (h:r∈allL d k):r.length=k+1∧(∀x∈r,0≤x)∧r.sum=d:=by
 obtain ⟨p,hp,rfl⟩:=List.mem_map.mp h
 obtain ⟨h1,h2,h3,h4⟩:=zeb h0 k p hp
 refine ⟨by simp[h1],fun x hx=>?_,by simp;(first|assumption|lia)⟩
 rcases List.mem_append.mp hx with hx | hx
 ·exact h2 x hx
 ·simp at hx;(first|assumption|lia)
theorem zqc {a0 a1 a3 v4 v5 v6:Option D} {d:Int} {j:Nat} {I:DS→Store→Prop} {Q:Fl→Store→Prop} (h0:0≤d) (hd:d≤1000) (hj:j≤100) (hb:(d.toNat+1) ^ (j+1)≤100000)
  (k:∀w4 w5 w6 g,I [a0,a1,some (.lst ((allS d (j+1)).map ptD)),a3,w4,w5,w6] (st++g)) :
  WP (zfa [a0,a1,some (.lst ((allS d j).map ptD)),a3,v4,v5,v6] st) (loopK I Q):=by
 have fl:=znr h0 (j+1)
 have fc:=zeb h0 j
 have e0:allS d (j+1)=(allS d j).flatMap allJ:=rfl
 rw[e0] at fl k
 generalize allS d j=ps at fl fc k ⊢
 have pre:∀i,((ps.take i).flatMap allJ).length≤100000:=fun i=>by
  have:ps.flatMap allJ=(ps.take i).flatMap allJ++(ps.drop i).flatMap allJ:=by rw[← List.flatMap_append,List.take_append_drop]
  rw[this,List.length_append] at fl
  (first|assumption|lia)
 unfold zfa
 simp only[W,V,Dd.N]
 refine ⟨small _ (by simp),?_⟩
 refine wp_for (fun i σ s=>(∃v w,σ=[a0,a1,some (.lst (ps.map ptD)),a3,some (.ref st.length),v,w])∧s=st++[.lst (((ps.take i).flatMap allJ).map ptD)]) ⟨⟨_,_,rfl⟩,rfl⟩ ?_ ?_
 ·rintro i y σ s hy ⟨⟨v,w,rfl⟩,rfl⟩
  obtain ⟨p,hp,rfl⟩:=zlp hy
  obtain ⟨h1,h2,h3,h4⟩:=fc p (List.mem_of_getElem? hp)
  have h5:=nn_sum h2
  refine ⟨_,rfl,?_⟩
  unfold zib
  simp only[W,V,L,zjc]
  refine ⟨_,_,rfl,by simp;rfl,_,rfl,rngN (by (first|assumption|lia)) (by (first|assumption|lia)),by rw[zx];exact small _ (by (first|assumption|lia)),?_⟩
  unfold rng
  refine wp_map (as:=List.range (p.2+1).toNat) (fun σ=>∃v,σ=[v,some (rowD p.1),some (.int p.2)]) (fun x=>true) (fun j:Nat=>ptD (p.1++[(j:Int)],p.2 - (j:Int))) (fun i=>.int (0+(i:Int))) ⟨_,rfl⟩ ?_ ?_
  ·rintro j hj σ ⟨v,rfl⟩
   refine ⟨_,rfl,⟨_,rfl⟩,by simp only[W,and_self],fun _=>?_⟩
   simp only[W,V,Dd.N]
   rw[Int.zero_add]
   refine ⟨small _ (by simp),by rw[List.length_map];exact small _ (by simp;(first|assumption|lia)),small _ (by simp),?_⟩
   simp[ptD,rowD]
  ·rw[zel]
   have hl:=pre (i+1)
   rw[zj hp,List.flatMap_append,List.length_append] at hl
   have e2:(p.2+1).toNat=p.2.toNat+1:=by (first|assumption|lia)
   have e3:([p].flatMap allJ)=allJ p:=by simp
   rw[e3] at hl
   refine ⟨_,_,_,rfl,by simp;rfl,rfl,?_,⟨_,_,rfl⟩,?_⟩
   ·have e4:(allJ p).length=p.2.toNat+1:=by unfold allJ;simp
    rw[e4] at hl
    rw[List.length_map,List.length_map,List.length_range,e2]
    exact small _ (by (first|assumption|lia))
   ·rw[zj hp,List.flatMap_append,e3]
    unfold allJ
    rw[e2]
    simp[List.map_map,Function.comp_def]
 ·rintro σ s ⟨⟨v,w,rfl⟩,rfl⟩
  rw[List.length_map,List.take_length]
  simp only[W,V,M,Dd.N,L]
  refine ⟨_,_,rfl,by simp;rfl,?_⟩
  have:=k (some (.ref st.length)) v w [.dead]
  simpa using this
theorem all_wp {N d:Int} (hN:1≤N) (hN2:N≤10) (h0:0≤d) (hd:d≤1000) (hb:(d.toNat+1) ^ (N - 1).toNat≤100000) (k:∀g,Q (.lst (rowsD (allL d (N - 1).toNat))) (st++g)):WP (zfs [.int N,.int d] st) Q:=by
 refine wp_fn rfl ?_
 simp only[W,V,Dd.N]
 refine ⟨small _ (by simp),small _ (by simp),small _ (by simp),rngN (by (first|assumption|lia)) (by (first|assumption|lia)),?_⟩
 refine wp_for (fun i σ s=>(∃v4 v5 v6 v3,σ=[some (.int N),some (.int d),some (.lst ((allS d i).map ptD)),v3,v4,v5,v6])∧∃g,s=st++g) ⟨⟨_,_,_,_,rfl⟩,[],by simp⟩ ?_ ?_
 ·rintro i y σ s hy ⟨⟨v4,v5,v6,v3,rfl⟩,g,rfl⟩
  obtain ⟨hi,rfl⟩:=zfg hy
  refine ⟨_,rfl,?_⟩
  simp only[V]
  refine zqc h0 hd (by (first|assumption|lia)) (Nat.le_trans (Nat.pow_le_pow_right (by (first|assumption|lia)) hi) hb) fun w4 w5 w6 g2=>⟨⟨_,_,_,_,rfl⟩,g++g2,by simp⟩
 ·rintro σ s ⟨⟨v4,v5,v6,v3,rfl⟩,g,rfl⟩
  rw[zx]
  have fc:=zeb h0 (N - 1).toNat
  have fl:=znr h0 (N - 1).toNat
  simp only[W,V,Dd.N]
  refine ⟨by rw[List.length_map];exact small _ (by (first|assumption|lia)),?_⟩
  refine wp_map (as:=allS d (N - 1).toNat) (fun σ=>∃v w,σ=[v,w]) (fun _=>true) (fun p=>rowD (p.1++[p.2])) ptD ⟨_,_,rfl⟩ ?_ ?_
  ·rintro p hp σ ⟨v,w,rfl⟩
   refine ⟨_,rfl,⟨_,_,rfl⟩,by simp only[W,and_self],fun _=>?_⟩
   simp only[W,V]
   have:=(fc p hp).1
   refine ⟨small _ (by simp),by rw[List.length_map];exact small _ (by simp;(first|assumption|lia)),?_⟩
   simp[rowD]
  ·rw[zel]
   have e:(allS d (N - 1).toNat).map (fun p=>rowD (p.1++[p.2]))=rowsD (allL d (N - 1).toNat):=by
    unfold allL rowsD
    rw[List.map_map]
    rfl
   rw[e]
   exact k g
end
end Dd
set_option maxHeartbeats 4000000
namespace Dd
open PySem L2
theorem zbci {l:List Row} {n:Nat} {d k:Int} (hn:n≠0) (hr:Rows n l) (hs:∀r∈l,r.sum=d) (hk:0≤k) {p:Row} (hp:p∈lowL k l):p.sum=d - k:=by
 obtain ⟨r,h,hp⟩:=List.mem_flatMap.mp hp
 have ne:r≠[]:=by
  rintro rfl
  have:=(hr [] h).1
  simp at this
  (first|assumption|lia)
 rw[znf ne (hr r h).2 hk] at hp
 have:=(List.mem_filter.mp hp).2
 rw[← hs r h]
 simpa using this
theorem zur {A:List Row} {p:Row} (nd:A.Nodup) (h:p∈A):meets A [p]=1:=by
 unfold meets
 rw[zqi,zbn,zwe,cnt1 nd h]
section
variable {l:List Row} {N d:Int}
noncomputable abbrev metB (l:List Row) (d:Int) (less:Nat) (p:Row):Nat:=meets l (oddS (raiseL (d - (less:Int)) [p])) % 2
theorem zbcv (hN:1≤N) (hr:Rows N.toNat l) (hs:∀r∈l,r.sum=d) (h:∀less:Nat,(less:Int) < d→∀p∈allL less (N - 1).toNat,metB l d less p=0):evenB d l=true:=by
 unfold evenB
 rw[List.all_eq_true]
 intro k hk
 have hk:=List.mem_range.mp hk
 have hn:N.toNat≠0:=by (first|assumption|lia)
 refine decide_eq_true ?_
 by_cases c:oddS (lowL (1+(k:Int)) l)=[]
 ·exact c
 exfalso
 obtain ⟨p,hp⟩:=List.exists_mem_of_ne_nil _ c
 have hp1:=zhn hp
 have s1:=zbci hn hr hs (by (first|assumption|lia)) hp1
 obtain ⟨r1,r2⟩:=hr.low hn (k:=1+(k:Int)) (by (first|assumption|lia)) p hp1
 have s2:=nn_sum r2
 have hm:=h (d - 1 - k).toNat (by (first|assumption|lia)) p (zbao (by (first|assumption|lia)) r2 (by (first|assumption|lia)))
 have hp':Rows N.toNat [p]:=fun r hr'=>by simp at hr';subst hr';exact ⟨r1,r2⟩
 have e:d - ((d - 1 - (k:Int)).toNat:Int)=1+(k:Int):=by (first|assumption|lia)
 unfold metB at hm
 rw[e,← zxp hn hr hp' (by (first|assumption|lia)),zur (zfi _) hp] at hm
 (first|assumption|lia)
theorem odd_of (hN:1≤N) (hr:Rows N.toNat l) {less:Nat} (hl:(less:Int) < d) {p:Row} (hp:p∈allL less (N - 1).toNat) (h:metB l d less p=1):evenB d l=false:=by
 have hn:N.toNat≠0:=by (first|assumption|lia)
 obtain ⟨r1,r2,r3⟩:=zmk (by (first|assumption|lia)) hp
 have hp':Rows N.toNat [p]:=fun r hr'=>by simp at hr';subst hr';exact ⟨by (first|assumption|lia),r2⟩
 unfold metB at h
 by_cases c:d - (less:Int)≤less
 ·cases e:evenB d l with
  | false=>rfl
  | true =>
   exfalso
   unfold evenB at e
   have z:=List.all_eq_true.mp e (d - less - 1).toNat (List.mem_range.mpr (by (first|assumption|lia)))
   have z:=of_decide_eq_true z
   rw[show 1+((d - (less:Int) - 1).toNat:Int)=d - less by (first|assumption|lia)] at z
   rw[← zxp hn hr hp' (by (first|assumption|lia)),z] at h
   simp[meets,zwe] at h
 ·exfalso
  have e:raiseL (d - (less:Int)) [p]=[]:=by
   unfold raiseL raiseR
   simp
   (first|assumption|lia)
  rw[e] at h
  have e2:meets l (oddS [])=0:=by
   unfold meets
   rw[zqi]
   rfl
  rw[e2] at h
  simp at h
end
section
variable {st:Store} {n:Nat} {Q:D→Store→Prop}
theorem zpw {N d:Int} {l:List Row} (hN:1≤N) (hN2:N≤10) (h0:0≤d) (h1:d≤if N≤3 then 24 else 10) (hb:(d.toNat+1) ^ (N - 1).toNat≤100000) (hl:l.length≤40) (hs:∀r∈l,r.sum=d) (hr:Rows N.toNat l) (k:∀g,Q (.bl (evenB d l)) (st++g)):WP (zef [.int N,.int d,sumD l] st) Q:=by
 have hd:d≤24:=by split at h1<;>(first|assumption|lia)
 refine wp_fn rfl ?_
 simp only[W,V,Dd.N]
 refine ⟨rngN (by (first|assumption|lia)) (by (first|assumption|lia)),?_⟩
 refine wp_for (fun i σ s=>(∃v w,σ=[some (.int N),some (.int d),some (sumD l),v,w])∧(∃g,s=st++g)∧∀less:Nat,less < i→∀p∈allL less (N - 1).toNat,metB l d less p=0) ⟨⟨_,_,rfl⟩,⟨[],by simp⟩,fun j hj=>absurd hj (by (first|assumption|lia))⟩ ?_ ?_
 ·rintro i y σ s hy ⟨⟨v,w,rfl⟩,⟨g,rfl⟩,ih⟩
  obtain ⟨hi,rfl⟩:=zfg hy
  refine ⟨_,rfl,?_⟩
  unfold zgo
  simp only[W,V]
  rw[Int.zero_add]
  have hpow:((i:Int).toNat+1) ^ (N - 1).toNat≤100000:=Nat.le_trans (Nat.pow_le_pow_left (by (first|assumption|lia)) _) hb
  refine all_wp hN hN2 (by (first|assumption|lia)) (by (first|assumption|lia)) hpow fun g2=>?_
  simp only[Dd.N]
  refine wp_for (fun j σ s=>(∃w,σ=[some (.int N),some (.int d),some (sumD l),some (.int (i:Int)),w])∧(∃g,s=st++g)∧∀p∈(allL i (N - 1).toNat).take j,metB l d i p=0) ⟨⟨_,rfl⟩,⟨g++g2,by simp⟩,fun p hp=>(by simp at hp)⟩ ?_ ?_
  ·rintro j y σ s hy ⟨⟨w,rfl⟩,⟨g,rfl⟩,ih2⟩
   obtain ⟨p,hp,rfl⟩:=zeh hy
   have hm:=List.mem_of_getElem? hp
   obtain ⟨f1,f2,f3⟩:=zmk (by (first|assumption|lia)) hm
   refine ⟨_,rfl,?_⟩
   unfold zgp
   simp only[W,V]
   refine ⟨small _ (by simp),trivial,?_⟩
   have x24:∀x∈p,x≤24:=fun x hx=>by have:=nn_le f2 x hx;(first|assumption|lia)
   have bx:box p≤20000:=by
    by_cases c:N≤3
    ·have b1:=ztb x24
     rw[f1] at b1
     have b2:25 ^ ((N - 1).toNat+1)≤25 ^ 3:=Nat.pow_le_pow_right (by (first|assumption|lia)) (by (first|assumption|lia))
     (first|assumption|lia)
    ·rw[if_neg c] at h1
     have b1:=zsz f2
     rw[f3] at b1
     have b2:2 ^ (i:Int).toNat≤2 ^ 10:=Nat.pow_le_pow_right (by (first|assumption|lia)) (by (first|assumption|lia))
     (first|assumption|lia)
   have one:∀{P:Row→Prop},P p→∀r∈[p],P r:=fun h r hr=>by simp at hr;subst hr;exact h
   refine zls (l:=[p]) (B:=20000) (by (first|assumption|lia)) (one fun x hx=>⟨f2 x hx,by have:=x24 x hx;(first|assumption|lia)⟩) (one (by (first|assumption|lia))) (one bx) (by (first|assumption|lia)) (by simp) fun g2=>?_
   refine zza (zfi _) (by (first|assumption|lia)) ?_
   simp only[Dd.N,V]
   split
   ·rename_i odd
    simp only[W,V,L]
    have e:=odd_of (d:=d) hN hr (by (first|assumption|lia)) hm odd
    have:=k (g++g2)
    rw[e] at this
    simpa using this
   ·rename_i ev
    simp only[W,V,L]
    refine ⟨⟨_,rfl⟩,⟨g++g2,by simp⟩,fun q hq=>?_⟩
    rw[zj hp] at hq
    rcases List.mem_append.mp hq with hq | hq
    ·exact ih2 q hq
    ·simp at hq
     subst hq
     unfold metB
     (first|assumption|lia)
  ·rintro σ s ⟨⟨w,rfl⟩,⟨g,rfl⟩,ih2⟩
   rw[zu,List.take_length] at ih2
   simp only[L]
   refine ⟨⟨_,_,rfl⟩,⟨g,rfl⟩,fun less hless p hp=>?_⟩
   rcases Nat.lt_or_ge less i with c | c
   ·exact ih less c p hp
   ·have:less=i:=by (first|assumption|lia)
    subst this
    exact ih2 p hp
 ·rintro σ s ⟨⟨v,w,rfl⟩,⟨g,rfl⟩,ih⟩
  rw[zx] at ih
  simp only[W,V]
  have e:=zbcv hN hr hs fun less hless=>ih less (by (first|assumption|lia))
  have:=k g
  rw[e] at this
  exact this
noncomputable def mostD (N:Int):Int:=([24,24,18,8,5,4,3,3,3,2]:List Int).getD (N - 1).toNat 0
theorem zup:(List.range 10).all (fun i=>decide (0≤mostD ((i:Int)+1)∧mostD ((i:Int)+1)≤(if ((i:Int)+1)≤3 then 24 else 10)∧((mostD ((i:Int)+1)).toNat+1) ^ i≤100000))=true:=by decide +kernel
theorem zlo {N:Int} (h1:1≤N) (h2:N≤10):0≤mostD N∧mostD N≤(if N≤3 then 24 else 10)∧((mostD N).toNat+1) ^ (N - 1).toNat≤100000:=by
 have:=List.all_eq_true.mp zup (N - 1).toNat (List.mem_range.mpr (by (first|assumption|lia)))
 have:=of_decide_eq_true this
 rw[show (((N - 1).toNat:Nat):Int)+1=N by (first|assumption|lia)] at this
 exact this
theorem zbch {N:Int} (h1:1≤N) (h2:N≤10):L2.atI (([24,24,18,8,5,4,3,3,3,2]:List Int).map D.int) (N - 1)=some (.int (mostD N)):=by
 obtain ⟨j,hj⟩:=Int.eq_ofNat_of_zero_le (show 0≤N - 1 by (first|assumption|lia))
 unfold mostD
 rw[hj]
 refine zkr ?_
 rw[List.getElem?_map]
 have hlt:j < 10:=by (first|assumption|lia)
 rw[Int.toNat_natCast,List.getD_eq_getElem?_getD,List.getElem?_eq_getElem (by simpa using hlt)]
 rfl
theorem zvr {N:Int} (hb:BagAt st n) (h1:1≤N) (h2:N≤10) (k:∀(d:Int) st',0≤d→d≤mostD N→Drew st st' n→Q (.int d) st'):WP (zcn [.ref n,.int N] st) Q:=by
 obtain ⟨m1,m2,m3⟩:=zlo h1 h2
 have m4:mostD N≤24:=by split at m2<;>(first|assumption|lia)
 refine wp_fn rfl ?_
 simp only[W,V]
 refine ⟨small _ (by simp),trivial,ix_wp (xs:=([24,24,18,8,5,4,3,3,3,2]:List Int).map D.int) rfl (zbch h1 h2) ?_⟩
 simp only[W,V]
 refine zcx hb (by (first|assumption|lia)) (by (first|assumption|lia)) fun a s1 a1 a2 d1=>?_
 refine ⟨small _ (by simp),?_⟩
 refine zcx d1.bag (by (first|assumption|lia)) (by (first|assumption|lia)) fun b s2 b1 b2 d2=>?_
 simp only[W,V]
 refine ⟨trivial,?_⟩
 by_cases c:0 < b
 ·simp only[c,decide_true,if_true]
  exact ix_wp (xs:=[.int (mostD N),.int a]) rfl rfl (k _ _ a1 (by (first|assumption|lia)) (d1.trans d2))
 ·simp only[c,decide_false]
  exact ix_wp (xs:=[.int (mostD N),.int a]) rfl rfl (k _ _ m1 (Int.le_refl _) (d1.trans d2))
structure Alike (m:Int) (l:List Row):Prop where
 few:l.length≤40
 rows:Rows m.toNat l
 deg:∃d:Int,0≤d∧d≤24∧(∀r∈l,r.sum=d)∧(d.toNat+1) ^ (m - 1).toNat≤100000
theorem zxv (r:Row) (i:Nat):(r.drop i++r.take i).sum=r.sum:=by
 rw[List.sum_append,Int.add_comm,← List.sum_append,List.take_append_drop]
theorem zbcr {N:Int} (hb:BagAt st n) (h1:1≤N) (h2:N≤3) (k:∀l st',Alike N l→Drew st st' n→Q (sumD l) st'):WP (zed [.ref n,.int N] st) Q:=by
 refine wp_fn rfl ?_
 refine zeq (R:=fun fl s=>∃r:Row,fl=.nx [some (.ref n),some (.int N),some (rowD r),none]∧r.length=N.toNat∧(∀x∈r,0≤x∧x≤7)∧Drew st s n) ?_ ?_
 ·simp only[W,V,Dd.N]
  refine ⟨rngN (by (first|assumption|lia)) (by (first|assumption|lia)),by rw[zx];exact small _ (by (first|assumption|lia)),?_⟩
  refine znu (fun i acc σ s=>∃(r:Row) (v:Option D),acc=r.map .int∧r.length=i∧(∀x∈r,0≤x∧x≤7)∧σ=[v,some (.ref n),some (.int N)]∧Drew st s n) ⟨[],none,rfl,rfl,by simp,rfl,.refl hb⟩ ?_ ?_
  ·rintro i x acc σ s hx ⟨r,v,rfl,a1,a2,rfl,a3⟩
   refine ⟨_,rfl,?_⟩
   simp only[W,V]
   refine ⟨small _ (by simp),trivial,.inl ⟨by decide,by decide⟩,trivial,?_⟩
   refine zcx a3.bag (by split<;>(first|assumption|lia)) (by split<;>(first|assumption|lia)) fun c s2 c1 c2 d2=>?_
   refine zqz c1 (by simp;split at c2<;>(first|assumption|lia)) fun d hd=>?_
   have fin:∀z:Int,0≤z∧z≤7→∃(r':Row) (w:Option D),r.map D.int++[D.int z]=r'.map .int∧r'.length=i+1∧(∀x∈r',0≤x∧x≤7)∧[some x,some (.ref n),some (.int N)]=[w,some (.ref n),some (.int N)]∧Drew st s2 n:=fun z hz=>⟨r++[z],_,by simp,by simp[a1],zho a2 hz,rfl,a3.trans d2⟩
   simp only[List.mem_cons,List.not_mem_nil,or_false] at hd
   rcases hd with rfl | rfl | rfl | rfl | rfl | rfl
   ·exact fin 0 (by (first|assumption|lia))
   ·exact fin 1 (by (first|assumption|lia))
   ·exact fin 3 (by (first|assumption|lia))
   ·exact fin 1 (by (first|assumption|lia))
   ·exact fin 0 (by (first|assumption|lia))
   ·exact fin 7 (by (first|assumption|lia))
  ·rintro ys σ s ⟨r,v,rfl,a1,a2,rfl,a3⟩
   rw[zx] at a1
   try simp only[W,V]
   exact ⟨r,rfl,a1,a2,a3⟩
 rintro fl s ⟨r,rfl,r1,r2,D1⟩
 show WP _ _
 have pos:∀x∈r,0≤x:=fun x hx=>(r2 x hx).1
 refine zeq (R:=fun fl s'=>fl=.nx [some (.ref n),some (.int N),some (rowD r),some (.lst (rowsD ((List.range N.toNat).map fun i=>r.drop i++r.take i)))]∧s'=s) ?_ ?_
 ·simp only[W,V,Dd.N]
  refine ⟨rngN (by (first|assumption|lia)) (by (first|assumption|lia)),by rw[zx];exact small _ (by (first|assumption|lia)),?_⟩
  unfold rng
  refine wp_map (as:=List.range N.toNat) (fun σ=>∃v,σ=[v,some (rowD r)]) (fun _=>true) (fun i:Nat=>rowD (r.drop i++r.take i)) (fun i=>.int (0+(i:Int))) ⟨_,rfl⟩ ?_ ?_
  ·rintro i hi σ ⟨v,rfl⟩
   refine ⟨_,rfl,⟨_,rfl⟩,by simp only[W,and_self],fun _=>?_⟩
   simp only[W,V,M,Dd.N,Int.zero_add,zss,cut_to]
   have h3:(List.drop i (r.map D.int)).length+(List.take i (r.map D.int)).length≤1000:=by simp;(first|assumption|lia)
   refine ⟨small _ (by (first|assumption|lia)),?_⟩
   simp[rowD,List.map_drop,List.map_take]
  ·rw[zel]
   refine ⟨?_,rfl⟩
   simp[rowsD,List.map_map,Function.comp_def]
 rintro fl s' ⟨rfl,rfl⟩
 show WP _ _
 have sm:=nn_sum pos
 have d21:r.sum≤21:=by
  have:∀l:Row,(∀x∈l,0≤x∧x≤7)→l.sum≤7 * l.length:=fun l=>by
   induction l with
   | nil=>intro _;simp
   | cons a l ih =>
    intro h
    have h1:=h a List.mem_cons_self
    have h2:=ih fun x hx=>h x (List.mem_cons_of_mem _ hx)
    rw[List.sum_cons,List.length_cons]
    (first|assumption|lia)
  have:=this r r2
  (first|assumption|lia)
 have fin:∀T:List Row,(∀t∈T,t.length=N.toNat∧(∀x∈t,0≤x)∧t.sum=r.sum)→T.length≤3→∀s2,Drew st s2 n→WP (oAdd (.lst [rowD r]) (.lst (rowsD T)) s2) (fun x s3=>WP (zbd [x] s3) Q):=fun T hT hl s2 D2=>by
  rw[zbar]
  refine ⟨by rw[zu];exact small _ (by simp;(first|assumption|lia)),?_⟩
  have e1:[rowD r]++rowsD T=rowsD (r::T):=rfl
  rw[e1]
  have all:∀t∈oddS (r::T),t.length=N.toNat∧(∀x∈t,0≤x)∧t.sum=r.sum:=fun t ht=>by
   rcases List.mem_cons.mp (zhn ht) with rfl | h
   ·exact ⟨r1,pos,rfl⟩
   ·exact hT t h
  refine zrj (l:=r::T) rfl (by simp;(first|assumption|lia)) fun g=>k _ _ ⟨?_,fun t ht=>⟨(all t ht).1,(all t ht).2.1⟩,r.sum,sm,by (first|assumption|lia),fun t ht=>(all t ht).2.2,?_⟩ (D2.trans (.more D2.bag g))
  ·have:=zio (r::T)
   rw[List.length_cons] at this
   (first|assumption|lia)
  ·have b1:(r.sum.toNat+1) ^ (N - 1).toNat≤22 ^ (N - 1).toNat:=Nat.pow_le_pow_left (by (first|assumption|lia)) _
   have b2:22 ^ (N - 1).toNat≤22 ^ 2:=Nat.pow_le_pow_right (by (first|assumption|lia)) (by (first|assumption|lia))
   (first|assumption|lia)
 simp only[W,V]
 refine ⟨small _ (by simp),small _ (by simp),small _ (by simp),?_⟩
 refine zcx D1.bag (by (first|assumption|lia)) (by (first|assumption|lia)) fun c s2 c1 c2 d2=>?_
 refine zqz c1 (by simp;(first|assumption|lia)) fun d hd=>?_
 simp only[List.mem_cons,List.not_mem_nil,or_false] at hd
 rcases hd with rfl | rfl
 ·refine fin _ (fun t ht=>?_) (by simp;(first|assumption|lia)) s2 (D1.trans d2)
  obtain ⟨i,hi,rfl⟩:=List.mem_map.mp ht
  refine ⟨by simp;(first|assumption|lia),fun x hx=>?_,zxv r i⟩
  rcases List.mem_append.mp hx with hx | hx
  ·exact pos x (List.mem_of_mem_drop hx)
  ·exact pos x (List.mem_of_mem_take hx)
 ·exact fin [] (fun t ht=>(by cases ht)) (by simp) s2 (D1.trans d2)
theorem zbcu {m d:Int} (h1:1≤m) (h2:m≤10) (h0:0≤d) (hd:d≤1000) (q:Q (.bl (decide (d≤if m < 4 then 24 else 10) && decide (cntP d (m - 1).toNat≤200))) st):WP (zee [.int m,.int d] st) Q:=by
 refine wp_fn rfl ?_
 simp only[W,V]
 refine ⟨small _ (by simp),few_ix ?_⟩
 simp only[W,V]
 refine ⟨trivial,?_⟩
 by_cases c:d≤if m < 4 then 24 else 10
 ·simp only[c,decide_true,if_true,Bool.true_and] at q ⊢
  have big:(1000:Int) < 10 ^ 40:=by decide
  refine zgu h1 h2 h0 (by (first|assumption|lia)) ?_
  simp only[W,V]
  exact ⟨trivial,q⟩
 ·simp only[c,decide_false,Bool.false_and,if_false] at q ⊢
  exact q
theorem zwz {S v1 v2 v3 v4 v5 v6:Option D} {m:Int} {l:List Row} {I:DS→Store→Prop} {Q:Fl→Store→Prop} (h1:1≤m) (h2:m≤10) (h:Alike m l)
  (k:∀w5 s,I [S,v1,v2,v3,v4,w5,v6,some (.int m),some (sumD l)] s):WP (zns [S,v1,v2,v3,v4,v5,v6,some (.int m),some (sumD l)] st) (loopK I Q):=by
 obtain ⟨few,rows,d,d0,d1,ds,dp⟩:=h
 unfold zns
 cases l with
 | nil =>
  simp only[W,V]
  refine ⟨trivial,?_⟩
  rw[if_neg (by simp)]
  simp only[L]
  exact k _ _
 | cons r0 l =>
  have e0:oIx (sumD (r0::l)) (.int 0) st=.ok (rowD r0) st:=oIx_of rfl (zkr (j:=0) rfl)
  have er:r0.sum=d:=ds r0 List.mem_cons_self
  simp only[W,V]
  refine ⟨trivial,?_⟩
  rw[if_pos (by simp;try (first|assumption|lia))]
  refine WP.of e0 ?_
  simp only[W,V,M]
  refine ⟨r0,zbz r0,?_⟩
  rw[er]
  refine zbcu h1 h2 d0 (by (first|assumption|lia)) ?_
  simp only[Dd.N]
  by_cases c:d≤if m < 4 then 24 else 10
  ·by_cases c2:cntP d (m - 1).toNat≤200
   ·simp only[c,c2,decide_true,Bool.and_self,if_true]
    have c':d≤if m≤3 then 24 else 10:=by split at c<;>split<;>(first|assumption|lia)
    refine zsh h1 h2 d0 c' c2 few (by simp) ds rows fun g=>?_
    try simp only[W,V]
    have ei : bIsinst [.bl (evenB d (r0 :: l)), .ty "bool"] (st ++ g) = .ok (.bl true) (st ++ g) := rfl
    refine WP.of ei ?_
    simp only[Dd.N,W,V,Bool.not_true]
    have e1:oIx (sumD (r0::l)) (.int 0) (st++g)=.ok (rowD r0) (st++g):=oIx_of rfl (zkr (j:=0) rfl)
    refine WP.of e1 ?_
    try simp only[W,V,M]
    refine ⟨r0,zbz r0,?_⟩
    rw[er]
    refine zpw h1 h2 d0 c' dp few ds rows fun g2=>?_
    have eqB:∀(a:Bool) (s:Store),oEqG true (.bl a) (.bl a) s=.ok (.bl false) s:=fun a s=>by cases a<;>rfl
    refine WP.of (eqB _ _) ?_
    simp only[W,V,L]
    exact k _ _
   ·simp only[c,c2,decide_true,decide_false,Bool.and_false,if_false]
    simp only[W,V,L]
    exact k _ _
  ·simp only[c,decide_false,Bool.false_and,if_false]
   simp only[W,V,L]
   exact k _ _
theorem zom {S v1 v2 v5 v6 v7 v8:Option D} {m d:Int} {I:DS→Store→Prop} {Q:Fl→Store→Prop} (h1:1≤m) (h2:m≤10) (h0:0≤d) (hd:d < 10 ^ 40)
  (k:∀w5,I [S,v1,v2,some (.int m),some (.int d),w5,v6,v7,v8] st):WP (znt [S,v1,v2,some (.int m),some (.int d),v5,v6,v7,v8] st) (loopK I Q):=by
 unfold znt
 simp only[W,V]
 refine wp_fn rfl ?_
 simp only[W,V]
 refine zgu h1 h2 h0 hd ?_
 try simp only[W,V]
 refine WP.of (ziv (st:=st) (i:=cntP d (m - 1).toNat)) ?_
 simp only[Dd.N,W,V,Bool.not_true]
 refine zgu h1 h2 h0 hd ?_
 simp only[W,V,L,decide_true,Bool.not_true]
 exact k _
theorem zvf (ns:List Int) (hl:ns.length≤63):∃st',F_k55 [.scr (ns.map .int)] []=.ok (.bl true) st':=by
 have key:WP (F_k55 [.scr (ns.map .int)] []) (fun v _=>v=.bl true):=by
  refine wp_fn rfl ?_
  simp only[W,V]
  have hle:((ns.map D.int).length:Int)≤63:=by rw[List.length_map];(first|assumption|lia)
  have hge:(0:Int)≤((ns.map D.int).length:Int):=by (first|assumption|lia)
  generalize ((ns.map D.int).length:Int)=len at hle hge
  refine ⟨_,rfl,rngN (by split<;>(first|assumption|lia)) (by split<;>(first|assumption|lia)),?_⟩
  refine wp_for (fun i σ s=>∃v1 v2 v3 v4 v5 v6 v7 v8:Option D,σ=[some (.scr (ns.map .int)),v1,v2,v3,v4,v5,v6,v7,v8]) ⟨_,_,_,_,_,_,_,_,rfl⟩ ?_ ?_
  ·rintro i x σ s0 hx ⟨v1,v2,v3,v4,v5,v6,v7,v8,rfl⟩
   obtain ⟨hi,rfl⟩:=zfg hx
   have hi2:i≤100:=by split at hi<;>(first|assumption|lia)
   refine ⟨_,rfl,?_⟩
   unfold ztk
   refine zeq (R:=fun fl s=>fl=.nx [some (.scr (ns.map .int)),some (.int i),some (.ref s0.length),v3,v4,v5,v6,v7,v8]∧BagAt s s0.length) ?_ ?_
   ·simp only[W,V]
    rw[Int.zero_add]
    exact bag_wp hl (by (first|assumption|lia)) fun g hb=>⟨rfl,hb⟩
   rintro fl s ⟨rfl,hb⟩
   show WP _ _
   refine zeq (R:=fun fl s=>∃w3 w4 w5,fl=.nx [some (.scr (ns.map .int)),some (.int i),some (.ref s0.length),w3,w4,w5,v6,v7,v8]∧BagAt s s0.length) ?_ ?_
   ·simp only[W,V]
    refine zcx hb (by (first|assumption|lia)) (by (first|assumption|lia)) fun N1 s1 n1 n2 d1=>?_
    try simp only[W,V]
    refine zcx d1.bag (by (first|assumption|lia)) (by (first|assumption|lia)) fun D1 s2 n3 n4 d2=>?_
    try simp only[W,V]
    refine ⟨small _ (by simp),?_⟩
    refine zcx d2.bag (by (first|assumption|lia)) (by (first|assumption|lia)) fun N2 s3 n5 n6 d3=>?_
    try simp only[W,V]
    refine ⟨⟨by decide,by decide,by decide⟩,?_⟩
    refine zxy d3.bag (by decide) (by decide +kernel) fun D2 s4 n7 n8 d4=>?_
    try simp only[W,V]
    refine ⟨small _ (by simp),small _ (by simp),_,rfl,?_⟩
    refine wp_for (fun j σ s=>(∃w3 w4 w5,σ=[some (.scr (ns.map .int)),some (.int i),some (.ref s0.length),w3,w4,w5,v6,v7,v8])∧s=s4) ⟨⟨_,_,_,rfl⟩,rfl⟩ ?_ ?_
    ·rintro j y σ s hy ⟨⟨w3,w4,w5,rfl⟩,rfl⟩
     have hy:=List.mem_of_getElem? hy
     simp only[List.mem_cons,List.not_mem_nil,or_false] at hy
     have big:(30:Int) < 10 ^ 40:=by decide
     rcases hy with rfl | rfl
     ·exact ⟨_,rfl,zom (by (first|assumption|lia)) (by (first|assumption|lia)) n3 (by (first|assumption|lia)) fun _=>⟨⟨_,_,_,rfl⟩,rfl⟩⟩
     ·exact ⟨_,rfl,zom (by (first|assumption|lia)) (by (first|assumption|lia)) n7 n8 fun _=>⟨⟨_,_,_,rfl⟩,rfl⟩⟩
    ·rintro σ s ⟨⟨w3,w4,w5,rfl⟩,rfl⟩
     exact ⟨_,_,_,rfl,d4.bag⟩
   rintro fl s ⟨w3,w4,w5,rfl,hb⟩
   show WP _ _
   refine zeq (R:=fun fl s=>∃N:Int,1≤N∧N≤10∧fl=.nx [some (.scr (ns.map .int)),some (.int i),some (.ref s0.length),some (.int N),w4,w5,v6,v7,v8]∧BagAt s s0.length) ?_ ?_
   ·simp only[W,V]
    exact zrz hb fun N s1 n1 n2 d1=>⟨N,n1,n2,rfl,d1.bag⟩
   rintro fl s ⟨N,hN1,hN2,rfl,hb⟩
   show WP _ _
   obtain ⟨m1,m2,m3⟩:=zlo hN1 hN2
   have m4:mostD N≤24:=by split at m2<;>(first|assumption|lia)
   have mn:1≤(if 3 < N then 3 else N)∧(if 3 < N then 3 else N)≤3:=by split<;>(first|assumption|lia)
   refine zeq (R:=fun fl s=>∃(M:Int) (l1 l2:List Row),1≤M∧M≤10∧Alike N l1∧Alike M l2∧fl=.nx [some (.scr (ns.map .int)),some (.int i),some (.ref s0.length),some (.int N),w4,w5,some (.lst [.tup [.int N,sumD l1],.tup [.int M,sumD l2]]),v7,v8]) ?_ ?_
   ·simp only[W,V]
    refine zvr hb hN1 hN2 fun d s1 e1 e2 d1=>?_
    try simp only[W,V]
    refine ztu d1.bag hN1 (by (first|assumption|lia)) e1 (by (first|assumption|lia)) (by (first|assumption|lia)) (by (first|assumption|lia)) fun l1 s2 a1 a2 a3 a4 d2=>?_
    try simp only[W,V]
    refine ⟨small _ (by simp),?_⟩
    have A1:Alike N l1:=⟨by (first|assumption|lia),a2,d,e1,by (first|assumption|lia),a4,Nat.le_trans (Nat.pow_le_pow_left (by (first|assumption|lia)) _) m3⟩
    refine zbcr d2.bag mn.1 mn.2 fun l2 s3 b1 d3=>?_
    try simp only[W,V]
    exact ⟨small _ (by simp),small _ (by simp),_,l1,l2,mn.1,by (first|assumption|lia),A1,b1,rfl⟩
   rintro fl s ⟨M,l1,l2,hM1,hM2,A1,A2,rfl⟩
   show WP _ _
   simp only[W,V]
   refine ⟨by simp,?_⟩
   refine zpx fun g=>?_
   refine WP.of (show oIsB true (.bl true) (.bl true) (s++g)=.ok (.bl false) (s++g) from rfl) ?_
   simp only[W,V,Dd.N]
   refine wp_for (fun j σ s=>∃v1 v2 v3 v4 v5 v6 v7 v8:Option D,σ=[some (.scr (ns.map .int)),v1,v2,v3,v4,v5,v6,v7,v8]) ⟨_,_,_,_,_,_,_,_,rfl⟩ ?_ ?_
   ·rintro j y σ s hy ⟨u1,u2,u3,u4,u5,u6,u7,u8,rfl⟩
    have hy:=List.mem_of_getElem? hy
    simp only[List.mem_cons,List.not_mem_nil,or_false] at hy
    rcases hy with rfl | rfl
    ·exact ⟨_,rfl,zwz hN1 hN2 A1 fun _ _=>⟨_,_,_,_,_,_,_,_,rfl⟩⟩
    ·exact ⟨_,rfl,zwz hM1 hM2 A2 fun _ _=>⟨_,_,_,_,_,_,_,_,rfl⟩⟩
   ·rintro σ s ⟨u1,u2,u3,u4,u5,u6,u7,u8,rfl⟩
    simp only[L]
    exact ⟨_,_,_,_,_,_,_,_,rfl⟩
  ·rintro σ s ⟨v1,v2,v3,v4,v5,v6,v7,v8,rfl⟩
   simp only[W,V]
 obtain ⟨a,st',e,rfl⟩:=key.get
 exact ⟨st',e⟩
end
end Dd
namespace K55
theorem holds:∀ns:List Int,ns.length≤63→∃st',Dd.F_k55 [.scr (ns.map .int)] []=.ok (.bl true) st':=fun ns hl=>Dd.zvf ns hl
end K55
set_option maxHeartbeats 4000000
namespace K55
open PySem L2 Dd
noncomputable def top (i:Nat):Stmt:=PySem.Challenge.pw_raisedsums_k55_rows_met_evenly.main.body.getD i (.Pass ⟨0,0,0,0⟩)
noncomputable abbrev zhj:Stmt:=top 27
noncomputable abbrev zfw:Stmt:=top 28
noncomputable abbrev zdf:Stmt:=top 31
noncomputable abbrev zbl:Stmt:=top 19
noncomputable abbrev zbt:Stmt:=top 22
noncomputable abbrev zji:Stmt:=top 17
noncomputable abbrev zdp:Stmt:=top 18
noncomputable abbrev zcv:Stmt:=top 20
noncomputable abbrev zjj:Stmt:=top 23
noncomputable abbrev zev:Stmt:=top 24
noncomputable abbrev zhg:Stmt:=top 9
noncomputable abbrev zch:Stmt:=top 11
noncomputable abbrev zcb:Stmt:=top 12
noncomputable abbrev zhh:Stmt:=top 6
noncomputable abbrev s_flip:Stmt:=top 7
noncomputable abbrev zjg:Stmt:=top 13
noncomputable abbrev zjh:Stmt:=top 25
noncomputable abbrev zhi:Stmt:=top 29
noncomputable abbrev zci:Stmt:=top 33
noncomputable abbrev zdq:Stmt:=top 34
noncomputable abbrev zfy:Stmt:=top 41
noncomputable abbrev zfx:Stmt:=top 37
noncomputable abbrev zfz:Stmt:=top 38
noncomputable abbrev zds:Stmt:=top 30
noncomputable abbrev zdt:Stmt:=top 32
noncomputable abbrev zhk:Stmt:=top 36
noncomputable abbrev zew:Stmt:=top 39
noncomputable abbrev zdr:Stmt:=top 35
noncomputable abbrev zga:Stmt:=top 40
noncomputable abbrev s_law:Stmt:=top 42
section
variable {P:Program} {w:World} {K:PySem.W.Frag} {mg:Str→Option Value} {base h:Heap}
theorem zik : FnScope ["_law_script", "_law_at", "_law_cell", "_law_mix", "_law_k"] ["_law_script", "_law_at"] (defScope zhj) := ⟨rfl, rfl, rfl, by decide +kernel, rfl, by decide +kernel, by decide +kernel⟩
theorem zpq (T : TopF K "_law_bag" zhj) (XX : K.In h) (G : h.Ns mainGlobals mg) (z_len : mg "len" = none) (z_abs : mg "abs" = none) (z_min : mg "min" = none) (z_range : mg "range" = none) : CalD P w K mg base "_law_bag" 1 ["_law_script", "_law_at"] zeo :=
 have nd:=zik.nd
 zp (k:=0) T XX G zik (fun _ _ _ _ _ _ us hl=>len2 us hl fun _ _=>rfl) fun f cdv A outer s H E hr=>(zd (zn (i:=2) nd rfl (Or.inl rfl) d_intJ)
 (zd (ds_ifJ (zbx (op_ltA hr.units0) oLtT_D (d_varJ (pv 1)) (zq zbv bLen_D rfl z_len bt_len (za (d_varJ (pv 0)) zb)) (nomark _)) (zf (zn (i:=2) nd rfl (Or.inl rfl) (zq zbag bAbs_D rfl z_abs bt_abs (za (d_ixJ (d_varJ (pv 0)) (d_varJ (pv 1)) (fun _ _=>rfl)) zb)))) zcp)
 (zd (zn (i:=3) nd rfl (Or.inl rfl) (d_opJ zba oAdd_D (d_opJ op_mul (oI_D fun _ _ _ _=>.int _) d_intJ (d_varJ (pv 1))) d_intJ))
 (zd (zbm PassesOwn.never rfl (zbi rfl z_range (za (zq (zen rfl) b2I_D rfl z_min bt_min (za (zq zbv bLen_D rfl z_len bt_len (za (d_varJ (pv 0)) zb)) (za d_intJ zb))) zb)) (zg (i:=4) nd rfl (Or.inl rfl))
 (zf (zn (i:=3) nd rfl (Or.inl rfl) (d_opJ op_mod (oI_D fun _ _ _ _=>.int _) (d_opJ zba oAdd_D (d_opJ zba oAdd_D (d_opJ op_mul (oI_D fun _ _ _ _=>.int _) (d_varJ (pv 3)) d_intJ) (d_opJ op_mod (oI_D fun _ _ _ _=>.int _) (d_ixJ (d_varJ (pv 0)) (d_varJ (pv 4)) (fun _ _=>rfl)) d_intJ)) (d_varJ (pv 4))) d_intJ))))
 (zd (ds_ifJ (zbx (op_ltA hr.units0) oLtT_D (d_varJ (pv 2)) (d_opJ op_pow (oI_D fun _ _ _ _=>.int _) d_intJ d_intJ) (nomark _)) (zf (zn (i:=2) nd rfl (Or.inl rfl) d_intJ)) zcp)
 (zf (zr (zix (za (d_varJ (pv 2)) (za (d_varJ (pv 3)) zb))))))))))
theorem zhb : FnScope ["_law_bag_here", "_law_many_here", "_law_digit", "_law_number_here", "_law_room"] ["_law_bag_here", "_law_many_here"] (defScope zfw) := ⟨rfl, rfl, rfl, by decide +kernel, rfl, by decide +kernel, by decide +kernel⟩
theorem zmx (T : TopF K "_law_take" zfw) (XX : K.In h) (G : h.Ns mainGlobals mg)  : CalD P w K mg base "_law_take" 1 ["_law_bag_here", "_law_many_here"] zi :=
 have nd:=zhb.nd
 zp (k:=0) T XX G zhb (fun _ _ _ _ _ _ us hl=>len2 us hl fun _ _=>rfl) fun f cdv A outer s H E hr=>(zd (ds_ifJ (zbx op_gt (oI_D0 fun _ _ _ _=>.bl _) (d_ixJ (d_varJ (pv 0)) d_intJ (fun _ _=>rfl)) d_intJ (nomark _)) (zd (zn (i:=2) nd rfl (Or.inl rfl) (d_opJ op_mod (oI_D fun _ _ _ _=>.int _) (d_ixJ (d_varJ (pv 0)) d_intJ (fun _ _=>rfl)) (d_varJ (pv 1))))
 (zd (zov (d_opJ zdu (oI_D fun _ _ _ _=>.int _) (d_ixJ (d_varJ (pv 0)) d_intJ (fun _ _=>rfl)) (d_varJ (pv 1))) (d_varJ (pv 0)) d_intJ)
 (zf (zr (d_varJ (pv 2)))))) zcp)
 (zd (zn (i:=3) nd rfl (Or.inl rfl) d_intJ)
 (zd (zn (i:=4) nd rfl (Or.inl rfl) d_intJ)
 (zd (zvo PassesOwn.never (zbx (op_ltA hr.units0) oLtT_D (d_varJ (pv 4)) (d_varJ (pv 1)) (nomark _)) (zd (zov (d_opJ op_mod (oI_D fun _ _ _ _=>.int _) (d_opJ zba oAdd_D (d_opJ op_mul (oI_D fun _ _ _ _=>.int _) (d_ixJ (d_varJ (pv 0)) d_intJ (fun _ _=>rfl)) d_intJ) d_intJ) d_intJ) (d_varJ (pv 0)) d_intJ)
 (zd (zn (i:=3) nd rfl (Or.inl rfl) (d_opJ zba oAdd_D (d_opJ op_mul (oI_D fun _ _ _ _=>.int _) (d_varJ (pv 3)) d_intJ) (d_opJ op_mod (oI_D fun _ _ _ _=>.int _) (d_opJ op_mul (oI_D fun _ _ _ _=>.int _) (d_opJ zdu (oI_D fun _ _ _ _=>.int _) (d_ixJ (d_varJ (pv 0)) d_intJ (fun _ _=>rfl)) d_intJ) d_intJ) d_intJ)))
 (zf (zn (i:=4) nd rfl (Or.inl rfl) (d_opJ op_mul (oI_D fun _ _ _ _=>.int _) (d_varJ (pv 4)) d_intJ))))))
 (zf (zr (d_opJ op_mod (oI_D fun _ _ _ _=>.int _) (d_varJ (pv 3)) (d_varJ (pv 1)))))))))
theorem zer : FnScope ["_law_bag_here"] ["_law_bag_here"] (defScope zdf) := ⟨rfl, rfl, rfl, by decide +kernel, rfl, by decide +kernel, by decide +kernel⟩
theorem zic (T : TopF K "_law_letters" zdf) (XX : K.In h) (G : h.Ns mainGlobals mg) (c__law_take : CalD P w K mg base "_law_take" 1 ["_law_bag_here", "_law_many_here"] zi) : CalD P w K mg base "_law_letters" 2 ["_law_bag_here"] zca :=
 have nd:=zer.nd
 zp (k:=1) T XX G zer (fun _ _ _ _ _ _ us hl=>len1 us hl fun _=>rfl) fun f cdv A outer s H E hr=>(zf (zr (d_ixJ (d_lstJ (za d_intJ (za d_intJ (za d_intJ (za d_intJ (za d_intJ (za d_intJ (za d_intJ (za d_intJ (za d_intJ (za d_intJ (za (d_opJ zba oAdd_D d_intJ (zl c__law_take (fun _ _ _ _ h=>zk h) (hr.mono (by decide)) rfl (za (d_varJ (pv 0)) (za d_intJ zb)))) zb)))))))))))) (zl c__law_take (fun _ _ _ _ h=>zk h) (hr.mono (by decide)) rfl (za (d_varJ (pv 0)) (za d_intJ zb))) (fun _ _=>rfl))))
theorem zcc : FnScope ["n", "d", "told", "i"] ["n", "d"] (defScope zbl) := ⟨rfl, rfl, rfl, by decide +kernel, rfl, by decide +kernel, by decide +kernel⟩
theorem zep (T : TopF K "number_of_products" zbl) (XX : K.In h) (G : h.Ns mainGlobals mg) (z_range : mg "range" = none) : CalD P w K mg base "number_of_products" 1 ["n", "d"] ze :=
 have nd:=zcc.nd
 zp (k:=0) T XX G zcc (fun _ _ _ _ _ _ us hl=>len2 us hl fun _ _=>rfl) fun f cdv A outer s H E hr=>(zd (zn (i:=2) nd rfl (Or.inl rfl) d_intJ)
 (zd (zbm PassesOwn.never rfl (zfp rfl z_range (za d_intJ (za (d_varJ (pv 0)) zb))) (zg (i:=3) nd rfl (Or.inl rfl))
 (zf (zn (i:=2) nd rfl (Or.inl rfl) (d_opJ zdu (oI_D fun _ _ _ _=>.int _) (d_opJ zwr (oI_D fun _ _ _ _=>.int _) (d_varJ (pv 2)) (d_opJ zba oAdd_D (d_varJ (pv 1)) (d_varJ (pv 3)))) (d_varJ (pv 3))))))
 (zf (zr (d_varJ (pv 2))))))
theorem zco : FnScope ["n", "d"] ["n", "d"] (defScope zbt) := ⟨rfl, rfl, rfl, by decide +kernel, rfl, by decide +kernel, by decide +kernel⟩
theorem zfh (T : TopF K "products_counted" zbt) (XX : K.In h) (G : h.Ns mainGlobals mg) (c_number_of_products : CalD P w K mg base "number_of_products" 1 ["n", "d"] ze) : CalD P w K mg base "products_counted" 2 ["n", "d"] zbh :=
 have nd:=zco.nd
 zp (k:=1) T XX G zco (fun _ _ _ _ _ _ us hl=>len2 us hl fun _ _=>rfl) fun f cdv A outer s H E hr=>(zf (zr (zl c_number_of_products (fun _ _ _ _ h=>zk h) (hr.mono (by decide)) rfl (za (d_varJ (pv 0)) (za (d_varJ (pv 1)) zb)))))
theorem zld : FnScope ["some"] ["some"] (defScope zji) := ⟨rfl, rfl, rfl, by decide +kernel, rfl, by decide +kernel, by decide +kernel⟩
theorem zrh (T : TopF K "degrees" zji) (XX : K.In h) (G : h.Ns mainGlobals mg) (z_sum : mg "sum" = none) (z_sorted : mg "sorted" = none) (z_set : mg "set" = none) : CalD P w K mg base "degrees" 1 ["some"] zft :=
 have nd:=zld.nd
 zp (k := 0) T XX G zld (fun _ _ _ _ _ _ us hl => len1 us hl fun _ => rfl) fun f cdv A outer s H E hr => (zf (zr (d_ssJ rfl zqb rfl z_sorted zkp rfl z_set bt_set (za (zdb rfl (zbp (d_varJ (pv 0))) (fun _ _ _ _ _ => (zg (i := 0) (show (["product"] : List Str).Nodup from by decide +kernel) rfl (Or.inl rfl))) (fun _ _ _ _ _ => zdi) (fun _ _ _ _ _ => (zq (zgx rfl) bSum_D rfl z_sum bt_sum (za (d_varJ (pv 0)) zb))) (N := ["product"]) (k := 1) (is := []) (zcq (by rfl))) zb))))
theorem zfb : FnScope ["n"] ["n"] (defScope zdp) := ⟨rfl, rfl, rfl, by decide +kernel, rfl, by decide +kernel, by decide +kernel⟩
theorem zjm (T : TopF K "most_degree" zdp) (XX : K.In h) (G : h.Ns mainGlobals mg) {k_FEW_LETTERS : Tok} (m_FEW_LETTERS : mg "FEW_LETTERS" = some (.int 3 k_FEW_LETTERS)) : CalD P w K mg base "most_degree" 1 ["n"] zct :=
 have nd:=zfb.nd
 zp (k:=0) T XX G zfb (fun _ _ _ _ _ _ us hl=>len1 us hl fun _=>rfl) fun f cdv A outer s H E hr=>(zf (zr (d_ifJ (zbx op_le (oI_D0 fun _ _ _ _=>.bl _) (d_varJ (pv 0)) (d_conJ (zwo (v:=.int 3) rfl m_FEW_LETTERS ⟨_,rfl⟩) (fun _ _=>.int _)) (nomark _)) d_intJ d_intJ)))
theorem zdo : FnScope ["n", "d"] ["n", "d"] (defScope zcv) := ⟨rfl, rfl, rfl, by decide +kernel, rfl, by decide +kernel, by decide +kernel⟩
theorem zhm (T : TopF K "can_be_judged" zcv) (XX : K.In h) (G : h.Ns mainGlobals mg) {k_MOST_JUDGED : Tok} (m_MOST_JUDGED : mg "MOST_JUDGED" = some (.int 200 k_MOST_JUDGED)) (c_number_of_products : CalD P w K mg base "number_of_products" 1 ["n", "d"] ze) (c_most_degree : CalD P w K mg base "most_degree" 1 ["n"] zct) : CalD P w K mg base "can_be_judged" 2 ["n", "d"] zbk :=
 have nd:=zdo.nd
 zp (k:=1) T XX G zdo (fun _ _ _ _ _ _ us hl=>len2 us hl fun _ _=>rfl) fun f cdv A outer s H E hr=>(zf (zr (d_andJ (d_cmpJ op_le (oI_D0 fun _ _ _ _=>.bl _) (d_varJ (pv 1)) (zl c_most_degree (fun _ _ _ _ h=>zk h) (hr.mono (by decide)) rfl (za (d_varJ (pv 0)) zb)) (nomark _)) (d_oneJ (d_cmpJ op_le (oI_D0 fun _ _ _ _=>.bl _) (zl c_number_of_products (fun _ _ _ _ h=>zk h) (hr.mono (by decide)) rfl (za (d_varJ (pv 0)) (za (d_varJ (pv 1)) zb))) (d_conJ (zwo (v:=.int 200) rfl m_MOST_JUDGED ⟨_,rfl⟩) (fun _ _=>.int _)) (nomark _))))))
theorem zle : FnScope ["n", "d"] ["n", "d"] (defScope zjj) := ⟨rfl, rfl, rfl, by decide +kernel, rfl, by decide +kernel, by decide +kernel⟩
theorem zri (T : TopF K "bounded" zjj) (XX : K.In h) (G : h.Ns mainGlobals mg) (c_can_be_judged : CalD P w K mg base "can_be_judged" 2 ["n", "d"] zbk) : CalD P w K mg base "bounded" 3 ["n", "d"] zfu :=
 have nd:=zle.nd
 zp (k:=2) T XX G zle (fun _ _ _ _ _ _ us hl=>len2 us hl fun _ _=>rfl) fun f cdv A outer s H E hr=>(zd (ds_ifJ (zou (zfo (zl c_can_be_judged (fun _ _ _ _ h=>zk h) (hr.mono (by decide)) rfl (za (d_varJ (pv 0)) (za (d_varJ (pv 1)) zb))))) (zf zkf) zcp)
 (zf (zr (d_varJ (pv 1)))))
theorem zgi : FnScope ["n", "some", "told"] ["n", "some"] (defScope zev) := ⟨rfl, rfl, rfl, by decide +kernel, rfl, by decide +kernel, by decide +kernel⟩
theorem zll (T : TopF K "one_degree" zev) (XX : K.In h) (G : h.Ns mainGlobals mg) (z_len : mg "len" = none) (c_degrees : CalD P w K mg base "degrees" 1 ["some"] zft) (c_bounded : CalD P w K mg base "bounded" 3 ["n", "d"] zfu) : CalD P w K mg base "one_degree" 4 ["n", "some"] zbw :=
 have nd:=zgi.nd
 zp (k:=3) T XX G zgi (fun _ _ _ _ _ _ us hl=>len2 us hl fun _ _=>rfl) fun f cdv A outer s H E hr=>(zd (zn (i:=2) nd rfl (Or.inl rfl) (zl c_degrees (fun _ _ _ _ h=>zk h) (hr.mono (by decide)) rfl (za (d_varJ (pv 1)) zb)))
 (zd (ds_ifJ (zbx op_gt (oI_D0 fun _ _ _ _=>.bl _) (zq zbv bLen_D rfl z_len bt_len (za (d_varJ (pv 2)) zb)) d_intJ (nomark _)) (zf zkf) zcp)
 (zf (zr (d_ifJ (zfo (d_varJ (pv 2))) (zl c_bounded (fun _ _ _ _ h=>zk h) (hr.mono (by decide)) rfl (za (d_varJ (pv 0)) (za (d_ixJ (d_varJ (pv 2)) d_intJ (fun _ _=>rfl)) zb))) d_nonJ)))))
theorem zih : FnScope ["e", "k"] ["e", "k"] (defScope zhg) := ⟨rfl, rfl, rfl, by decide +kernel, rfl, by decide +kernel, by decide +kernel⟩
theorem zpn (T : TopF K "odd_ways" zhg) (XX : K.In h) (G : h.Ns mainGlobals mg)  : CalD P w K mg base "odd_ways" 1 ["e", "k"] zec :=
 have nd:=zih.nd
 zp (k:=0) T XX G zih (fun _ _ _ _ _ _ us hl=>len2 us hl fun _ _=>rfl) fun f cdv A outer s H E hr=>(zf (zr (d_cmpJ (op_eqX hr.units) oEq_D (d_opJ op_and (oI_D0 fun _ _ _ _=>.int _) (d_varJ (pv 0)) (d_varJ (pv 1))) (d_varJ (pv 1)) (nomark _))))
theorem zdl : FnScope ["partly", "e", "rest", "told", "made", "left", "j"] ["partly", "e", "rest"] (defScope zch) := ⟨rfl, rfl, rfl, by decide +kernel, rfl, by decide +kernel, by decide +kernel⟩
theorem zgq (T : TopF K "letter_lowered" zch) (XX : K.In h) (G : h.Ns mainGlobals mg) (z_min : mg "min" = none) (z_max : mg "max" = none) (z_range : mg "range" = none) (c_odd_ways : CalD P w K mg base "odd_ways" 1 ["e", "k"] zec) : CalD P w K mg base "letter_lowered" 2 ["partly", "e", "rest"] zbc :=
 have nd:=zdl.nd
 zp (k:=1) T XX G zdl (fun _ _ _ _ _ _ us hl=>len3 us hl fun _ _ _=>rfl) fun f cdv A outer s H E hr=>(zd (zn (i:=3) nd rfl (Or.inl rfl) (zix zb))
 (zd (zbm PassesOwn.never rfl (zbp (d_varJ (pv 0))) (zgm rfl (zy (zg (i:=4) nd rfl (Or.inl rfl)) (zy (zg (i:=5) nd rfl (Or.inl rfl)) zdz)))
 (zf (zbm PassesOwn.never rfl (zfp rfl z_range (za (zq (zwc rfl) b2I_D rfl z_max bt_max (za d_intJ (za (d_opJ op_sub (oI_D0 fun _ _ _ _=>.int _) (d_varJ (pv 5)) (d_varJ (pv 2))) zb))) (za (d_opJ zba oAdd_D (zq (zen rfl) b2I_D rfl z_min bt_min (za (d_opJ zdu (oI_D fun _ _ _ _=>.int _) (d_varJ (pv 1)) d_intJ) (za (d_varJ (pv 5)) zb))) d_intJ) zb))) (zg (i:=6) nd rfl (Or.inl rfl))
 (zf (ds_ifJ (zfo (zl c_odd_ways (fun _ _ _ _ h=>zk h) (hr.mono (by decide)) rfl (za (d_opJ op_sub (oI_D0 fun _ _ _ _=>.int _) (d_varJ (pv 1)) (d_varJ (pv 6))) (za (d_varJ (pv 6)) zb)))) (zf (zdy (zkl (d_varJ (pv 3)) (za (d_tupJ (za (d_opJ zba oAdd_D (d_varJ (pv 4)) (d_tupJ (za (d_opJ op_sub (oI_D0 fun _ _ _ _=>.int _) (d_varJ (pv 1)) (d_varJ (pv 6))) zb))) (za (d_opJ op_sub (oI_D0 fun _ _ _ _=>.int _) (d_varJ (pv 5)) (d_varJ (pv 6))) zb))) zb)))) zcp)))))
 (zf (zr (d_fzJ (d_varJ (pv 3)))))))
theorem zcy : FnScope ["product", "k", "partly", "rest", "e"] ["product", "k"] (defScope zcb) := ⟨rfl, rfl, rfl, by decide +kernel, rfl, by decide +kernel, by decide +kernel⟩
theorem zge (T : TopF K "product_lowered" zcb) (XX : K.In h) (G : h.Ns mainGlobals mg) (z_sum : mg "sum" = none) (c_letter_lowered : CalD P w K mg base "letter_lowered" 2 ["partly", "e", "rest"] zbc) : CalD P w K mg base "product_lowered" 3 ["product", "k"] zbb :=
  have nd := zcy.nd
  zp (k := 2) T XX G zcy (fun _ _ _ _ _ _ us hl => len2 us hl fun _ _ => rfl) fun f cdv A outer s H E hr => (zd (zn (i := 2) nd rfl (Or.inl rfl) (d_lstJ (za (d_tupJ (za (d_tupJ zb) (za (d_varJ (pv 1)) zb))) zb)))
  (zd (zn (i := 3) nd rfl (Or.inl rfl) (zq (zgx rfl) bSum_D rfl z_sum bt_sum (za (zdb rfl (zbp (d_varJ (pv 0))) (fun _ _ _ _ _ => (zg (i := 0) (show (["e"] : List Str).Nodup from by decide +kernel) rfl (Or.inl rfl))) (fun _ _ _ _ _ => zdi) (fun _ _ _ _ _ => (d_opJ zdu (oI_D fun _ _ _ _ => .int _) (d_varJ (pv 0)) d_intJ)) (N := ["e"]) (k := 1) (is := []) (zcq (by rfl))) zb)))
  (zd (zbm PassesOwn.never rfl (zbp (d_varJ (pv 0))) (zg (i := 4) nd rfl (Or.inl rfl))
  (zd (zbdc (i := 3) nd rfl (Or.inl rfl) (d_opJ zdu (oI_D fun _ _ _ _ => .int _) (d_varJ (pv 4)) d_intJ) ip_sub ip_D)
  (zf (zn (i := 2) nd rfl (Or.inl rfl) (zl c_letter_lowered (fun _ _ _ _ h => zk h) (hr.mono (by decide)) rfl (za (d_varJ (pv 2)) (za (d_varJ (pv 4)) (za (d_varJ (pv 3)) zb))))))))
  (zf (zr (zdb rfl (zbp (d_varJ (pv 2))) (fun _ _ _ _ _ => (zgm rfl (zy (zg (i := 0) (show (["made", "left"] : List Str).Nodup from by decide +kernel) rfl (Or.inl rfl)) (zy (zg (i := 1) (show (["made", "left"] : List Str).Nodup from by decide +kernel) rfl (Or.inl rfl)) zdz)))) (fun _ _ _ _ _ => zdi) (fun _ _ _ _ _ => (d_varJ (pv 0))) (N := ["made", "left"]) (k := 2) (is := []) (zcq (by rfl))))))))
theorem zii : FnScope ["thing"] ["thing"] (defScope zhh) := ⟨rfl, rfl, rfl, by decide +kernel, rfl, by decide +kernel, by decide +kernel⟩
theorem zpo (T : TopF K "is_whole" zhh) (XX : K.In h) (G : h.Ns mainGlobals mg) (z_bool : mg "bool" = none) (z_isinstance : mg "isinstance" = none) (z_int : mg "int" = none) : CalD P w K mg base "is_whole" 1 ["thing"] zbr :=
 have nd:=zii.nd
 zp (k := 0) T XX G zii (fun _ _ _ _ _ _ us hl => len1 us hl fun _ => rfl) fun f cdv A outer s H E hr => (zf (zr (d_andJ (zq zdc zfq rfl z_isinstance zby (za (d_varJ (pv 0)) (za (d_conJ (zli (v := .ty "int") rfl z_int bt_int rfl) (fun _ _ => .ty _)) zb))) (d_oneJ (d_notJ (zq zdc zfq rfl z_isinstance zby (za (d_varJ (pv 0)) (za (d_conJ (zli (v := .ty "bool") rfl z_bool zsy rfl) (fun _ _ => .ty _)) zb))))))))
theorem zwk : FnScope ["kept", "thing"] ["kept", "thing"] (defScope s_flip) := ⟨rfl, rfl, rfl, by decide +kernel, rfl, by decide +kernel, by decide +kernel⟩
theorem zbca (T : TopF K "flip" s_flip) (XX : K.In h) (G : h.Ns mainGlobals mg)  : CalD P w K mg base "flip" 1 ["kept", "thing"] F_flip :=
 have nd:=zwk.nd
 zp (k:=0) T XX G zwk (fun _ _ _ _ _ _ us hl=>len2 us hl fun _ _=>rfl) fun f cdv A outer s H E hr=>(zf (ds_ifJ (dt_inJ (pc_inJ (hu_of hr) (d_varJ (pv 1)) (d_varJ (pv 0)))) (zf (zdy (zbdl (hu_of hr) (d_varJ (pv 0)) (d_varJ (pv 1)) ⟨rfl,rfl,rfl,rfl⟩))) (zf (zsm (hu_of hr) (d_varJ (pv 0)) (d_varJ (pv 1)) d_blJ rfl))))
theorem zlb : FnScope ["row", "k", "kept", "product", "made"] ["row", "k"] (defScope zjg) := ⟨rfl, rfl, rfl, by decide +kernel, rfl, by decide +kernel, by decide +kernel⟩
theorem zrf (T : TopF K "lowered" zjg) (XX : K.In h) (G : h.Ns mainGlobals mg) (z_sorted : mg "sorted" = none) (z_tuple : mg "tuple" = none) (c_is_whole : CalD P w K mg base "is_whole" 1 ["thing"] zbr) (c_product_lowered : CalD P w K mg base "product_lowered" 3 ["product", "k"] zbb) (c_flip : CalD P w K mg base "flip" 1 ["kept", "thing"] F_flip) : CalD P w K mg base "lowered" 4 ["row", "k"] zfr :=
 have nd:=zlb.nd
 zp (k:=3) T XX G zlb (fun _ _ _ _ _ _ us hl=>len2 us hl fun _ _=>rfl) fun f cdv A outer s H E hr=>(zd (ds_ifJ (JW.pt (dw_orJ (zou (zfo (zl c_is_whole (fun _ _ _ _ h=>zk h) (hr.mono (by decide)) rfl (za (d_varJ (pv 1)) zb)))) (zot (zbx (op_ltA hr.units0) oLtT_D (d_varJ (pv 1)) d_intJ (nomark _)) (by first | exact Or.inl rfl | exact Or.inr rfl)))) (zf zkf) zcp)
 (zd (zn (i:=2) nd rfl (Or.inl rfl) zxl)
 (zd (zbm PassesOwn.never rfl (zbp (d_varJ (pv 0))) (zg (i:=3) nd rfl (Or.inl rfl))
 (zf (zbm PassesOwn.never rfl (zbp (zl c_product_lowered (fun _ _ _ _ h=>zk h) (hr.mono (by decide)) rfl (za (d_varJ (pv 3)) (za (d_varJ (pv 1)) zb)))) (zg (i:=4) nd rfl (Or.inl rfl))
 (zf (zdy (zl c_flip (fun _ _ _ _ h=>zk h) (hr.mono (by decide)) rfl (za (d_varJ (pv 2)) (za (d_varJ (pv 4)) zb))))))))
 (zf (zr (zdj zcr zkq rfl z_tuple zko (za (zq (zhy rfl hr.units) zpf rfl z_sorted zkp (za (d_varJ (pv 2)) zb)) zb)))))))
theorem zlc : FnScope ["n", "row", "d"] ["n", "row"] (defScope zjh) := ⟨rfl, rfl, rfl, by decide +kernel, rfl, by decide +kernel, by decide +kernel⟩
theorem zrg (T : TopF K "is_even" zjh) (XX : K.In h) (G : h.Ns mainGlobals mg) (z_range : mg "range" = none) (z_all : mg "all" = none) (c_one_degree : CalD P w K mg base "one_degree" 4 ["n", "some"] zbw) (c_lowered : CalD P w K mg base "lowered" 4 ["row", "k"] zfr) : CalD P w K mg base "is_even" 5 ["n", "row"] zdk :=
 have nd:=zlc.nd
 zp (k:=4) T XX G zlc (fun _ _ _ _ _ _ us hl=>len2 us hl fun _ _=>rfl) fun f cdv A outer s H E hr=>(zd (zn (i:=2) nd rfl (Or.inl rfl) (zl c_one_degree (fun _ _ _ _ h=>zk h) (hr.mono (by decide)) rfl (za (d_varJ (pv 0)) (za (d_varJ (pv 1)) zb))))
 (zd (ds_ifJ (zbx op_isN oIsN_D (d_varJ (pv 2)) d_nonJ (nomark _)) (zf (zr d_blJ)) zcp)
 (zf (zr (zq (zbaf rfl) bAny_D rfl z_all bt_all (za (zdb rfl (zfp rfl z_range (za d_intJ (za (d_opJ zba oAdd_D (d_opJ zdu (oI_D fun _ _ _ _ => .int _) (d_varJ (pv 2)) d_intJ) d_intJ) zb))) (fun _ _ _ _ _ => (zg (i := 0) (show (["k", "row"] : List Str).Nodup from by decide +kernel) rfl (Or.inl rfl))) (fun _ _ _ _ _ => zdi) (fun _ _ _ _ _ => (d_cmpJ (op_eqX hr.units) oEq_D (zl c_lowered (fun _ _ _ _ h => zk h) (hr.mono (by decide)) rfl (za (d_varJ (pv 1)) (za (d_varJ (pv 0)) zb))) (d_tupJ zb) (nomark _))) (N := ["k", "row"]) (k := 1) (is := [1]) (zcq (by rfl))) zb))))))
theorem zij : FnScope ["_law_things", "_law_odd_here", "_law_thing"] ["_law_things"] (defScope zhi) := ⟨rfl, rfl, rfl, by decide +kernel, rfl, by decide +kernel, by decide +kernel⟩
theorem zpp (T : TopF K "_law_odd" zhi) (XX : K.In h) (G : h.Ns mainGlobals mg) (z_sorted : mg "sorted" = none) (z_tuple : mg "tuple" = none) : CalD P w K mg base "_law_odd" 1 ["_law_things"] zbd :=
 have nd:=zij.nd
 zp (k:=0) T XX G zij (fun _ _ _ _ _ _ us hl=>len1 us hl fun _=>rfl) fun f cdv A outer s H E hr=>(zd (zn (i:=1) nd rfl (Or.inr rfl) zxl)
 (zd (zbm PassesOwn.never rfl (zbp (d_varJ (pv 0))) (zg (i:=2) nd rfl (Or.inl rfl))
 (zf (zsm (hu_of hr) (d_varJ (pv 1)) (d_varJ (pv 2)) (d_notJ (zbab (hu_of hr) (d_varJ (pv 1)) (d_varJ (pv 2)) d_blJ ⟨rfl,rfl,rfl,rfl⟩)) rfl)))
 (zf (zr (zdj zcr zkq rfl z_tuple zko (za (zq (zhy rfl hr.units) zpf rfl z_sorted zkp (za (zdb rfl (zzw (d_varJ (pv 1))) (fun _ _ _ _ _ => (zg (i := 0) (show (["_law_thing", "_law_odd_here"] : List Str).Nodup from by decide +kernel) rfl (Or.inl rfl))) (fun _ _ _ _ _ => (zhv (zfo (zbdm (hu_of hr) (d_varJ (pv 1)) (d_varJ (pv 0)) (fun _ _ => rfl))))) (fun _ _ _ _ _ => (d_varJ (pv 0))) (N := ["_law_thing", "_law_odd_here"]) (k := 1) (is := [1]) (zcq (by rfl))) zb)) zb))))))
theorem zdm : FnScope ["_law_bag_here", "_law_n", "_law_d", "_law_left", "_law_exponents", "_law_fork", "_law_k", "_law_e", "_law_at"] ["_law_bag_here", "_law_n", "_law_d"] (defScope zci) := ⟨rfl, rfl, rfl, by decide +kernel, rfl, by decide +kernel, by decide +kernel⟩
theorem zgr (T : TopF K "_law_of_degree" zci) (XX : K.In h) (G : h.Ns mainGlobals mg) (z_range : mg "range" = none) (z_max : mg "max" = none) (z_tuple : mg "tuple" = none) (c__law_take : CalD P w K mg base "_law_take" 1 ["_law_bag_here", "_law_many_here"] zi) : CalD P w K mg base "_law_of_degree" 2 ["_law_bag_here", "_law_n", "_law_d"] zbj :=
  have nd := zdm.nd
  zp (k := 1) T XX G zdm (fun _ _ _ _ _ _ us hl => len3 us hl fun _ _ _ => rfl) fun f cdv A outer s H E hr => (zd (zn (i := 3) nd rfl (Or.inl rfl) (d_varJ (pv 2)))
  (zd (zn (i := 4) nd rfl (Or.inl rfl) (zix zb))
  (zd (zn (i := 5) nd rfl (Or.inl rfl) (zl c__law_take (fun _ _ _ _ h => zk h) (hr.mono (by decide)) rfl (za (d_varJ (pv 0)) (za d_intJ zb))))
  (zd (zbm PassesOwn.never rfl (zbi rfl z_range (za (d_opJ op_sub (oI_D0 fun _ _ _ _ => .int _) (d_varJ (pv 1)) d_intJ) zb)) (zg (i := 6) nd rfl (Or.inl rfl))
  (zd (zn (i := 7) nd rfl (Or.inr rfl) (zl c__law_take (fun _ _ _ _ h => zk h) (hr.mono (by decide)) rfl (za (d_varJ (pv 0)) (za (d_opJ zba oAdd_D (d_varJ (pv 3)) d_intJ) zb))))
  (zd (ds_ifJ (zbx (op_eqX hr.units) oEq_D (d_varJ (pv 5)) d_intJ (nomark _)) (zf (zn (i := 7) nd rfl (Or.inr rfl) (zq (zwb rfl) zbdw rfl z_max bt_max (za (zdb rfl (zbp (d_tupJ (za d_intJ (za d_intJ (za d_intJ (za d_intJ (za d_intJ zb))))))) (fun _ _ _ _ _ => (zg (i := 0) (show (["_law_x", "_law_e"] : List Str).Nodup from by decide +kernel) rfl (Or.inl rfl))) (fun _ _ _ _ _ => (zhv (zbx op_le (oI_D0 fun _ _ _ _ => .bl _) (d_varJ (pv 0)) (d_varJ (pv 1)) (nomark _)))) (fun _ _ _ _ _ => (d_varJ (pv 0))) (N := ["_law_x", "_law_e"]) (k := 1) (is := [7]) (zcq (by rfl))) zb)))) zcp)
  (zd (zdy (zkl (d_varJ (pv 4)) (za (d_varJ (pv 7)) zb)))
  (zf (zn (i := 3) nd rfl (Or.inl rfl) (d_opJ op_sub (oI_D0 fun _ _ _ _ => .int _) (d_varJ (pv 3)) (d_varJ (pv 7)))))))))
  (zd (zdy (zkl (d_varJ (pv 4)) (za (d_varJ (pv 3)) zb)))
  (zd (zn (i := 8) nd rfl (Or.inl rfl) (zl c__law_take (fun _ _ _ _ h => zk h) (hr.mono (by decide)) rfl (za (d_varJ (pv 0)) (za (d_varJ (pv 1)) zb))))
  (zf (zr (zdj zcr zkq rfl z_tuple zko (za (d_opJ zba oAdd_D (d_slJ (d_varJ (pv 4)) (zkg (d_varJ (pv 8))) zkh) (d_slJ (d_varJ (pv 4)) zkh (zkg (d_varJ (pv 8))))) zb))))))))))
theorem zfc : FnScope ["_law_bag_here", "_law_n", "_law_d", "_law_many_here"] ["_law_bag_here", "_law_n", "_law_d", "_law_many_here"] (defScope zdq) := ⟨rfl, rfl, rfl, by decide +kernel, rfl, by decide +kernel, by decide +kernel⟩
theorem zjn (T : TopF K "_law_sum_of" zdq) (XX : K.In h) (G : h.Ns mainGlobals mg) (z_range : mg "range" = none) (c__law_odd : CalD P w K mg base "_law_odd" 1 ["_law_things"] zbd) (c__law_take : CalD P w K mg base "_law_take" 1 ["_law_bag_here", "_law_many_here"] zi) (c__law_of_degree : CalD P w K mg base "_law_of_degree" 2 ["_law_bag_here", "_law_n", "_law_d"] zbj) : CalD P w K mg base "_law_sum_of" 3 ["_law_bag_here", "_law_n", "_law_d", "_law_many_here"] zcl :=
 have nd:=zfc.nd
 zp (k := 2) T XX G zfc (fun _ _ _ _ _ _ us hl => len4 us hl fun _ _ _ _ => rfl) fun f cdv A outer s H E hr => (zf (zr (zl c__law_odd (fun _ _ _ _ h => zk h) (hr.mono (by decide)) rfl (za (zdb rfl (zbi rfl z_range (za (zl c__law_take (fun _ _ _ _ h => zk h) (hr.mono (by decide)) rfl (za (d_varJ (pv 0)) (za (d_opJ zba oAdd_D (d_varJ (pv 3)) d_intJ) zb))) zb)) (fun _ _ _ _ _ => (zg (i := 0) (show (["_law_k", "_law_bag_here", "_law_n", "_law_d"] : List Str).Nodup from by decide +kernel) rfl (Or.inl rfl))) (fun _ _ _ _ _ => zdi) (fun _ _ _ _ _ => (zl c__law_of_degree (fun _ _ _ _ h => zk h) (hr.mono (by decide)) rfl (za (d_varJ (pv 1)) (za (d_varJ (pv 2)) (za (d_varJ (pv 3)) zb))))) (N := ["_law_k", "_law_bag_here", "_law_n", "_law_d"]) (k := 1) (is := [0, 1, 2]) (zcq (by rfl))) zb))))
theorem zhd : FnScope ["_law_bag_here", "_law_n", "_law_product", "_law_turns"] ["_law_bag_here", "_law_n"] (defScope zfy) := ⟨rfl, rfl, rfl, by decide +kernel, rfl, by decide +kernel, by decide +kernel⟩
theorem zmz (T : TopF K "_law_full" zfy) (XX : K.In h) (G : h.Ns mainGlobals mg) (z_range : mg "range" = none) (z_int : mg "int" = none) (z_tuple : mg "tuple" = none) (c__law_take : CalD P w K mg base "_law_take" 1 ["_law_bag_here", "_law_many_here"] zi) (c__law_odd : CalD P w K mg base "_law_odd" 1 ["_law_things"] zbd) : CalD P w K mg base "_law_full" 2 ["_law_bag_here", "_law_n"] zed :=
  have nd := zhd.nd
  zp (k := 1) T XX G zhd (fun _ _ _ _ _ _ us hl => len2 us hl fun _ _ => rfl) fun f cdv A outer s H E hr => (zd (zn (i := 2) nd rfl (Or.inr rfl) (zdj zcr zkq rfl z_tuple zko (za (zdb rfl (zbi rfl z_range (za (d_varJ (pv 1)) zb)) (fun _ _ _ _ _ => (zg (i := 0) (show (["_law_letter", "_law_bag_here", "_law_n"] : List Str).Nodup from by decide +kernel) rfl (Or.inl rfl))) (fun _ _ _ _ _ => zdi) (fun _ _ _ _ _ => (d_ixJ (d_lstJ (za d_intJ (za d_intJ (za d_intJ (za d_intJ (za d_intJ (za d_intJ zb))))))) (zl c__law_take (fun _ _ _ _ h => zk h) (hr.mono (by decide)) rfl (za (d_varJ (pv 1)) (za (d_opJ op_sub (oI_D0 fun _ _ _ _ => .int _) d_intJ (d_opJ op_mul (oI_D fun _ _ _ _ => .int _) d_intJ (zdj zkn bInt_D rfl z_int bt_int (za (d_cmpJ op_gt (oI_D0 fun _ _ _ _ => .bl _) (d_varJ (pv 2)) d_intJ (nomark _)) zb)))) zb))) (fun _ _ => rfl))) (N := ["_law_letter", "_law_bag_here", "_law_n"]) (k := 1) (is := [0, 1]) (zcq (by rfl))) zb)))
  (zd (zzu (i := 3) rfl nd rfl (Or.inl rfl) (zbi rfl z_range (za (d_varJ (pv 1)) zb)) (fun _ _ _ _ _ => (zg (i := 0) (show (["_law_k", "_law_product"] : List Str).Nodup from by decide +kernel) rfl (Or.inl rfl))) (fun _ _ _ _ _ => zdi) (fun _ _ _ _ _ => (d_opJ zba oAdd_D (d_slJ (d_varJ (pv 1)) (zkg (d_varJ (pv 0))) zkh) (d_slJ (d_varJ (pv 1)) zkh (zkg (d_varJ (pv 0)))))) (N := ["_law_k", "_law_product"]) (k := 1) (is := [2]) (zcq (by rfl)))
  (zf (zr (zl c__law_odd (fun _ _ _ _ h => zk h) (hr.mono (by decide)) rfl (za (d_opJ zba oAdd_D (d_lstJ (za (d_varJ (pv 2)) zb)) (d_ixJ (d_lstJ (za (d_varJ (pv 3)) (za (d_lstJ zb) zb))) (zl c__law_take (fun _ _ _ _ h => zk h) (hr.mono (by decide)) rfl (za (d_varJ (pv 0)) (za d_intJ zb))) (fun _ _ => rfl))) zb))))))
theorem zhc : FnScope ["_law_n", "_law_d", "_law_found", "_law_k"] ["_law_n", "_law_d"] (defScope zfx) := ⟨rfl, rfl, rfl, by decide +kernel, rfl, by decide +kernel, by decide +kernel⟩
theorem zmy (T : TopF K "_law_many" zfx) (XX : K.In h) (G : h.Ns mainGlobals mg) (z_range : mg "range" = none) : CalD P w K mg base "_law_many" 1 ["_law_n", "_law_d"] ze :=
 have nd:=zhc.nd
 zp (k:=0) T XX G zhc (fun _ _ _ _ _ _ us hl=>len2 us hl fun _ _=>rfl) fun f cdv A outer s H E hr=>(zd (zn (i:=2) nd rfl (Or.inl rfl) d_intJ)
 (zd (zbm PassesOwn.never rfl (zfp rfl z_range (za d_intJ (za (d_varJ (pv 0)) zb))) (zg (i:=3) nd rfl (Or.inl rfl))
 (zf (zn (i:=2) nd rfl (Or.inl rfl) (d_opJ zdu (oI_D fun _ _ _ _=>.int _) (d_opJ zwr (oI_D fun _ _ _ _=>.int _) (d_varJ (pv 2)) (d_opJ zba oAdd_D (d_varJ (pv 1)) (d_varJ (pv 3)))) (d_varJ (pv 3))))))
 (zf (zr (d_varJ (pv 2))))))
theorem zhe : FnScope ["_law_n", "_law_d"] ["_law_n", "_law_d"] (defScope zfz) := ⟨rfl, rfl, rfl, by decide +kernel, rfl, by decide +kernel, by decide +kernel⟩
theorem zna (T : TopF K "_law_fits" zfz) (XX : K.In h) (G : h.Ns mainGlobals mg) (z_int : mg "int" = none) (c__law_many : CalD P w K mg base "_law_many" 1 ["_law_n", "_law_d"] ze) : CalD P w K mg base "_law_fits" 2 ["_law_n", "_law_d"] zee :=
 have nd:=zhe.nd
 zp (k:=1) T XX G zhe (fun _ _ _ _ _ _ us hl=>len2 us hl fun _ _=>rfl) fun f cdv A outer s H E hr=>(zf (zr (d_andJ (d_cmpJ op_le (oI_D0 fun _ _ _ _=>.bl _) (d_varJ (pv 1)) (d_ixJ (d_lstJ (za d_intJ (za d_intJ zb))) (zdj zkn bInt_D rfl z_int bt_int (za (d_cmpJ (op_ltA hr.units0) oLtT_D (d_varJ (pv 0)) d_intJ (nomark _)) zb)) (fun _ _=>rfl)) (nomark _)) (d_oneJ (d_cmpJ op_le (oI_D0 fun _ _ _ _=>.bl _) (zl c__law_many (fun _ _ _ _ h=>zk h) (hr.mono (by decide)) rfl (za (d_varJ (pv 0)) (za (d_varJ (pv 1)) zb))) d_intJ (nomark _))))))
theorem zfe : FnScope ["_law_thing"] ["_law_thing"] (defScope zds) := ⟨rfl, rfl, rfl, by decide +kernel, rfl, by decide +kernel, by decide +kernel⟩
theorem zjp (T : TopF K "_law_number" zds) (XX : K.In h) (G : h.Ns mainGlobals mg) (z_bool : mg "bool" = none) (z_isinstance : mg "isinstance" = none) (z_int : mg "int" = none) : CalD P w K mg base "_law_number" 1 ["_law_thing"] zbr :=
 have nd:=zfe.nd
 zp (k := 0) T XX G zfe (fun _ _ _ _ _ _ us hl => len1 us hl fun _ => rfl) fun f cdv A outer s H E hr => (zf (zr (d_andJ (zq zdc zfq rfl z_isinstance zby (za (d_varJ (pv 0)) (za (d_conJ (zli (v := .ty "int") rfl z_int bt_int rfl) (fun _ _ => .ty _)) zb))) (d_oneJ (d_notJ (zq zdc zfq rfl z_isinstance zby (za (d_varJ (pv 0)) (za (d_conJ (zli (v := .ty "bool") rfl z_bool zsy rfl) (fun _ _ => .ty _)) zb))))))))
theorem zff : FnScope ["_law_bag_here", "_law_n", "_law_most"] ["_law_bag_here", "_law_n"] (defScope zdt) := ⟨rfl, rfl, rfl, by decide +kernel, rfl, by decide +kernel, by decide +kernel⟩
theorem zjq (T : TopF K "_law_degree" zdt) (XX : K.In h) (G : h.Ns mainGlobals mg) (z_int : mg "int" = none) (c__law_take : CalD P w K mg base "_law_take" 1 ["_law_bag_here", "_law_many_here"] zi) : CalD P w K mg base "_law_degree" 2 ["_law_bag_here", "_law_n"] zcn :=
 have nd:=zff.nd
 zp (k:=1) T XX G zff (fun _ _ _ _ _ _ us hl=>len2 us hl fun _ _=>rfl) fun f cdv A outer s H E hr=>(zd (zn (i:=2) nd rfl (Or.inl rfl) (d_ixJ (d_lstJ (za d_intJ (za d_intJ (za d_intJ (za d_intJ (za d_intJ (za d_intJ (za d_intJ (za d_intJ (za d_intJ (za d_intJ zb))))))))))) (d_opJ op_sub (oI_D0 fun _ _ _ _=>.int _) (d_varJ (pv 1)) d_intJ) (fun _ _=>rfl)))
 (zf (zr (d_ixJ (d_lstJ (za (d_varJ (pv 2)) (za (zl c__law_take (fun _ _ _ _ h=>zk h) (hr.mono (by decide)) rfl (za (d_varJ (pv 0)) (za (d_opJ zba oAdd_D (d_varJ (pv 2)) d_intJ) zb))) zb))) (zdj zkn bInt_D rfl z_int bt_int (za (d_cmpJ op_gt (oI_D0 fun _ _ _ _=>.bl _) (zl c__law_take (fun _ _ _ _ h=>zk h) (hr.mono (by decide)) rfl (za (d_varJ (pv 0)) (za d_intJ zb))) d_intJ (nomark _)) zb)) (fun _ _=>rfl)))))
theorem zil : FnScope ["_law_n", "_law_d", "_law_found", "_law_k", "_law_further", "_law_grown", "_law_left"] ["_law_n", "_law_d"] (defScope zhk) := ⟨rfl, rfl, rfl, by decide +kernel, rfl, by decide +kernel, by decide +kernel⟩
theorem zpr (T : TopF K "_law_all" zhk) (XX : K.In h) (G : h.Ns mainGlobals mg) (z_range : mg "range" = none) : CalD P w K mg base "_law_all" 1 ["_law_n", "_law_d"] zfs :=
 have nd:=zil.nd
 zp (k:=0) T XX G zil (fun _ _ _ _ _ _ us hl=>len2 us hl fun _ _=>rfl) fun f cdv A outer s H E hr=>(zd (zn (i:=2) nd rfl (Or.inl rfl) (d_lstJ (za (d_tupJ (za (d_tupJ zb) (za (d_varJ (pv 1)) zb))) zb)))
 (zd (zbm PassesOwn.never rfl (zbi rfl z_range (za (d_opJ op_sub (oI_D0 fun _ _ _ _=>.int _) (d_varJ (pv 0)) d_intJ) zb)) (zg (i:=3) nd rfl (Or.inl rfl))
 (zd (zn (i:=4) nd rfl (Or.inl rfl) (zix zb))
 (zd (zbm PassesOwn.never rfl (zbp (d_varJ (pv 2))) (zgm rfl (zy (zg (i:=5) nd rfl (Or.inr rfl)) (zy (zg (i:=6) nd rfl (Or.inr rfl)) zdz)))
 (zf (zdy (zkk (d_varJ (pv 4)) (za (zdb rfl (zbi rfl z_range (za (d_opJ zba oAdd_D (d_varJ (pv 6)) d_intJ) zb)) (fun _ _ _ _ _ => (zg (i := 0) (show (["_law_e", "_law_grown", "_law_left"] : List Str).Nodup from by decide +kernel) rfl (Or.inl rfl))) (fun _ _ _ _ _ => zdi) (fun _ _ _ _ _ => (d_tupJ (za (d_opJ zba oAdd_D (d_varJ (pv 1)) (d_tupJ (za (d_varJ (pv 0)) zb))) (za (d_opJ op_sub (oI_D0 fun _ _ _ _ => .int _) (d_varJ (pv 2)) (d_varJ (pv 0))) zb)))) (N := ["_law_e", "_law_grown", "_law_left"]) (k := 1) (is := [5, 6]) (zcq (by rfl))) zb)))))
 (zf (zn (i:=2) nd rfl (Or.inl rfl) (d_fzJ (d_varJ (pv 4))))))))
 (zf (zr (zdb rfl (zbp (d_varJ (pv 2))) (fun _ _ _ _ _ => (zgm rfl (zy (zg (i := 0) (show (["_law_grown", "_law_left"] : List Str).Nodup from by decide +kernel) rfl (Or.inl rfl)) (zy (zg (i := 1) (show (["_law_grown", "_law_left"] : List Str).Nodup from by decide +kernel) rfl (Or.inl rfl)) zdz)))) (fun _ _ _ _ _ => zdi) (fun _ _ _ _ _ => (d_opJ zba oAdd_D (d_varJ (pv 0)) (d_tupJ (za (d_varJ (pv 1)) zb)))) (N := ["_law_grown", "_law_left"]) (k := 2) (is := []) (zcq (by rfl)))))))
theorem zgj : FnScope ["_law_row", "_law_some"] ["_law_row", "_law_some"] (defScope zew) := ⟨rfl, rfl, rfl, by decide +kernel, rfl, by decide +kernel, by decide +kernel⟩
theorem zlm (T : TopF K "_law_meets" zew) (XX : K.In h) (G : h.Ns mainGlobals mg) (z_len : mg "len" = none) : CalD P w K mg base "_law_meets" 1 ["_law_row", "_law_some"] zde :=
 have nd:=zgj.nd
 zp (k := 0) T XX G zgj (fun _ _ _ _ _ _ us hl => len2 us hl fun _ _ => rfl) fun f cdv A outer s H E hr => (zf (zr (d_cmpJ (op_eqX hr.units) oEq_D (d_opJ op_mod (oI_D fun _ _ _ _ => .int _) (zq zbv bLen_D rfl z_len bt_len (za (zdb rfl (zbp (d_varJ (pv 0))) (fun _ _ _ _ _ => (zg (i := 0) (show (["_law_product", "_law_some"] : List Str).Nodup from by decide +kernel) rfl (Or.inl rfl))) (fun _ _ _ _ _ => (zhv (zbx (op_inX hr.units) oIn_D (d_varJ (pv 0)) (d_varJ (pv 1)) rfl))) (fun _ _ _ _ _ => (d_varJ (pv 0))) (N := ["_law_product", "_law_some"]) (k := 1) (is := [1]) (zcq (by rfl))) zb)) d_intJ) d_intJ (nomark _))))
theorem zfd : FnScope ["_law_some", "_law_k", "_law_found", "_law_product", "_law_ways", "_law_e", "_law_further", "_law_grown", "_law_left"] ["_law_some", "_law_k"] (defScope zdr) := ⟨rfl, rfl, rfl, by decide +kernel, rfl, by decide +kernel, by decide +kernel⟩
theorem zjo (T : TopF K "_law_raised" zdr) (XX : K.In h) (G : h.Ns mainGlobals mg) (z_min : mg "min" = none) (z_range : mg "range" = none) (c__law_odd : CalD P w K mg base "_law_odd" 1 ["_law_things"] zbd) : CalD P w K mg base "_law_raised" 2 ["_law_some", "_law_k"] zcm :=
 have nd:=zfd.nd
 zp (k:=1) T XX G zfd (fun _ _ _ _ _ _ us hl=>len2 us hl fun _ _=>rfl) fun f cdv A outer s H E hr=>(zd (zn (i:=2) nd rfl (Or.inl rfl) (zix zb))
 (zd (zbm PassesOwn.never rfl (zbp (d_varJ (pv 0))) (zg (i:=3) nd rfl (Or.inl rfl))
 (zd (zn (i:=4) nd rfl (Or.inl rfl) (d_lstJ (za (d_tupJ (za (d_tupJ zb) (za (d_varJ (pv 1)) zb))) zb)))
 (zd (zbm PassesOwn.never rfl (zbp (d_varJ (pv 3))) (zg (i:=5) nd rfl (Or.inr rfl))
 (zd (zn (i:=6) nd rfl (Or.inl rfl) (zix zb))
 (zd (zbm PassesOwn.never rfl (zbp (d_varJ (pv 4))) (zgm rfl (zy (zg (i:=7) nd rfl (Or.inr rfl)) (zy (zg (i:=8) nd rfl (Or.inr rfl)) zdz)))
 (zf (zdy (zkk (d_varJ (pv 6)) (za (zdb rfl (zbi rfl z_range (za (d_opJ zba oAdd_D (zq (zen rfl) b2I_D rfl z_min bt_min (za (d_varJ (pv 5)) (za (d_varJ (pv 8)) zb))) d_intJ) zb)) (fun _ _ _ _ _ => (zg (i := 0) (show (["_law_j", "_law_grown", "_law_left", "_law_e"] : List Str).Nodup from by decide +kernel) rfl (Or.inl rfl))) (fun _ _ _ _ _ => (zhv (zbx (op_eqX hr.units) oEq_D (d_opJ op_and (oI_D0 fun _ _ _ _ => .int _) (d_varJ (pv 3)) (d_varJ (pv 0))) (d_varJ (pv 0)) (nomark _)))) (fun _ _ _ _ _ => (d_tupJ (za (d_opJ zba oAdd_D (d_varJ (pv 1)) (d_tupJ (za (d_opJ zba oAdd_D (d_varJ (pv 3)) (d_varJ (pv 0))) zb))) (za (d_opJ op_sub (oI_D0 fun _ _ _ _ => .int _) (d_varJ (pv 2)) (d_varJ (pv 0))) zb)))) (N := ["_law_j", "_law_grown", "_law_left", "_law_e"]) (k := 1) (is := [7, 8, 5]) (zcq (by rfl))) zb)))))
 (zf (zn (i:=4) nd rfl (Or.inl rfl) (d_fzJ (d_varJ (pv 6))))))))
 (zf (zdy (zkk (d_varJ (pv 2)) (za (zdb rfl (zbp (d_varJ (pv 4))) (fun _ _ _ _ _ => (zgm rfl (zy (zg (i := 0) (show (["_law_grown", "_law_left"] : List Str).Nodup from by decide +kernel) rfl (Or.inl rfl)) (zy (zg (i := 1) (show (["_law_grown", "_law_left"] : List Str).Nodup from by decide +kernel) rfl (Or.inl rfl)) zdz)))) (fun _ _ _ _ _ => (zhv (zbx (op_eqX hr.units) oEq_D (d_varJ (pv 1)) d_intJ (nomark _)))) (fun _ _ _ _ _ => (d_varJ (pv 0))) (N := ["_law_grown", "_law_left"]) (k := 2) (is := []) (zcq (by rfl))) zb)))))))
 (zf (zr (zl c__law_odd (fun _ _ _ _ h=>zk h) (hr.mono (by decide)) rfl (za (d_fzJ (d_varJ (pv 2))) zb))))))
theorem zhf : FnScope ["_law_n", "_law_d", "_law_row", "_law_less", "_law_product"] ["_law_n", "_law_d", "_law_row"] (defScope zga) := ⟨rfl, rfl, rfl, by decide +kernel, rfl, by decide +kernel, by decide +kernel⟩
theorem znb (T : TopF K "_law_even" zga) (XX : K.In h) (G : h.Ns mainGlobals mg) (z_range : mg "range" = none) (c__law_all : CalD P w K mg base "_law_all" 1 ["_law_n", "_law_d"] zfs) (c__law_meets : CalD P w K mg base "_law_meets" 1 ["_law_row", "_law_some"] zde) (c__law_raised : CalD P w K mg base "_law_raised" 2 ["_law_some", "_law_k"] zcm) : CalD P w K mg base "_law_even" 3 ["_law_n", "_law_d", "_law_row"] zef :=
 have nd:=zhf.nd
 zp (k:=2) T XX G zhf (fun _ _ _ _ _ _ us hl=>len3 us hl fun _ _ _=>rfl) fun f cdv A outer s H E hr=>(zd (zbm PassesOwn.never rfl (zbi rfl z_range (za (d_varJ (pv 1)) zb)) (zg (i:=3) nd rfl (Or.inl rfl))
 (zf (zbm PassesOwn.never rfl (zbp (zl c__law_all (fun _ _ _ _ h=>zk h) (hr.mono (by decide)) rfl (za (d_varJ (pv 0)) (za (d_varJ (pv 3)) zb)))) (zg (i:=4) nd rfl (Or.inl rfl))
 (zf (ds_ifJ (zfo (zl c__law_meets (fun _ _ _ _ h=>zk h) (hr.mono (by decide)) rfl (za (d_varJ (pv 2)) (za (zl c__law_raised (fun _ _ _ _ h=>zk h) (hr.mono (by decide)) rfl (za (d_tupJ (za (d_varJ (pv 4)) zb)) (za (d_opJ op_sub (oI_D0 fun _ _ _ _=>.int _) (d_varJ (pv 1)) (d_varJ (pv 3))) zb))) zb)))) (zf (zr d_blJ)) zcp)))))
 (zf (zr d_blJ)))
theorem sc_law : FnScope ["_law_script", "_law_k", "_law_bag_here", "_law_n", "_law_d", "_law_found", "_law_rows", "_law_m", "_law_row"] ["_law_script"] (defScope s_law) := ⟨rfl, rfl, rfl, by decide +kernel, rfl, by decide +kernel, by decide +kernel⟩
theorem ok_law {f : Addr} {fd : FuncData} (F : Fun K "law" "law" s_law f fd) (z_len : mg "len" = none) (z_min : mg "min" = none) (z_range : mg "range" = none) (z_sum : mg "sum" = none) (z_bool : mg "bool" = none) (z_isinstance : mg "isinstance" = none) (c__law_bag : CalD P w K mg base "_law_bag" 1 ["_law_script", "_law_at"] zeo) (c__law_take : CalD P w K mg base "_law_take" 1 ["_law_bag_here", "_law_many_here"] zi) (c_products_counted : CalD P w K mg base "products_counted" 2 ["n", "d"] zbh) (c__law_many : CalD P w K mg base "_law_many" 1 ["_law_n", "_law_d"] ze) (c__law_number : CalD P w K mg base "_law_number" 1 ["_law_thing"] zbr) (c__law_letters : CalD P w K mg base "_law_letters" 2 ["_law_bag_here"] zca) (c__law_full : CalD P w K mg base "_law_full" 2 ["_law_bag_here", "_law_n"] zed) (c__law_sum_of : CalD P w K mg base "_law_sum_of" 3 ["_law_bag_here", "_law_n", "_law_d", "_law_many_here"] zcl) (c__law_degree : CalD P w K mg base "_law_degree" 2 ["_law_bag_here", "_law_n"] zcn) (c_is_even : CalD P w K mg base "is_even" 5 ["n", "row"] zdk) (c__law_fits : CalD P w K mg base "_law_fits" 2 ["_law_n", "_law_d"] zee) (c__law_even : CalD P w K mg base "_law_even" 3 ["_law_n", "_law_d", "_law_row"] zef) : FnOk P w K mg base CX0 6 f fd ["_law_script"] (spLaw K) :=
 have nd:=sc_law.nd
 zbck (k:=5) F sc_law rfl (fun cdv A outer s H E hr=>(zd (zbm PassesOwn.never rfl (zbi rfl z_range (za (d_opJ zba oAdd_D (zq (zen rfl) b2I_D rfl z_min bt_min (za d_intJ (za (zq zbv bLen_D rfl z_len bt_len (za (d_varJ (pv 0)) zb)) zb))) d_intJ) zb)) (zg (i:=1) nd rfl (Or.inl rfl))
 (zd (zn (i:=2) nd rfl (Or.inl rfl) (zl c__law_bag (fun _ _ _ _ h=>zk h) (hr.mono (by decide)) rfl (za (d_varJ (pv 0)) (za (d_varJ (pv 1)) zb))))
 (zd (zbm PassesOwn.never rfl (zbp (d_lstJ (za (d_tupJ (za (d_opJ zba oAdd_D d_intJ (zl c__law_take (fun _ _ _ _ h=>zk h) (hr.mono (by decide)) rfl (za (d_varJ (pv 2)) (za d_intJ zb)))) (za (zl c__law_take (fun _ _ _ _ h=>zk h) (hr.mono (by decide)) rfl (za (d_varJ (pv 2)) (za d_intJ zb))) zb))) (za (d_tupJ (za (d_opJ zba oAdd_D d_intJ (zl c__law_take (fun _ _ _ _ h=>zk h) (hr.mono (by decide)) rfl (za (d_varJ (pv 2)) (za d_intJ zb)))) (za (zl c__law_take (fun _ _ _ _ h=>zk h) (hr.mono (by decide)) rfl (za (d_varJ (pv 2)) (za (d_opJ op_pow (oI_D fun _ _ _ _=>.int _) d_intJ d_intJ) zb))) zb))) zb)))) (zgm rfl (zy (zg (i:=3) nd rfl (Or.inl rfl)) (zy (zg (i:=4) nd rfl (Or.inl rfl)) zdz)))
 (zd (zn (i:=5) nd rfl (Or.inl rfl) (zl c_products_counted (fun _ _ _ _ h=>zk h) (hr.mono (by decide)) rfl (za (d_varJ (pv 3)) (za (d_varJ (pv 4)) zb))))
 (zf (ds_ifJ (JW.pt (dw_orJ (zou (zfo (zl c__law_number (fun _ _ _ _ h=>zk h) (hr.mono (by decide)) rfl (za (d_varJ (pv 5)) zb)))) (zot (zbx (op_neX hr.units) oEq_D (d_varJ (pv 5)) (zl c__law_many (fun _ _ _ _ h=>zk h) (hr.mono (by decide)) rfl (za (d_varJ (pv 3)) (za (d_varJ (pv 4)) zb))) (nomark _)) (by first | exact Or.inl rfl | exact Or.inr rfl)))) (zf (zr d_blJ)) zcp))))
 (zd (zn (i:=3) nd rfl (Or.inl rfl) (zl c__law_letters (fun _ _ _ _ h=>zk h) (hr.mono (by decide)) rfl (za (d_varJ (pv 2)) zb)))
 (zd (zn (i:=6) nd rfl (Or.inl rfl) (d_lstJ (za (d_tupJ (za (d_varJ (pv 3)) (za (zl c__law_sum_of (fun _ _ _ _ h=>zk h) (hr.mono (by decide)) rfl (za (d_varJ (pv 2)) (za (d_varJ (pv 3)) (za (zl c__law_degree (fun _ _ _ _ h=>zk h) (hr.mono (by decide)) rfl (za (d_varJ (pv 2)) (za (d_varJ (pv 3)) zb))) (za d_intJ zb))))) zb))) (za (d_tupJ (za (zq (zen rfl) b2I_D rfl z_min bt_min (za (d_varJ (pv 3)) (za d_intJ zb))) (za (zl c__law_full (fun _ _ _ _ h=>zk h) (hr.mono (by decide)) rfl (za (d_varJ (pv 2)) (za (zq (zen rfl) b2I_D rfl z_min bt_min (za (d_varJ (pv 3)) (za d_intJ zb))) zb))) zb))) zb))))
 (zd (ds_ifJ (zbx zbbx zbcd (zl c_is_even (fun _ _ _ _ h=>zk h) (hr.mono (by decide)) rfl (za (d_varJ (pv 3)) (za (d_tupJ zb) zb))) d_blJ (nomark _)) (zf (zr d_blJ)) zcp)
 (zf (zbm PassesOwn.never rfl (zbp (d_varJ (pv 6))) (zgm rfl (zy (zg (i:=7) nd rfl (Or.inl rfl)) (zy (zg (i:=8) nd rfl (Or.inl rfl)) zdz)))
 (zf (ds_ifJ (JW.pt (zbcx (zbx op_gt (oI_D0 fun _ _ _ _=>.bl _) (zq zbv bLen_D rfl z_len bt_len (za (d_varJ (pv 8)) zb)) d_intJ (nomark _)) (zot (zfo (zl c__law_fits (fun _ _ _ _ h=>zk h) (hr.mono (by decide)) rfl (za (d_varJ (pv 7)) (za (zq (zgx rfl) bSum_D rfl z_sum bt_sum (za (d_ixJ (d_varJ (pv 8)) d_intJ (fun _ _=>rfl)) zb)) zb)))) (by first | exact Or.inl rfl | exact Or.inr rfl)))) (zd (zn (i:=5) nd rfl (Or.inl rfl) (zl c_is_even (fun _ _ _ _ h=>zk h) (hr.mono (by decide)) rfl (za (d_varJ (pv 7)) (za (d_varJ (pv 8)) zb))))
 (zf (ds_ifJ (JW.pt (dw_orJ (zou (zfo (zq zdc zfq rfl z_isinstance zby (za (d_varJ (pv 5)) (za (d_conJ (zli (v := .ty "bool") rfl z_bool zsy rfl) (fun _ _ => .ty _)) zb))))) (zot (zbx (op_neX hr.units) oEq_D (d_varJ (pv 5)) (zl c__law_even (fun _ _ _ _ h => zk h) (hr.mono (by decide)) rfl (za (d_varJ (pv 7)) (za (zq (zgx rfl) bSum_D rfl z_sum bt_sum (za (d_ixJ (d_varJ (pv 8)) d_intJ (fun _ _ => rfl)) zb)) (za (d_varJ (pv 8)) zb)))) (nomark _)) (by first | exact Or.inl rfl | exact Or.inr rfl)))) (zf (zr d_blJ)) zcp))) zcp))))))))))
 (zf (zr d_blJ)))) K55.holds
end
theorem all_mk {l : PySem.W.OpenLaw} {w : World} {K : PySem.W.Frag} {h : Heap} {mg : Str → Option Value} {fa : Addr} {u0 : Tok} {u1 : Tok} (X : K.In h) (G : h.Ns mainGlobals mg) (hfa : mg "law" = some (.ref fa))
  (t1 : TopF K "_law_bag" zhj) (t2 : TopF K "_law_take" zfw) (t3 : TopF K "_law_letters" zdf) (t4 : TopF K "number_of_products" zbl) (t5 : TopF K "products_counted" zbt) (t6 : TopF K "degrees" zji) (t7 : TopF K "most_degree" zdp) (t8 : TopF K "can_be_judged" zcv) (t9 : TopF K "bounded" zjj) (t10 : TopF K "one_degree" zev) (t11 : TopF K "odd_ways" zhg) (t12 : TopF K "letter_lowered" zch) (t13 : TopF K "product_lowered" zcb) (t14 : TopF K "is_whole" zhh) (t15 : TopF K "flip" s_flip) (t16 : TopF K "lowered" zjg) (t17 : TopF K "is_even" zjh) (t18 : TopF K "_law_odd" zhi) (t19 : TopF K "_law_of_degree" zci) (t20 : TopF K "_law_sum_of" zdq) (t21 : TopF K "_law_full" zfy) (t22 : TopF K "_law_many" zfx) (t23 : TopF K "_law_fits" zfz) (t24 : TopF K "_law_number" zds) (t25 : TopF K "_law_degree" zdt) (t26 : TopF K "_law_all" zhk) (t27 : TopF K "_law_meets" zew) (t28 : TopF K "_law_raised" zdr) (t29 : TopF K "_law_even" zga) (t30 : TopF K "law" s_law) (z0 : PySem.W.nsIn K mainGlobals "len" = some none) (z1 : PySem.W.nsIn K mainGlobals "abs" = some none) (z2 : PySem.W.nsIn K mainGlobals "min" = some none) (z3 : PySem.W.nsIn K mainGlobals "range" = some none) (z4 : PySem.W.nsIn K mainGlobals "sum" = some none) (z5 : PySem.W.nsIn K mainGlobals "sorted" = some none) (z6 : PySem.W.nsIn K mainGlobals "set" = some none) (z7 : PySem.W.nsIn K mainGlobals "max" = some none) (z8 : PySem.W.nsIn K mainGlobals "bool" = some none) (z9 : PySem.W.nsIn K mainGlobals "isinstance" = some none) (z10 : PySem.W.nsIn K mainGlobals "int" = some none) (z11 : PySem.W.nsIn K mainGlobals "tuple" = some none) (z12 : PySem.W.nsIn K mainGlobals "all" = some none) (y0 : PySem.W.nsIn K mainGlobals "FEW_LETTERS" = some (some (.int 3 u0))) (y1 : PySem.W.nsIn K mainGlobals "MOST_JUDGED" = some (some (.int 200 u1)))  :
  ∃ fd : FuncData, (∀ (s : Shared) (v : Value), BindsTo s fd ⟨[v], []⟩ [("_law_script", v)]) ∧ ∀ base : Heap, K.In base → base.Ns mainGlobals mg → FnOk l.prog w K mg base CX0 6 fa fd ["_law_script"] (spLaw K) := by
 have x0:=PySem.W.mg_none_of X G z0
 have x1:=PySem.W.mg_none_of X G z1
 have x2:=PySem.W.mg_none_of X G z2
 have x3:=PySem.W.mg_none_of X G z3
 have x4:=PySem.W.mg_none_of X G z4
 have x5:=PySem.W.mg_none_of X G z5
 have x6:=PySem.W.mg_none_of X G z6
 have x7:=PySem.W.mg_none_of X G z7
 have x8:=PySem.W.mg_none_of X G z8
 have x9:=PySem.W.mg_none_of X G z9
 have x10:=PySem.W.mg_none_of X G z10
 have x11:=PySem.W.mg_none_of X G z11
 have x12:=PySem.W.mg_none_of X G z12
 have v0:=PySem.W.mg_of X G y0
 have v1:=PySem.W.mg_of X G y1
 obtain ⟨f,fd,a,F⟩:=t30
 have e:=hfa.symm.trans (PySem.W.mg_of X G a)
 cases e
 obtain ⟨oc,od,kV,doc,pm,an,cdv,ct,osl,rfl,lk,hcd⟩:=id F.ex
 refine ⟨PySem.W.fnOf "law" "law" (defArgs s_law) (defBody s_law) (defScope s_law) .none kV doc pm an cdv ct, fun s v => .of_eq rfl, fun base _ _ => ?_⟩
 have k__law_bag : CalD l.prog w K mg base "_law_bag" 1 ["_law_script", "_law_at"] zeo := zpq t1 X G x0 x1 x2 x3
 have k__law_take : CalD l.prog w K mg base "_law_take" 1 ["_law_bag_here", "_law_many_here"] zi := zmx t2 X G 
 have k__law_letters : CalD l.prog w K mg base "_law_letters" 2 ["_law_bag_here"] zca := zic t3 X G k__law_take
 have k_number_of_products : CalD l.prog w K mg base "number_of_products" 1 ["n", "d"] ze := zep t4 X G x3
 have k_products_counted : CalD l.prog w K mg base "products_counted" 2 ["n", "d"] zbh := zfh t5 X G k_number_of_products
 have k_degrees : CalD l.prog w K mg base "degrees" 1 ["some"] zft := zrh t6 X G x4 x5 x6
 have k_most_degree : CalD l.prog w K mg base "most_degree" 1 ["n"] zct := zjm t7 X G v0
 have k_can_be_judged : CalD l.prog w K mg base "can_be_judged" 2 ["n", "d"] zbk := zhm t8 X G v1 k_number_of_products k_most_degree
 have k_bounded : CalD l.prog w K mg base "bounded" 3 ["n", "d"] zfu := zri t9 X G k_can_be_judged
 have k_one_degree : CalD l.prog w K mg base "one_degree" 4 ["n", "some"] zbw := zll t10 X G x0 k_degrees k_bounded
 have k_odd_ways : CalD l.prog w K mg base "odd_ways" 1 ["e", "k"] zec := zpn t11 X G 
 have k_letter_lowered : CalD l.prog w K mg base "letter_lowered" 2 ["partly", "e", "rest"] zbc := zgq t12 X G x2 x7 x3 k_odd_ways
 have k_product_lowered : CalD l.prog w K mg base "product_lowered" 3 ["product", "k"] zbb := zge t13 X G x4 k_letter_lowered
 have k_is_whole : CalD l.prog w K mg base "is_whole" 1 ["thing"] zbr := zpo t14 X G x8 x9 x10
 have k_flip : CalD l.prog w K mg base "flip" 1 ["kept", "thing"] F_flip := zbca t15 X G 
 have k_lowered : CalD l.prog w K mg base "lowered" 4 ["row", "k"] zfr := zrf t16 X G x5 x11 k_is_whole k_product_lowered k_flip
 have k_is_even : CalD l.prog w K mg base "is_even" 5 ["n", "row"] zdk := zrg t17 X G x3 x12 k_one_degree k_lowered
 have k__law_odd : CalD l.prog w K mg base "_law_odd" 1 ["_law_things"] zbd := zpp t18 X G x5 x11
 have k__law_of_degree : CalD l.prog w K mg base "_law_of_degree" 2 ["_law_bag_here", "_law_n", "_law_d"] zbj := zgr t19 X G x3 x7 x11 k__law_take
 have k__law_sum_of : CalD l.prog w K mg base "_law_sum_of" 3 ["_law_bag_here", "_law_n", "_law_d", "_law_many_here"] zcl := zjn t20 X G x3 k__law_odd k__law_take k__law_of_degree
 have k__law_full : CalD l.prog w K mg base "_law_full" 2 ["_law_bag_here", "_law_n"] zed := zmz t21 X G x3 x10 x11 k__law_take k__law_odd
 have k__law_many : CalD l.prog w K mg base "_law_many" 1 ["_law_n", "_law_d"] ze := zmy t22 X G x3
 have k__law_fits : CalD l.prog w K mg base "_law_fits" 2 ["_law_n", "_law_d"] zee := zna t23 X G x10 k__law_many
 have k__law_number : CalD l.prog w K mg base "_law_number" 1 ["_law_thing"] zbr := zjp t24 X G x8 x9 x10
 have k__law_degree : CalD l.prog w K mg base "_law_degree" 2 ["_law_bag_here", "_law_n"] zcn := zjq t25 X G x10 k__law_take
 have k__law_all : CalD l.prog w K mg base "_law_all" 1 ["_law_n", "_law_d"] zfs := zpr t26 X G x3
 have k__law_meets : CalD l.prog w K mg base "_law_meets" 1 ["_law_row", "_law_some"] zde := zlm t27 X G x0
 have k__law_raised : CalD l.prog w K mg base "_law_raised" 2 ["_law_some", "_law_k"] zcm := zjo t28 X G x2 x3 k__law_odd
 have k__law_even : CalD l.prog w K mg base "_law_even" 3 ["_law_n", "_law_d", "_law_row"] zef := znb t29 X G x3 k__law_all k__law_meets k__law_raised
 exact ok_law F x0 x2 x3 x4 x8 x9 k__law_bag k__law_take k_products_counted k__law_many k__law_number k__law_letters k__law_full k__law_sum_of k__law_degree k_is_even k__law_fits k__law_even
end K55
open PySem PySem.W PyProof.Rows
set_option maxRecDepth 100000 in
set_option maxHeartbeats 0 in
theorem PySem.Challenge.cw_raisedsums_k55_rows_met_evenly_holds : PySem.Challenge.rw_raisedsums_k55_rows_met_evenly.Holds := by
  w_on; o_law; k_head; (case hw => w_witness2)
  k_fill
  refine L2.zbat (l := PySem.Challenge.rw_raisedsums_k55_rows_met_evenly) (n := 63) (k := 6) (x := "_law_script") (CX := fun _ => L2.CX0) (sp := fun w => Dd.spLaw _) rfl (by decide) rfl ⟨rfl, by decide, by decide⟩ (fun w h Y => PySem.W.kIn_of Y) ?F (fun _ _ a ns hl _ hS => ⟨a, ns, rfl, hS, hl, fun _ => rfl⟩) (fun _ _ _ _ _ z => z)
  case F =>
    intro w mg fa h KX G hmg
    refine' K55.all_mk KX G hmg ?t1 ?t2 ?t3 ?t4 ?t5 ?t6 ?t7 ?t8 ?t9 ?t10 ?t11 ?t12 ?t13 ?t14 ?t15 ?t16 ?t17 ?t18 ?t19 ?t20 ?t21 ?t22 ?t23 ?t24 ?t25 ?t26 ?t27 ?t28 ?t29 ?t30 ?z0 ?z1 ?z2 ?z3 ?z4 ?z5 ?z6 ?z7 ?z8 ?z9 ?z10 ?z11 ?z12 ?y0 ?y1 
    (case t1 => refine' L2.top_mk ?a ?l ?c ?k; (case a => k_is); (case l => k_is); (case c => k_is); (case k => k_is))
    (case t2 => refine' L2.top_mk ?a ?l ?c ?k; (case a => k_is); (case l => k_is); (case c => k_is); (case k => k_is))
    (case t3 => refine' L2.top_mk ?a ?l ?c ?k; (case a => k_is); (case l => k_is); (case c => k_is); (case k => k_is))
    (case t4 => refine' L2.top_mk ?a ?l ?c ?k; (case a => k_is); (case l => k_is); (case c => k_is); (case k => k_is))
    (case t5 => refine' L2.top_mk ?a ?l ?c ?k; (case a => k_is); (case l => k_is); (case c => k_is); (case k => k_is))
    (case t6 => refine' L2.top_mk ?a ?l ?c ?k; (case a => k_is); (case l => k_is); (case c => k_is); (case k => k_is))
    (case t7 => refine' L2.top_mk ?a ?l ?c ?k; (case a => k_is); (case l => k_is); (case c => k_is); (case k => k_is))
    (case t8 => refine' L2.top_mk ?a ?l ?c ?k; (case a => k_is); (case l => k_is); (case c => k_is); (case k => k_is))
    (case t9 => refine' L2.top_mk ?a ?l ?c ?k; (case a => k_is); (case l => k_is); (case c => k_is); (case k => k_is))
    (case t10 => refine' L2.top_mk ?a ?l ?c ?k; (case a => k_is); (case l => k_is); (case c => k_is); (case k => k_is))
    (case t11 => refine' L2.top_mk ?a ?l ?c ?k; (case a => k_is); (case l => k_is); (case c => k_is); (case k => k_is))
    (case t12 => refine' L2.top_mk ?a ?l ?c ?k; (case a => k_is); (case l => k_is); (case c => k_is); (case k => k_is))
    (case t13 => refine' L2.top_mk ?a ?l ?c ?k; (case a => k_is); (case l => k_is); (case c => k_is); (case k => k_is))
    (case t14 => refine' L2.top_mk ?a ?l ?c ?k; (case a => k_is); (case l => k_is); (case c => k_is); (case k => k_is))
    (case t15 => refine' L2.top_mk ?a ?l ?c ?k; (case a => k_is); (case l => k_is); (case c => k_is); (case k => k_is))
    (case t16 => refine' L2.top_mk ?a ?l ?c ?k; (case a => k_is); (case l => k_is); (case c => k_is); (case k => k_is))
    (case t17 => refine' L2.top_mk ?a ?l ?c ?k; (case a => k_is); (case l => k_is); (case c => k_is); (case k => k_is))
    (case t18 => refine' L2.top_mk ?a ?l ?c ?k; (case a => k_is); (case l => k_is); (case c => k_is); (case k => k_is))
    (case t19 => refine' L2.top_mk ?a ?l ?c ?k; (case a => k_is); (case l => k_is); (case c => k_is); (case k => k_is))
    (case t20 => refine' L2.top_mk ?a ?l ?c ?k; (case a => k_is); (case l => k_is); (case c => k_is); (case k => k_is))
    (case t21 => refine' L2.top_mk ?a ?l ?c ?k; (case a => k_is); (case l => k_is); (case c => k_is); (case k => k_is))
    (case t22 => refine' L2.top_mk ?a ?l ?c ?k; (case a => k_is); (case l => k_is); (case c => k_is); (case k => k_is))
    (case t23 => refine' L2.top_mk ?a ?l ?c ?k; (case a => k_is); (case l => k_is); (case c => k_is); (case k => k_is))
    (case t24 => refine' L2.top_mk ?a ?l ?c ?k; (case a => k_is); (case l => k_is); (case c => k_is); (case k => k_is))
    (case t25 => refine' L2.top_mk ?a ?l ?c ?k; (case a => k_is); (case l => k_is); (case c => k_is); (case k => k_is))
    (case t26 => refine' L2.top_mk ?a ?l ?c ?k; (case a => k_is); (case l => k_is); (case c => k_is); (case k => k_is))
    (case t27 => refine' L2.top_mk ?a ?l ?c ?k; (case a => k_is); (case l => k_is); (case c => k_is); (case k => k_is))
    (case t28 => refine' L2.top_mk ?a ?l ?c ?k; (case a => k_is); (case l => k_is); (case c => k_is); (case k => k_is))
    (case t29 => refine' L2.top_mk ?a ?l ?c ?k; (case a => k_is); (case l => k_is); (case c => k_is); (case k => k_is))
    (case t30 => refine' L2.top_mk ?a ?l ?c ?k; (case a => k_is); (case l => k_is); (case c => k_is); (case k => k_is))
    (case z0 => k_is)
    (case z1 => k_is)
    (case z2 => k_is)
    (case z3 => k_is)
    (case z4 => k_is)
    (case z5 => k_is)
    (case z6 => k_is)
    (case z7 => k_is)
    (case z8 => k_is)
    (case z9 => k_is)
    (case z10 => k_is)
    (case z11 => k_is)
    (case z12 => k_is)
    (case y0 => k_is)
    (case y1 => k_is)
#print axioms PySem.Challenge.cw_raisedsums_k55_rows_met_evenly_holds
