import PyProof.Rows.All
import Wide.All
import OpenK.AllK
import Wide.FinOn
import Lean
import PyProof.EqAt
import PyProof.EqKinds
import PyProof.TupleCall
import PyProof.CompMap
import PyProof.ZipIter
import PyProof.TupleIter
import PyProof.ExcAttrAll.ValueError
import KE.KSortKey
import KE.KRevIter
import KE.KLam
import KE.KNestM
import PyProof.Rows.Range3
import PyProof.EnumMake
import PyProof.JoinWalk
import PyProof.Rows.StrSplitJoin
import PyProof.Rows.StrWeight2
import PyProof.StrOps2
import KE.KSortTup
import KE.KMinKey
import PyProof.ListRange
import PyProof.Rows.StrCountLaw
import PyProof.Rows.SetFrom
import PyProof.Rows.FactsT2
import PyProof.StrLawsTight
import PyProof.StrLawsChain
import PyProof.Rows.StrItems
import KE.KIntText
import PyProof.StrLawsFirst
import PyProof.StrBlockL
import PyProof.Rows.StrNews2
import PyProof.StrWalks
import PySem.Challenge.RW_tuningyard_k80_whole_steps_are_a_distanc
set_option Elab.async false
set_option linter.all false
set_option maxRecDepth 100000
namespace L2
open PySem PySem.Spec PyProof.Rows
noncomputable abbrev Key:=Sum Int Str
noncomputable def keyIs:Key→Value→Bool
 | .inl k,v=>Value.isInt k v
 | .inr x,v=>Value.isStrOf x v
noncomputable def keyH (w:World):Key→Int
 | .inl k=>hashInt k
 | .inr x=>hashStr w x
theorem keyIs_shape:∀ {k:Key} {v:Value},keyIs k v=true→(∃ i t,k=Sum.inl i∧v=Value.int i t)∨(∃ x t,k=Sum.inr x∧v=Value.str x t)
 | .inl i,v,h=>by
  obtain ⟨t,e⟩:=Value.isInt_shape (k:=i) (v:=v) h
  exact .inl ⟨i,t,rfl,e⟩
 | .inr x,v,h=>by
  obtain ⟨t,e⟩:=Value.isStrOf_shape (x:=x) (v:=v) h
  exact .inr ⟨x,t,rfl,e⟩
theorem keyIs_int (i:Int) (t:Tok):keyIs (.inl i) (.int i t)=true:=by simp [keyIs,Value.isInt]
theorem keyIs_str (x:Str) (t:Tok):keyIs (.inr x) (.str x t)=true:=by simp [keyIs,Value.isStrOf]
theorem key_ll (a b:Int):decide ((Sum.inl a:Key)=Sum.inl b)=(a == b):=by
 by_cases e:a=b
 ·subst e;simp
 ·have h:¬ (Sum.inl a:Key)=Sum.inl b:=fun q=>e (Sum.inl.inj q)
  rw [decide_eq_false h]
  exact (beq_eq_false_iff_ne.mpr e).symm
theorem key_rr (a b:Str):decide ((Sum.inr a:Key)=Sum.inr b)=decide (a=b):=by
 by_cases e:a=b
 ·subst e;simp
 ·have h:¬ (Sum.inr a:Key)=Sum.inr b:=fun q=>e (Sum.inr.inj q)
  rw [decide_eq_false h,decide_eq_false e]
theorem key_lr (a:Int) (b:Str):decide ((Sum.inl a:Key)=Sum.inr b)=false:=decide_eq_false (fun q=>nomatch q)
theorem key_rl (a:Str) (b:Int):decide ((Sum.inr a:Key)=Sum.inl b)=false:=decide_eq_false (fun q=>nomatch q)
noncomputable def mixKind (prog:Program) (w:World):PySem.KeyKind prog w Key where
 is:=keyIs
 hash:=keyH w
 inj:=fun v a b ha hb=>by
  rcases keyIs_shape ha with ⟨i,t,rfl,rfl⟩|⟨x,t,rfl,rfl⟩
  ·rcases keyIs_shape hb with ⟨j,u,rfl,e⟩|⟨y,u,rfl,e⟩
   ·injection e with e1 _;rw [e1]
   ·exact nomatch e
  ·rcases keyIs_shape hb with ⟨j,u,rfl,e⟩|⟨y,u,rfl,e⟩
   ·exact nomatch e
   ·injection e with e1 _;rw [e1]
 byValue:=fun k v h=>by
  rcases keyIs_shape h with ⟨i,t,rfl,rfl⟩|⟨x,t,rfl,rfl⟩ <;> rfl
 pyHash:=fun hv h=>by
  rcases keyIs_shape hv with ⟨i,t,rfl,rfl⟩|⟨x,t,rfl,rfl⟩
  ·exact wpAny_pyHash_int h
  ·exact wpAny_pyHash_str h
 eqBool:=fun hu hv h=>by
  rcases keyIs_shape hu with ⟨i,t,rfl,rfl⟩|⟨x,t,rfl,rfl⟩
  ·rcases keyIs_shape hv with ⟨j,u,rfl,rfl⟩|⟨y,u,rfl,rfl⟩
   ·rw [key_ll] at h;exact wpAny_eqBool_int h
   ·rw [key_lr] at h;exact SeqAt.EqAt.int_str i t y u _ _ _ _ h
  ·rcases keyIs_shape hv with ⟨j,u,rfl,rfl⟩|⟨y,u,rfl,rfl⟩
   ·rw [key_rl] at h;exact SeqAt.EqAt.str_int x t j u _ _ _ _ h
   ·rw [key_rr] at h;exact wpAny_eqBool_str h
 «strs»:=fun k x t v h=>by
  rcases keyIs_shape h with ⟨i,u,rfl,e⟩|⟨y,u,rfl,e⟩
  ·exact nomatch e
  ·injection e with e1 _
   subst e1
   cases v <;> rfl
theorem mixKind_int (prog:Program) (w:World) (i:Int) (t:Tok):(mixKind prog w).is (.inl i) (.int i t)=true:=keyIs_int i t
theorem mixKind_str (prog:Program) (w:World) (x:Str) (t:Tok):(mixKind prog w).is (.inr x) (.str x t)=true:=keyIs_str x t
end L2
namespace L2
open PySem PySem.Spec PyProof.Rows
inductive V where
 | non|bl (b:Bool)|int (i:Int)|str (x:Str)|byt (b:Array UInt8)|flt (b:UInt64)|ref (a:Addr)|ty (n:String)
 deriving DecidableEq
noncomputable def RelV:V→Value→Prop
 | .non,u=>u=Value.none
 | .bl b,u=>u=Value.bool b
 | .int i,u=>∃ t,u=Value.int i t
 | .str x,u=>∃ t,u=Value.str x t
 | .byt b,u=>∃ t,u=Value.bytes b t
 | .flt b,u=>∃ t,u=Value.float b t
 | .ref a,u=>u=Value.ref a
 | .ty n,u=>u=Value.type n
noncomputable abbrev Vals:List V→List Value→Prop:=Paired RelV
theorem Vals.length {xs:List V} {us:List Value} (r:Vals xs us):xs.length=us.length:=Paired.length r
theorem Vals.get:∀ {xs:List V} {us:List Value} {i:Nat} {x:V},Vals xs us→xs[i]?=some x→∃ u,us[i]?=some u∧RelV x u
 | _,_,_,_,.nil,e=>by simp at e
 | _,_,0,_,.cons r _,e=>by simp at e;subst e;exact⟨_,rfl,r⟩
 | _,_,i+1,x,.cons _ t,e=>by
  obtain ⟨u,h1,h2⟩:=Vals.get (i:=i) (x:=x) t (by simpa using e)
  exact⟨u,by simpa using h1,h2⟩
theorem Vals.set {x:V} {u:Value} (r:RelV x u):∀ {xs:List V} {us:List Value} (i:Nat),Vals xs us→Vals (xs.set i x) (us.set i u)
 | _,_,_,.nil=>.nil
 | _,_,0,.cons _ t=>.cons r t
 | _,_,i+1,.cons q t=>.cons q (Vals.set r i t)
theorem Vals.append:∀ {xs ys:List V} {us ws:List Value},Vals xs us→Vals ys ws→Vals (xs++ys) (us++ws)
 | _,_,_,_,.nil,s=>s
 | _,_,_,_,.cons r t,s=>.cons r (Vals.append t s)
theorem Vals.take:∀ {xs:List V} {us:List Value} (n:Nat),Vals xs us→Vals (xs.take n) (us.take n)
 | _,_,0,_=>.nil
 | _,_,_+1,.nil=>.nil
 | _,_,n+1,.cons r t=>.cons r (Vals.take n t)
theorem Vals.drop:∀ {xs:List V} {us:List Value} (n:Nat),Vals xs us→Vals (xs.drop n) (us.drop n)
 | _,_,0,r=>r
 | _,_,_+1,.nil=>.nil
 | _,_,n+1,.cons _ t=>Vals.drop n t
noncomputable def RelO:Option V→Option Value→Prop
 | some v,some u=>RelV v u
 | none,none=>True
 | _,_=>False
noncomputable def KV {κ:Type}:List (κ×V)→List (κ×Value)→Prop:=Paired fun (p:κ×V) (q:κ×Value)=>p.1=q.1∧RelV p.2 q.2
noncomputable def kV:Key→V
 | .inl i=>.int i
 | .inr x=>.str x
inductive HO where
 /-- a list -/
 | lst (xs:List V)
 /-- a tuple (never changes) -/
 | tup (xs:List V)
 /-- a dict whose keys are ints and texts;one whose keys are tuples of ints and texts (the empty one is both) -/
 | dK (kvs:List (Key×V))|dT (kvs:List (List Key×V))
 /-- a set of ints: its members,its size -/
 | set (S:Int→Bool) (n:Nat)
 /-- an instance of the class at C,its dict at dx,its attributes -/
 | ins (C dx:Addr) (fs:List (Str×V))
 /-- the dict of the instance at x -/
 | own (x:Addr)
 /-- the dict of an exception -/
 | xd (fs:List (Str×V))
 /-- a bound method,f of x -/
 | met (f x:Addr)
 /-- a range object lo,lo+1,.. below hi -/
 | rng (lo hi:Int)
 /-- a thing that is known to the object (the script;a dict while a loop walks it): read,never written while it is so -/
 | frz (o:Obj) (u:HO)
 /-- a code object's table -/
 | tbl (ps:Array Value)
 /-- any other thing,by what is true of its one object (a def of one's own: SetO a S n:=HO.ext fun h=>..) -/
 | ext (φ:Heap→Prop)
noncomputable abbrev Hp:=Addr→Option HO
noncomputable def upd (H:Hp) (a:Addr) (o:HO):Hp:=fun b=>if b=a then some o else H b
theorem upd_same {H:Hp} {a:Addr} {o:HO}:upd H a o a=some o:=by unfold upd;rw [if_pos rfl]
theorem upd_ne {H:Hp} {a b:Addr} {o:HO} (h:b≠a):upd H a o b=H b:=by unfold upd;rw [if_neg h]
theorem ne_of {H:Hp} {a b:Addr} {o u:HO} (h:H a=some o) (h':H b=some u) (d:o≠u):a≠b:=by
 intro e;subst e;rw [h] at h';exact d (Option.some.inj h')
theorem ne_of_none {H:Hp} {a b:Addr} {o:HO} (h:H a=some o) (h':H b=none):a≠b:=by
 intro e;subst e;rw [h] at h';cases h'
section
variable (P:Program) (w:World)
noncomputable def ObjOk (H:Hp) (h:Heap) (a:Addr):HO→Prop
 | .lst xs=>xs.length≤sizeLine∧∃ (its:List Value) (n:Nat),Vals xs its∧h.get? a=some { cls:=.type "list",data:=.seq its.toArray n }
 | .tup xs=>xs.length≤sizeLine∧∃ its:List Value,Vals xs its∧IsTup h a its.toArray
 | .dK kvs=>kvs.length≤sizeLine∧(a == sysModules)=false∧∃ vs,KV kvs vs∧h.DictOf (mixKind P w) a vs
 | .dT kvs=>kvs.length≤sizeLine∧(a == sysModules)=false∧∃ xs:List (List Key×Addr×Value),
   Paired (fun (p:List Key×V) (q:List Key×Addr×Value)=>p.1=q.1∧H q.2.1=some (.tup (p.1.map kV))∧RelV p.2 q.2.2) kvs xs ∧
   ∃ o es ep,h.get? a=some o∧o.ExactDict∧o.data=.dict es ep∧es.toList=xs.map (entryOfKey (tupleKind (mixKind P w)))∧(xs.map (·.1)).Nodup
 | .set S n=>h.SetOf (intKind P w) a S n
 | .ins C dx fs=>H dx=some (.own a)∧fs.length≤1000∧dx≠a∧h.get? a=some (PySem.W.instObj C dx) ∧
   ∃ mA,h.Ns1 dx mA∧(∀ f,RelO (fs.lookup f) (mA f))∧PySem.Within mA (fs.map (·.1))
 | .own _=>∃ o,h.get? a=some o
 | .xd fs=>∃ mA,h.Ns1 a mA∧∀ f,RelO (fs.lookup f) (mA f)
 | .rng lo hi=>∃ t u v,h.get? a=some { cls:=.type "range",data:=.fields #[.int lo t,.int hi u,.int 1 v] }
 | .frz o u=>h.get? a=some o∧ObjOk H h a u
 | .tbl ps=>h.get? a=some { cls:=.none,data:=.fields ps }
 | .met f x=>h.get? a=some (PySem.W.methodObj (.ref f) (.ref x))
 | .ext φ=>φ h∧(∃ o,h.get? a=some o)∧∀ h1 h2:Heap,φ h1→(∀ o,h1.get? a=some o→h2.get? a=some o)→φ h2
noncomputable def HOk (H:Hp) (h:Heap):Prop:=∀ a o,H a=some o→ObjOk P w H h a o
end
section
variable {P:Program} {w:World} {H H':Hp} {h h':Heap} {a:Addr} {o:HO}
theorem ObjOk.lt (x:ObjOk P w H h a o):a<h.objs.size:=by
 cases o with
 | lst xs=>obtain ⟨_,_,_,_,e⟩:=x;exact Heap.lt_size e
 | tup xs=>obtain ⟨_,_,_,p⟩:=x;exact p.lt
 | dK kvs=>obtain ⟨_,_,_,_,o,_,_,e,_⟩:=x;exact Heap.lt_size e
 | dT kvs=>obtain ⟨_,_,_,_,o,_,_,e,_⟩:=x;exact Heap.lt_size e
 | set S n=>obtain ⟨o,_,_,_,e,_⟩:=x;exact Heap.lt_size e
 | ins C dx fs=>obtain ⟨_,_,_,e,_⟩:=x;exact Heap.lt_size e
 | own y=>obtain ⟨_,e⟩:=x;exact Heap.lt_size e
 | xd fs=>obtain ⟨_,⟨_,_,_,e,_⟩,_⟩:=x;exact Heap.lt_size e
 | rng lo hi=>obtain ⟨_,_,_,e⟩:=x;exact Heap.lt_size e
 | frz ob u=>obtain ⟨e,_⟩:=x;exact Heap.lt_size e
 | tbl ps=>exact Heap.lt_size (show h.get? a=some _ from x)
 | met f y=>exact Heap.lt_size (show h.get? a=some _ from x)
 | ext φ=>obtain ⟨_,⟨_,e⟩,_⟩:=x;exact Heap.lt_size e
theorem Paired.mapP {α β:Type} {F G:α→β→Prop}:∀ {l₁:List α} {l₂:List β},Paired F l₁ l₂→(∀ a b,F a b→G a b)→Paired G l₁ l₂
 | _,_,.nil,_=>.nil
 | _,_,.cons r t,f=>.cons (f _ _ r) (Paired.mapP t f)
theorem ObjOk.stay (x:ObjOk P w H h a o) (k:∀ b u,(b=a∨H b=some (.own a))→h.get? b=some u→h'.get? b=some u)
  (ho:∀ b,H b=some (.own a)→H' b=some (.own a)) (ht:∀ b xs,H b=some (.tup xs)→H' b=some (.tup xs)):ObjOk P w H' h' a o:=by
 induction o with
 | lst xs=>obtain ⟨z,its,n,r,e⟩:=x;exact⟨z,its,n,r,k _ _ (.inl rfl) e⟩
 | tup xs=>obtain ⟨z,its,r,ob,e,c⟩:=x;exact⟨z,its,r,ob,k _ _ (.inl rfl) e,c⟩
 | dK kvs=>obtain ⟨z,y,vs,r,ob,es,ep,e,c⟩:=x;exact⟨z,y,vs,r,ob,es,ep,k _ _ (.inl rfl) e,c⟩
 | dT kvs =>
  obtain ⟨z,y,xs,r,ob,es,ep,e,c⟩:=x
  exact⟨z,y,xs,Paired.mapP r fun p q z=>⟨z.1,ht _ _ z.2.1,z.2.2⟩,ob,es,ep,k _ _ (.inl rfl) e,c⟩
 | set S n=>obtain ⟨ob,es,ep,t,e,c⟩:=x;exact⟨ob,es,ep,t,k _ _ (.inl rfl) e,c⟩
 | ins C dx fs =>
  obtain ⟨d,z,ne,e,mA,⟨od,es,ep,e2,c⟩,r⟩:=x
  exact⟨ho _ d,z,ne,k _ _ (.inl rfl) e,mA,⟨od,es,ep,k _ _ (.inr d) e2,c⟩,r⟩
 | own y=>obtain ⟨ob,e⟩:=x;exact⟨ob,k _ _ (.inl rfl) e⟩
 | xd fs=>obtain ⟨mA,⟨od,es,ep,e,c⟩,r⟩:=x;exact⟨mA,⟨od,es,ep,k _ _ (.inl rfl) e,c⟩,r⟩
 | rng lo hi=>obtain ⟨t,u,v,e⟩:=x;exact⟨t,u,v,k _ _ (.inl rfl) e⟩
 | frz ob u ih=>obtain ⟨e,q⟩:=x;exact⟨k _ _ (.inl rfl) e,ih q⟩
 | tbl ps =>
  have e:h.get? a=some { cls:=.none,data:=.fields ps }:=x
  show h'.get? a=some { cls:=.none,data:=.fields ps }
  exact k a _ (.inl rfl) e
 | met f y =>
  have e:h.get? a=some (PySem.W.methodObj (.ref f) (.ref y)):=x
  show h'.get? a=some (PySem.W.methodObj (.ref f) (.ref y))
  exact k a _ (.inl rfl) e
 | ext φ=>obtain ⟨p,⟨o,e⟩,st⟩:=x;exact⟨st _ _ p fun o q=>k _ _ (.inl rfl) q,⟨o,k _ _ (.inl rfl) e⟩,st⟩
theorem HOk.lt (x:HOk P w H h) (e:H a=some o):a<h.objs.size:=(x a o e).lt
theorem HOk.fresh (x:HOk P w H h) (e:h.objs.size≤a):H a=none:=by
 cases q:H a with
 | none=>rfl
 | some u=>exact absurd (Nat.lt_of_lt_of_le (x.lt q) e) (Nat.lt_irrefl _)
theorem HOk.kept (x:HOk P w H h) (k:∀ b u,h.get? b=some u→h'.get? b=some u):HOk P w H h':=fun a o e =>
 (x a o e).stay (fun b u _ q=>k b u q) (fun _ q=>q) fun _ _ q=>q
theorem HOk.laid (x:HOk P w H h) (k:∀ b u,h.get? b=some u→h'.get? b=some u) (hp:h.objs.size≤a) (new:ObjOk P w (upd H a o) h' a o):HOk P w (upd H a o) h':=fun b u e=>by
 have hn:=x.fresh hp
 by_cases hb:b=a
 ·subst hb;rw [upd_same] at e;cases e;exact new
 ·rw [upd_ne hb] at e
  exact (x b u e).stay (fun c v _ q=>k c v q) (fun c q=>by rw [upd_ne (ne_of_none q hn)];exact q) fun c xs q=>by rw [upd_ne (ne_of_none q hn)];exact q
end
noncomputable def Rd (H:Hp) (a:Addr) (u:HO):Prop:=H a=some u∨∃ o,H a=some (.frz o u)
theorem Rd.ok {P:Program} {w:World} {H:Hp} {h:Heap} {a:Addr} {u:HO} (r:Rd H a u) (x:HOk P w H h):ObjOk P w H h a u:=by
 rcases r with r|⟨o,r⟩
 ·exact x a u r
 ·obtain ⟨_,q⟩:=x a _ r
  exact q
noncomputable def Mut:Option HO→Prop
 | some (.lst _)=>True
 | some (.dK _)=>True
 | some (.dT _)=>True
 | some (.set _ _)=>True
 | some (.ins _ _ _)=>True
 | some (.ext _)=>True
 | _=>False
section
variable {P:Program} {w:World} {H:Hp} {h h':Heap} {x e:Addr} {o':HO}
theorem HOk.write (ok:HOk P w H h) (mu:Mut (H x)) (he:e=x∨H e=some (.own x)) (k:∀ b u,b≠e→h.get? b=some u→h'.get? b=some u) (heo:∃ u,h'.get? e=some u)
  (new:ObjOk P w (upd H x o') h' x o'):HOk P w (upd H x o') h':=fun b u q=>by
 have nown:∀ c y,H c=some (.own y)→c≠x:=fun c y r z=>by subst z;rw [r] at mu;exact mu
 have ntup:∀ c xs,H c=some (.tup xs)→c≠x:=fun c xs r z=>by subst z;rw [r] at mu;exact mu
 by_cases hb:b=x
 ·subst hb;rw [upd_same] at q;cases q;exact new
 ·rw [upd_ne hb] at q
  by_cases hbe:b=e
  ·have q':H b=some (.own x):=by
    rcases he with z|z
    ·exact absurd (hbe.trans z) hb
    ·rw [hbe];exact z
   rw [q] at q';cases q'
   obtain ⟨v,hv⟩:=heo
   exact⟨v,by rw [hbe];exact hv⟩
  ·refine (ok b u q).stay (fun c v hc r=>k c v ?_ r) (fun c r=>by rw [upd_ne (nown c b r)];exact r) fun c xs r=>by rw [upd_ne (ntup c xs r)];exact r
   rcases hc with rfl|hc
   ·exact hbe
   ·rintro rfl
    rcases he with z|z
    ·exact nown c b hc z
    ·rw [hc] at z;cases z;exact hb rfl
end
structure Un (fs ex:List Addr) (H H':Hp) (h h':Heap):Prop where
 keep:∀ b o,h.get? b=some o→H b=none→b∉fs→b∉ex→h'.get? b=some o
 slot:∀ b o,h.get? b=some o→H b=none→b∈fs→b∉ex→∃ sl,h'.get? b=some { o with slots:=sl }
 free:∀ b o,h.get? b=some o→H b=none→b∉ex→H' b=none
 there:∀ b o,h.get? b=some o→b∉ex→∃ o',h'.get? b=some o'
 tups:∀ b xs,H b=some (.tup xs)→H' b=some (.tup xs)
 frzs:∀ b o u,H b=some (.frz o u)→H' b=some (.frz o u)
 tbls:∀ b ps,H b=some (.tbl ps)→∃ more,H' b=some (.tbl (ps++more))
section
variable {fs fs' ex ex':List Addr} {H H1 H2:Hp} {h h1 h2 h':Heap} {a x e:Addr} {o:HO}
theorem Un.any (u:Un fs ex H H1 h h1) {b:Addr} {ob:Obj} (q:h.get? b=some ob) (n:H b=none) (hx:b∉ex):∃ sl,h1.get? b=some { ob with slots:=sl }:=by
 by_cases hb:b∈fs
 ·exact u.slot b ob q n hb hx
 ·exact⟨ob.slots,u.keep b ob q n hb hx⟩
theorem Un.kept (k:∀ b u,h.get? b=some u→h'.get? b=some u):Un fs ex H H h h' :=
 ⟨fun b ob q _ _ _=>k b ob q,fun b ob q _ _ _=>⟨ob.slots,k b ob q⟩,fun _ _ _ n _=>n,fun b ob q _=>⟨ob,k b ob q⟩,fun _ _ q=>q,fun _ _ _ q=>q,fun _ ps q=>⟨#[],by rw [q];simp⟩⟩
theorem Un.refl:Un fs ex H H h h:=Un.kept fun _ _ q=>q
theorem Un.laid (k:∀ b u,h.get? b=some u→h'.get? b=some u) (hp:h.objs.size≤a) (hn:H a=none):Un fs ex H (upd H a o) h h' where
 keep:=fun b u q _ _ _=>k b u q
 slot:=fun b u q _ _ _=>⟨u.slots,k b u q⟩
 free:=fun b u q n _=>by rw [upd_ne (Nat.ne_of_lt (Nat.lt_of_lt_of_le (Heap.lt_size q) hp))];exact n
 there:=fun b u q _=>⟨u,k b u q⟩
 tups:=fun b xs q=>by rw [upd_ne (ne_of_none q hn)];exact q
 frzs:=fun b u xs q=>by rw [upd_ne (ne_of_none q hn)];exact q
 tbls:=fun b ps q=>⟨#[],by rw [upd_ne (ne_of_none q hn),q];simp⟩
theorem Un.write (mu:Mut (H x)) (he:e=x∨H e=some (.own x)) (k:∀ b u,b≠e→h.get? b=some u→h'.get? b=some u) (heo:∃ u,h'.get? e=some u):Un fs ex H (upd H x o) h h':=by
 have hx:∀ b,H b=none→b≠x:=fun b n z=>by subst z;rw [n] at mu;exact mu
 have hb:∀ b,H b=none→b≠e:=fun b n z=>by
  subst z
  rcases he with r|r
  ·exact hx b n r
  ·rw [n] at r;cases r
 have hm:∀ b u,H b=some u→¬ Mut (some u)→b≠x:=fun b u q nm z=>by subst z;rw [q] at mu;exact nm mu
 refine⟨fun b u q n _ _=>k b u (hb b n) q,fun b u q n _ _=>⟨u.slots,k b u (hb b n) q⟩,fun b u q n _=>by rw [upd_ne (hx b n)];exact n,fun b u q _=>?_,
  fun b xs q=>by rw [upd_ne (hm b _ q fun z=>z)];exact q,fun b u xs q=>by rw [upd_ne (hm b _ q fun z=>z)];exact q,fun b ps q=>⟨#[],by rw [upd_ne (hm b _ q fun z=>z),q];simp⟩⟩
 by_cases hbe:b=e
 ·subst hbe;exact heo
 ·exact⟨u,k b u hbe q⟩
end
noncomputable def trk (h:Heap) (H:Hp):List Addr:=(List.range h.objs.size).filter fun a=>(H a).isSome
noncomputable def hidT (h:Heap) (H:Hp):Heap:=PySem.W.hideAll h (trk h H)
theorem hidT_size (h:Heap) (H:Hp):(hidT h H).objs.size=h.objs.size:=PySem.W.hideAll_size _ _
theorem hidT_get {h:Heap} {H:Hp} {b:Addr} {o:Obj} (e:h.get? b=some o) (n:H b=none):(hidT h H).get? b=some o :=
 PySem.W.hideAll_get _ e fun hm=>by
  have q:(H b).isSome=true:=(List.mem_filter.mp hm).2
  rw [n] at q;simp at q
theorem of_hidT {h:Heap} {H:Hp} {b:Addr} {o:Obj} (e:(hidT h H).get? b=some o):h.get? b=some o∧H b=none:=by
 have e':h.get? b=some o:=PySem.W.of_hideAll (trk h H) e
 refine⟨e',?_⟩
 cases q:H b with
 | none=>rfl
 | some x =>
  have hm:b∈trk h H:=List.mem_filter.mpr ⟨List.mem_range.mpr (Heap.lt_size e'),by simp [q]⟩
  have z:(hidT h H).get? b=none:=PySem.W.hideAll_none (trk h H) hm
  rw [z] at e;cases e
noncomputable def allNews (g h:Heap) (L:Addr):List (Addr×Obj):=(List.range h.objs.size).filterMap fun a=>if a=L∨(g.get? a).isSome=true then none else (h.get? a).map fun o=>(a,o)
noncomputable def rest (g h:Heap) (L d:Addr):List (Addr×Obj):=(allNews g h L).filter fun p=>decide (p.1≠d)
end L2
namespace L2
open PySem PySem.Spec PyProof.Rows
structure Mod (K:PySem.W.Frag) (mg:Str→Option Value) (base:Heap):Prop where
 kin:K.In base
 glob:base.Ns mainGlobals mg
 blt:∃ mb,base.Ns builtinsNs mb∧∀ x:Str,x≠"__name__"→mb x=bootBuiltins x
 nolimit:base.NoLimit
structure Cx where
 prog:Program
 w:World
 K:PySem.W.Frag
 mg:Str→Option Value
 base:Heap
 A:Around
 N:List Str
 s₀:Shared
 H₀:Hp
 env:Env
 outer:List Env
 stack:List Env
 ex:List Addr
 fn:Str→Bool
 calm:Bool
 pn:List (Addr×Obj)
 xe:Value→Shared→Prop
noncomputable def frs (l:List Env):List Addr:=l.filterMap (·.frame)
noncomputable abbrev Cx.fs (X:Cx):List Addr:=frs X.outer
noncomputable def Vis (sc:Scope) (x:Str):Prop:=sc.names.lookup x=some .local∨sc.names.lookup x=some .cell∨sc.names.lookup x=some .free
noncomputable def Loc (sc:Scope) (x:Str):Prop:=sc.names.lookup x=some .local∨sc.names.lookup x=some .cell
noncomputable def Look (env:Env) (h:Heap) (m:Str→Option Value) (x:Str) (u:Value):Prop :=
 (env.kindOf x=some .local∧m x=some u)∨((env.kindOf x=some .cell∨env.kindOf x=some .free)∧∃ c,env.cells.lookup x=some c∧h.IsCell c (some u))
structure Cx.Ok (X:Cx):Prop where
 mod:Mod X.K X.mg X.base
 kind:X.env.scope.kind=.function
 glob:X.env.globals=mainGlobals
 blt:X.env.builtins=builtinsNs
 above:X.s₀.heap.objs.size≤X.env.locals
 inj:∀ x y c,X.env.cells.lookup x=some c→X.env.cells.lookup y=some c→x=y
 has:∀ x,(X.env.kindOf x=some .cell∨X.env.kindOf x=some .free)→∃ c,X.env.cells.lookup x=some c
 cab:∀ x c,X.fn x=true→X.env.cells.lookup x=some c→X.s₀.heap.objs.size≤c
 hd:X.calm=true→X.A.handled=none
 frames:X.A.frames=some X.stack
 stk:X.stack=X.outer∨(X.stack=X.env::X.outer∧X.env.frame=some X.env.locals)
 exf:∀ b∈X.ex,b≠X.env.locals∧∀ x c,X.env.cells.lookup x=some c→c≠b
 bs:∀ b o,X.base.get? b=some o→X.s₀.heap.get? b=some o∧X.H₀ b=none
 bsz:X.base.objs.size≤X.s₀.heap.objs.size
 noex:∀ b o,X.base.get? b=some o→b∉X.ex
 exfs:∀ b∈X.ex,b∉X.fs
 funs:X.s₀.heap.FunFrames X.base X.outer
 frf:∀ b∈X.fs,X.H₀ b=none
structure Inv (X:Cx) (pins:List (Addr×Obj)) (σ:List (Option V)) (H:Hp) (s:Shared):Prop where
 ok:X.Ok
 os:s.os=X.s₀.os
 bare:AllBare s.gens
 base:Un X.fs X.ex X.H₀ H X.s₀.heap s.heap
 loc:∃ m,s.heap.Ns X.env.locals m∧∀ (i:Nat) (x:Str) (v:V),X.N[i]?=some x→σ[i]?=some (some v)→Vis X.env.scope x→∃ u,RelV v u∧Look X.env s.heap m x u
 cell:∀ x c,X.env.cells.lookup x=some c→∃ v,s.heap.IsCell c v
 free:H X.env.locals=none
 freeC:∀ x c,X.env.cells.lookup x=some c→H c=none
 pin:∀ p∈X.pn++pins,s.heap.get? p.1=some p.2∧H p.1=none∧p.1≠X.env.locals∧p.1∉X.fs∧∀ v,p.2.data≠.cell v
 hok:HOk X.prog X.w H s.heap
 len:σ.length=X.N.length
section
variable {X:Cx} {pins:List (Addr×Obj)} {σ:List (Option V)} {H H':Hp} {s:Shared} {h':Heap}
theorem Cx.Ok.nofr (ok:X.Ok) {b:Addr} {o:Obj} (e:X.base.get? b=some o):b∉X.fs:=fun hb=>by
 have:=(ok.funs.mem hb).1
 rw [e] at this;cases this
theorem Inv.bs (I:Inv X pins σ H s):∀ b o,X.base.get? b=some o→s.heap.get? b=some o∧H b=none:=fun b o e =>
 ⟨I.base.keep b o (I.ok.bs b o e).1 (I.ok.bs b o e).2 (I.ok.nofr e) (I.ok.noex b o e),I.base.free b o (I.ok.bs b o e).1 (I.ok.bs b o e).2 (I.ok.noex b o e)⟩
theorem Inv.bk (I:Inv X pins σ H s):∀ b o,X.base.get? b=some o→s.heap.get? b=some o:=fun b o e=>(I.bs b o e).1
theorem Inv.mod (I:Inv X pins σ H s):Mod X.K X.mg X.base:=I.ok.mod
theorem Inv.kIn (I:Inv X pins σ H s):X.K.In s.heap:=I.ok.mod.kin.keeps I.bk
theorem Inv.nolimit (I:Inv X pins σ H s):s.heap.NoLimit:=I.ok.mod.nolimit.keeps I.bk
theorem Inv.lt (I:Inv X pins σ H s):X.env.locals<s.heap.objs.size:=let ⟨_,hn,_⟩:=I.loc;hn.lt
theorem Inv.sz (I:Inv X pins σ H s):X.s₀.heap.objs.size≤s.heap.objs.size:=Nat.le_trans I.ok.above (Nat.le_of_lt I.lt)
theorem Inv.nofs (I:Inv X pins σ H s) {a:Addr} (h:s.heap.objs.size≤a):a∉X.fs:=fun hb=>by
 obtain ⟨_,o,ho,_⟩:=I.ok.funs.mem hb
 exact absurd (Nat.lt_of_lt_of_le (Heap.lt_size ho) (Nat.le_trans I.sz h)) (Nat.lt_irrefl _)
theorem Inv.cne (I:Inv X pins σ H s):∀ x c,X.env.cells.lookup x=some c→c≠X.env.locals:=fun x c e z=>by
 obtain ⟨v,o,ho,hd⟩:=I.cell x c e
 obtain ⟨m,⟨o',es,ep,ho',hd',_⟩,_⟩:=I.loc
 rw [z,ho'] at ho;cases ho;rw [hd'] at hd;cases hd
theorem Inv.funs (I:Inv X pins σ H s):s.heap.FunFrames X.base X.outer:=by
 have all:∀ (l:List Env),(∀ b∈frs l,b∈X.fs)→X.s₀.heap.FunFrames X.base l→s.heap.FunFrames X.base l:=by
  intro l
  induction l with
  | nil=>intro _ _;trivial
  | cons env r ih =>
   intro hs hl
   obtain ⟨hk,⟨L,o,hf,hn,ho,hd⟩,hr⟩:=hl
   have hL:L∈X.fs:=hs L (by unfold frs;rw [List.filterMap_cons,hf];exact List.mem_cons_self)
   obtain ⟨sl,e⟩:=I.base.slot L o ho (I.ok.frf L hL) hL fun z=>I.ok.exfs L z hL
   exact⟨hk,⟨L,_,hf,hn,e,hd⟩,ih (fun b hb=>hs b (by unfold frs;rw [List.filterMap_cons,hf];exact List.mem_cons_of_mem _ hb)) hr⟩
 exact all X.outer (fun _ hb=>hb) I.ok.funs
theorem Inv.stack (I:Inv X pins σ H s):s.heap.FunFrames X.base X.stack:=by
 rcases I.ok.stk with e|⟨e,hf⟩
 ·rw [e];exact I.funs
 ·rw [e]
  obtain ⟨m,hn,_⟩:=I.loc
  refine .cons (by rw [I.ok.kind];decide) hf hn ?_ I.funs
  exact Heap.get?_none_of_le (Nat.le_trans I.ok.bsz I.ok.above)
theorem Inv.stkSub (I:Inv X pins σ H s):∀ b∈frs X.stack,b∈X.env.locals::X.fs:=fun b hb=>by
 rcases I.ok.stk with e|⟨e,hf⟩
 ·rw [e] at hb;exact List.mem_cons_of_mem _ hb
 ·rw [e] at hb
  unfold frs at hb
  rw [List.filterMap_cons,hf] at hb
  exact hb
theorem Inv.stkFree (I:Inv X pins σ H s):∀ b∈frs X.stack,H b=none:=fun b hb=>by
 rcases List.mem_cons.mp (I.stkSub b hb) with e|hb
 ·rw [e];exact I.free
 ·obtain ⟨_,o,ho,_⟩:=I.ok.funs.mem hb
  exact I.base.free b o ho (I.ok.frf b hb) fun z=>I.ok.exfs b z hb
theorem Inv.step {g':Array GenState} {t':Nat} {d':Drawn} {ch:List Addr} (I:Inv X pins σ H s)
  (hch:∀ b∈ch,(b∈X.ex∨X.s₀.heap.objs.size≤b)∧b≠X.env.locals∧(∀ x c,X.env.cells.lookup x=some c→c≠b)∧∀ p∈X.pn++pins,p.1≠b)
  (keep:∀ b o,b≠X.env.locals→b∉X.fs→b∉ch→s.heap.get? b=some o→H b=none→h'.get? b=some o)
  (slot:∀ b o,b≠X.env.locals→b∈X.fs→b∉ch→s.heap.get? b=some o→H b=none→∃ sl,h'.get? b=some { o with slots:=sl }) (free:∀ b o,b∉ch→s.heap.get? b=some o→H b=none→H' b=none)
  (there:∀ b o,b∉ch→s.heap.get? b=some o→∃ o',h'.get? b=some o')
  (tups:∀ b xs,H b=some (.tup xs)→H' b=some (.tup xs)) (frzs:∀ b o u,H b=some (.frz o u)→H' b=some (.frz o u)) (tbls:∀ b ps,H b=some (.tbl ps)→∃ more,H' b=some (.tbl (ps++more)))
  (ns:∀ m,s.heap.Ns X.env.locals m→h'.Ns X.env.locals m) (hok:HOk X.prog X.w H' h') (hg:AllBare g') :
  Inv X pins σ H' { s with heap:=h',gens:=g',drawn:=d',toks:=t' }:=by
 have neL:∀ b o,X.s₀.heap.get? b=some o→b≠X.env.locals:=fun b o e=>Nat.ne_of_lt (Nat.lt_of_lt_of_le (Heap.lt_size e) I.ok.above)
 have neC:∀ b o,X.s₀.heap.get? b=some o→b∉X.ex→b∉ch:=fun b o e hx hb=>by
  rcases (hch b hb).1 with z|z
  ·exact hx z
  ·exact absurd (Nat.lt_of_lt_of_le (Heap.lt_size e) z) (Nat.lt_irrefl _)
 have cellK:∀ x c,X.env.cells.lookup x=some c→∀ v,s.heap.IsCell c v→h'.IsCell c v:=fun x c e v ⟨o,ho,hd⟩=>by
  have nch:c∉ch:=fun z=>(hch c z).2.2.1 x c e rfl
  by_cases hc:c∈X.fs
  ·obtain ⟨sl,q⟩:=slot c o (I.cne x c e) hc nch ho (I.freeC x c e)
   exact⟨_,q,hd⟩
  ·exact⟨o,keep c o (I.cne x c e) hc nch ho (I.freeC x c e),hd⟩
 refine⟨I.ok,I.os,hg,⟨fun b o e n hb hx=>?_,fun b o e n hb hx=>?_,fun b o e n hx=>?_,fun b o e hx=>?_,fun b xs e=>tups b xs (I.base.tups b xs e),fun b o xs e=>frzs b o xs (I.base.frzs b o xs e),fun b ps e=>?_⟩,?_,fun x c e=>?_,?_,fun x c e=>?_,fun p hp=>?_,hok,I.len⟩
 ·exact keep b o (neL b o e) hb (neC b o e hx) (I.base.keep b o e n hb hx) (I.base.free b o e n hx)
 ·obtain ⟨sl,e1⟩:=I.base.slot b o e n hb hx
  obtain ⟨sl',e2⟩:=slot b _ (neL b o e) hb (neC b o e hx) e1 (I.base.free b o e n hx)
  exact⟨sl',e2⟩
 ·obtain ⟨o',e1⟩:=I.base.there b o e hx
  exact free b o' (neC b o e hx) e1 (I.base.free b o e n hx)
 ·obtain ⟨o',e1⟩:=I.base.there b o e hx
  exact there b o' (neC b o e hx) e1
 ·obtain ⟨m1,e1⟩:=I.base.tbls b ps e
  obtain ⟨m2,e2⟩:=tbls b _ e1
  exact⟨m1++m2,by rw [e2,Array.append_assoc]⟩
 ·obtain ⟨m,hn,hl⟩:=I.loc
  refine⟨m,ns m hn,fun i x v e1 e2 e3=>?_⟩
  obtain ⟨u,r,l⟩:=hl i x v e1 e2 e3
  refine⟨u,r,?_⟩
  rcases l with l|⟨k,c,e,z⟩
  ·exact .inl l
  ·exact .inr ⟨k,c,e,cellK x c e _ z⟩
 ·obtain ⟨v,z⟩:=I.cell x c e
  exact⟨v,cellK x c e v z⟩
 ·obtain ⟨m,⟨o,_,_,ho,_⟩,_⟩:=I.loc
  exact free _ o (fun z=>(hch _ z).2.1 rfl) ho I.free
 ·obtain ⟨v,o,ho,hd⟩:=I.cell x c e
  exact free c o (fun z=>(hch c z).2.2.1 x c e rfl) ho (I.freeC x c e)
 ·obtain ⟨e,n,ne,nf,d⟩:=I.pin p hp
  have nch:p.1∉ch:=fun z=>(hch p.1 z).2.2.2 p hp rfl
  exact⟨keep p.1 p.2 ne nf nch e n,free p.1 p.2 nch e n,ne,nf,d⟩
theorem Inv.un {t':Nat} (I:Inv X pins σ H s) (u:Un X.fs [] H H' s.heap h') (hok:HOk X.prog X.w H' h'):Inv X pins σ H' { s with heap:=h',toks:=t' }:=by
 obtain ⟨m,⟨o,es,ep,ho,r⟩,_⟩:=id I.loc
 obtain ⟨sl,hL⟩:=u.any ho I.free (by simp)
 exact I.step (g':=s.gens) (d':=s.drawn) (ch:=[]) (fun _ z=>nomatch z) (fun b o _ hb _ e n=>u.keep b o e n hb (by simp)) (fun b o _ hb _ e n=>u.slot b o e n hb (by simp)) (fun b o _ e n=>u.free b o e n (by simp)) (fun b o _ e=>u.there b o e (by simp)) u.tups u.frzs u.tbls (fun m' hm=>by
  obtain ⟨o',es',ep',ho',r'⟩:=hm
  rw [ho] at ho';cases ho'
  exact⟨_,es',ep',hL,r'⟩) hok I.bare
theorem Inv.call {g':Array GenState} {t':Nat} {d':Drawn} {ch:List Addr} (I:Inv X pins σ H s) (u:Un (frs X.stack) ch H H' s.heap h') (hok:HOk X.prog X.w H' h') (hg:AllBare g')
  (hch:∀ b∈ch,(b∈X.ex∨X.s₀.heap.objs.size≤b)∧b≠X.env.locals∧(∀ x c,X.env.cells.lookup x=some c→c≠b)∧∀ p∈X.pn++pins,p.1≠b) :
  Inv X pins σ H' { s with heap:=h',gens:=g',drawn:=d',toks:=t' }:=by
 obtain ⟨m,⟨o,es,ep,ho,r⟩,_⟩:=id I.loc
 obtain ⟨sl,hL⟩:=u.any ho I.free fun z=>(hch _ z).2.1 rfl
 exact I.step (ch:=ch) hch (fun b o hL hb hc e n=>u.keep b o e n (fun z=>(List.mem_cons.mp (I.stkSub b z)).elim hL hb) hc) (fun b o _ _ hc e n=>u.any e n hc) (fun b o hc e n=>u.free b o e n hc) (fun b o hc e=>u.there b o e hc) u.tups u.frzs u.tbls (fun m' hm=>by
  obtain ⟨o',es',ep',ho',r'⟩:=hm
  rw [ho] at ho';cases ho'
  exact⟨_,es',ep',hL,r'⟩) hok hg
theorem Inv.turned {t':Nat} {it:Addr} (I:Inv X pins σ H s) (k:∀ b o,b≠it→s.heap.get? b=some o→h'.get? b=some o) (hn:H it=none) (hL:it≠X.env.locals)
  (h1:it∈X.ex∨X.s₀.heap.objs.size≤it) (h2:∀ x c,X.env.cells.lookup x=some c→c≠it) (h3:∀ p∈X.pn++pins,p.1≠it):Inv X pins σ H { s with heap:=h',toks:=t' }:=by
 have nit:∀ b u,H b=some u→b≠it:=fun b u e z=>by rw [z,hn] at e;cases e
 refine I.step (g':=s.gens) (d':=s.drawn) (ch:=[it]) (fun b hb=>?_) (fun b o _ _ hc e _=>k b o (fun z=>hc (by simp [z])) e) (fun b o _ _ hc e _=>⟨o.slots,k b o (fun z=>hc (by simp [z])) e⟩) (fun _ _ _ _ n=>n)
  (fun b o hc e=>⟨o,k b o (fun z=>hc (by simp [z])) e⟩) (fun _ _ e=>e) (fun _ _ _ e=>e) (fun b ps e=>⟨#[],by rw [e];simp⟩) (fun m hm=>?_) (fun b u e=>?_) I.bare
 ·have e:b=it:=by simpa using hb
  subst e
  exact⟨h1,hL,h2,h3⟩
 ·obtain ⟨o,es,ep,ho,r⟩:=hm
  exact⟨o,es,ep,k _ o (Ne.symm hL) ho,r⟩
 ·refine (I.hok b u e).stay (fun c v hc q=>k c v ?_ q) (fun _ q=>q) fun _ _ q=>q
  rcases hc with z|z
  ·rw [z];exact nit b u e
  ·exact nit c _ z
theorem Inv.tok (I:Inv X pins σ H s) (t:Nat):Inv X pins σ H { s with toks:=t }:=I.un (h':=s.heap) (t':=t) Un.refl I.hok
theorem Inv.kept {t':Nat} (I:Inv X pins σ H s) (k:∀ b u,s.heap.get? b=some u→h'.get? b=some u):Inv X pins σ H { s with heap:=h',toks:=t' }:=I.un (Un.kept k) (I.hok.kept k)
theorem Inv.laid {a:Addr} {o:HO} {t':Nat} (I:Inv X pins σ H s) (k:∀ b u,s.heap.get? b=some u→h'.get? b=some u) (hp:s.heap.objs.size≤a) (new:ObjOk X.prog X.w (upd H a o) h' a o) :
  Inv X pins σ (upd H a o) { s with heap:=h',toks:=t' }:=I.un (Un.laid k hp (I.hok.fresh hp)) (I.hok.laid k hp new)
theorem Inv.write {x e:Addr} {o:HO} {t':Nat} (I:Inv X pins σ H s) (mu:Mut (H x)) (he:e=x∨H e=some (.own x)) (k:∀ b u,b≠e→s.heap.get? b=some u→h'.get? b=some u) (heo:∃ u,h'.get? e=some u)
  (new:ObjOk X.prog X.w (upd H x o) h' x o):Inv X pins σ (upd H x o) { s with heap:=h',toks:=t' }:=I.un (Un.write mu he k heo) (I.hok.write mu he k heo new)
theorem Inv.pins_of {pins':List (Addr×Obj)} (I:Inv X pins σ H s) (h:∀ p∈pins',s.heap.get? p.1=some p.2∧H p.1=none∧p.1≠X.env.locals∧p.1∉X.fs∧∀ v,p.2.data≠.cell v):Inv X pins' σ H s :=
 ⟨I.ok,I.os,I.bare,I.base,I.loc,I.cell,I.free,I.freeC,fun p hp=>(List.mem_append.mp hp).elim (fun z=>I.pin p (List.mem_append_left _ z)) (h p),I.hok,I.len⟩
theorem nodup_ix {N:List Str} (hN:N.Nodup) {i j:Nat} {x:Str} (a:N[i]?=some x) (b:N[j]?=some x):i=j:=by
 obtain ⟨h1,e1⟩:=List.getElem?_eq_some_iff.mp a
 obtain ⟨h2,e2⟩:=List.getElem?_eq_some_iff.mp b
 exact (List.getElem_inj hN).mp (e1.trans e2.symm)
theorem store_ok2 {M:Model} {A:Around} {E:Value→Shared→Prop} {i:Nat} {x:Str} {v:V} {u:Value} {Q:Unit→Shared→Prop} (I:Inv X pins σ H s) (hN:X.N.Nodup) (hi:X.N[i]?=some x) (hx:Loc X.env.scope x) (r:RelV v u)
  (h:∀ s',Inv X pins (σ.set i (some v)) H s'→(∃ a,Heap.SameBut a s.heap s'.heap∧(a=X.env.locals∨X.env.cells.lookup x=some a))→Q () s') (hf:X.fn x=true∨X.env.scope.names.lookup x=some .local:=by first|exact .inl rfl|exact .inr rfl|assumption):wpAny M A (storeName X.env x u) Q E s:=by
 obtain ⟨m,hn,hl⟩:=id I.loc
 have hcls:(X.env.scope.kind == .class || (X.env.scope.kind == .module && X.env.locals != X.env.globals))=false:=by rw [I.ok.kind];rfl
 have hiσ:i<σ.length:=by rw [I.len];exact (List.getElem?_eq_some_iff.mp hi).1
 have cne:=I.cne
 have tracked:∀ {a:Addr} {h':Heap},(∃ o,s.heap.get? a=some o∧H a=none)→Heap.SameBut a s.heap h'→HOk X.prog X.w H h':=fun {a h'} ha hs b ob e=>by
  obtain ⟨_,_,hfree⟩:=ha
  refine (I.hok b ob e).stay (fun c w' hc q=>(hs.2 c ?_).trans q) (fun _ q=>q) fun _ _ q=>q
  rintro rfl
  rcases hc with rfl|hc
  ·rw [hfree] at e;cases e
  ·rw [hfree] at hc;cases hc
 rcases hx with hk|hk
 ·refine wpAny_storeName_local hk hn (fun h' hn' hs=>?_) hcls
  obtain ⟨oL,_,_,hoL,_⟩:=id hn
  refine h _ ⟨I.ok,I.os,I.bare,⟨fun b o e n hb hx=>?_,fun b o e n hb hx=>?_,I.base.free,fun b o e hx=>?_,I.base.tups,I.base.frzs,I.base.tbls⟩,⟨_,hn',fun j y v' e1 e2 e3=>?_⟩,fun y c e=>?_,I.free,I.freeC,fun p hp=>?_,tracked ⟨oL,hoL,I.free⟩ hs,by simpa using I.len⟩ ⟨_,hs,.inl rfl⟩
  ·exact (hs.2 b (Nat.ne_of_lt (Nat.lt_of_lt_of_le (Heap.lt_size e) I.ok.above))).trans (I.base.keep b o e n hb hx)
  ·obtain ⟨sl,e1⟩:=I.base.slot b o e n hb hx
   exact⟨sl,(hs.2 b (Nat.ne_of_lt (Nat.lt_of_lt_of_le (Heap.lt_size e) I.ok.above))).trans e1⟩
  ·obtain ⟨o',e1⟩:=I.base.there b o e hx
   exact⟨o',(hs.2 b (Nat.ne_of_lt (Nat.lt_of_lt_of_le (Heap.lt_size e) I.ok.above))).trans e1⟩
  ·by_cases hj:j=i
   ·subst hj
    rw [hi] at e1;cases e1
    rw [List.getElem?_set_self hiσ] at e2
    cases e2
    exact⟨u,r,.inl ⟨hk,by simp⟩⟩
   ·rw [List.getElem?_set_ne (Ne.symm hj)] at e2
    obtain ⟨u',r',q⟩:=hl j y v' e1 e2 e3
    refine⟨u',r',?_⟩
    rcases q with ⟨k,e⟩|⟨k,c,e,z⟩
    ·refine .inl ⟨k,?_⟩
     have:y≠x:=fun e=>hj (nodup_ix hN e1 (e ▸ hi))
     simp [this,e]
    ·exact .inr ⟨k,c,e,z.sameBut hs (cne y c e)⟩
  ·obtain ⟨w',z⟩:=I.cell y c e
   exact⟨w',z.sameBut hs (cne y c e)⟩
  ·obtain ⟨e,n,ne,nf,d⟩:=I.pin p hp
   exact⟨(hs.2 p.1 ne).trans e,n,ne,nf,d⟩
 ·have hfn:X.fn x=true:=by
   rcases hf with z|z
   ·exact z
   ·rw [z] at hk;cases hk
  obtain ⟨c,hc⟩:=I.ok.has x (.inl hk)
  obtain ⟨w',z⟩:=I.cell x c hc
  refine wpAny_storeName_cell I.ok.kind hk hc z (fun h' hc' hs=>?_)
  obtain ⟨oc,hoc,hocd⟩:=id z
  refine h { s with heap:=h' } ⟨I.ok,I.os,I.bare,⟨fun b o e n hb hx=>?_,fun b o e n hb hx=>?_,I.base.free,fun b o e hx=>?_,I.base.tups,I.base.frzs,I.base.tbls⟩,⟨m,hn.sameBut hs (Ne.symm (cne x c hc)),fun j y v' e1 e2 e3=>?_⟩,fun y c' e=>?_,I.free,I.freeC,fun p hp=>?_,tracked ⟨oc,hoc,I.freeC x c hc⟩ hs,by simpa using I.len⟩ ⟨c,hs,.inr hc⟩
  ·exact (hs.2 b (Nat.ne_of_lt (Nat.lt_of_lt_of_le (Heap.lt_size e) (I.ok.cab x c hfn hc)))).trans (I.base.keep b o e n hb hx)
  ·obtain ⟨sl,e1⟩:=I.base.slot b o e n hb hx
   exact⟨sl,(hs.2 b (Nat.ne_of_lt (Nat.lt_of_lt_of_le (Heap.lt_size e) (I.ok.cab x c hfn hc)))).trans e1⟩
  ·obtain ⟨o',e1⟩:=I.base.there b o e hx
   exact⟨o',(hs.2 b (Nat.ne_of_lt (Nat.lt_of_lt_of_le (Heap.lt_size e) (I.ok.cab x c hfn hc)))).trans e1⟩
  ·by_cases hj:j=i
   ·subst hj
    rw [hi] at e1;cases e1
    rw [List.getElem?_set_self hiσ] at e2
    cases e2
    exact⟨u,r,.inr ⟨.inl hk,c,hc,hc'⟩⟩
   ·rw [List.getElem?_set_ne (Ne.symm hj)] at e2
    obtain ⟨u',r',q⟩:=hl j y v' e1 e2 e3
    refine⟨u',r',?_⟩
    rcases q with q|⟨k,c',e,z'⟩
    ·exact .inl q
    ·refine .inr ⟨k,c',e,z'.sameBut hs ?_⟩
     rintro rfl
     exact hj (nodup_ix hN e1 (I.ok.inj _ _ _ e hc ▸ hi))
  ·by_cases hcc:c'=c
   ·subst hcc;exact⟨_,hc'⟩
   ·obtain ⟨w2,z2⟩:=I.cell y c' e
    exact⟨w2,z2.sameBut hs hcc⟩
  ·obtain ⟨e,n,ne,nf,d⟩:=I.pin p hp
   refine⟨(hs.2 p.1 ?_).trans e,n,ne,nf,d⟩
   intro q
   rw [q,hoc] at e
   have q':oc=p.2:=Option.some.inj e
   exact d w' (by rw [← q'];exact hocd)
theorem store_ok {M:Model} {A:Around} {E:Value→Shared→Prop} {i:Nat} {x:Str} {v:V} {u:Value} {Q:Unit→Shared→Prop} (I:Inv X pins σ H s) (hN:X.N.Nodup) (hi:X.N[i]?=some x) (hx:Loc X.env.scope x) (r:RelV v u)
  (h:∀ s',Inv X pins (σ.set i (some v)) H s'→Q () s') (hf:X.fn x=true∨X.env.scope.names.lookup x=some .local:=by first|exact .inl rfl|exact .inr rfl|assumption):wpAny M A (storeName X.env x u) Q E s :=
 store_ok2 I hN hi hx r (fun s' I' _=>h s' I') hf
theorem Inv.call' {s':Shared} {ch:List Addr} (I:Inv X pins σ H s) (ho:s'.os=s.os) (u:Un (frs X.stack) ch H H' s.heap s'.heap) (hok:HOk X.prog X.w H' s'.heap) (hg:AllBare s'.gens)
  (hch:∀ b∈ch,(b∈X.ex∨X.s₀.heap.objs.size≤b)∧b≠X.env.locals∧(∀ x c,X.env.cells.lookup x=some c→c≠b)∧∀ p∈X.pn++pins,p.1≠b):Inv X pins σ H' s':=by
 obtain ⟨h',g',d',t',o'⟩:=s'
 have e:o'=s.os:=ho
 subst e
 exact I.call (g':=g') (t':=t') (d':=d') u hok hg hch
end
noncomputable abbrev XK:=Value→Option Addr→Hp→Prop
noncomputable abbrev St:=List (Option V)
noncomputable abbrev VK:=V→Hp→Prop
noncomputable abbrev TE:=St→Hp→VK→Prop
noncomputable abbrev TT:=St→Hp→(Bool→Hp→Prop)→Prop
noncomputable abbrev TA:=St→Hp→(List V→Hp→Prop)→Prop
structure Ends where
 nx:St→Hp→Prop
 rt:VK
 bk:St→Hp→Prop:=fun _ _=>False
 ct:St→Hp→Prop:=fun _ _=>False
noncomputable abbrev TS:=Ends→St→Hp→Prop
noncomputable def EP (X:Cx) (pins:List (Addr×Obj)) (σ:St) (Q:VK) (u:Value) (s':Shared):Prop:=∃ v H',Inv X pins σ H' s'∧RelV v u∧Q v H'
noncomputable def TP (X:Cx) (pins:List (Addr×Obj)) (σ:St) (Q:Bool→Hp→Prop) (b:Bool) (s':Shared):Prop:=∃ H',Inv X pins σ H' s'∧Q b H'
noncomputable def AP (X:Cx) (pins:List (Addr×Obj)) (σ:St) (Q:List V→Hp→Prop) (us:List Value) (s':Shared):Prop:=∃ vs H',Inv X pins σ H' s'∧Vals vs us∧Q vs H'
noncomputable def SP (X:Cx) (pins:List (Addr×Obj)) (D:Ends) (f:Flow) (s':Shared):Prop :=
 match f with
 | .next=>∃ σ' H',Inv X pins σ' H' s'∧D.nx σ' H'
 | .brk=>∃ σ' H',Inv X pins σ' H' s'∧D.bk σ' H'
 | .cont=>∃ σ' H',Inv X pins σ' H' s'∧D.ct σ' H'
 | .ret u=>∃ v σ' H',Inv X pins σ' H' s'∧RelV v u∧D.rt v H'
noncomputable def PE (X:Cx) (e:Expr) (t:TE):Prop :=
 ∀ (pins:List (Addr×Obj)) (s:Shared) (σ:St) (H:Hp) (Q:VK),Inv X pins σ H s→t σ H Q→wpAny (model X.prog X.w) X.A (eval e X.env) (EP X pins σ Q) X.xe s
noncomputable def PT (X:Cx) (e:Expr) (t:TT):Prop :=
 ∀ (pins:List (Addr×Obj)) (s:Shared) (σ:St) (H:Hp) (Q:Bool→Hp→Prop),Inv X pins σ H s→t σ H Q→wpAny (model X.prog X.w) X.A (isTrue e X.env (eval e X.env)) (TP X pins σ Q) X.xe s
noncomputable def PW (X:Cx) (e:Expr) (t:TT):Prop :=
 ∀ (whole:Sem Value) (pins:List (Addr×Obj)) (s:Shared) (σ:St) (H:Hp) (Q:Bool→Hp→Prop),Inv X pins σ H s→t σ H Q→wpAny (model X.prog X.w) X.A (isTrue e X.env whole) (TP X pins σ Q) X.xe s
theorem PW.pt {X:Cx} {e:Expr} {t:TT} (h:PW X e t):PT X e t:=h _
noncomputable def PA (X:Cx) (es:List Expr) (t:TA):Prop :=
 ∀ (pos:Pos) (pins:List (Addr×Obj)) (s:Shared) (σ:St) (H:Hp) (Q:List V→Hp→Prop),Inv X pins σ H s→t σ H Q→wpAny (model X.prog X.w) X.A (spliced (backTo pos (starEach es X.env))) (AP X pins σ Q) X.xe s
noncomputable def PS (X:Cx) (st:Stmt) (t:TS):Prop :=
 ∀ (pins:List (Addr×Obj)) (s:Shared) (σ:St) (H:Hp) (D:Ends),Inv X pins σ H s→t D σ H→wpAny (model X.prog X.w) X.A (exec st X.env) (SP X pins D) X.xe s
noncomputable def PSs (X:Cx) (st:List Stmt) (t:TS):Prop :=
 ∀ (pins:List (Addr×Obj)) (s:Shared) (σ:St) (H:Hp) (D:Ends),Inv X pins σ H s→t D σ H→wpAny (model X.prog X.w) X.A (execs st X.env) (SP X pins D) X.xe s
theorem thn {α:Type} {t:Sem α} {Q Q':α→Shared→Prop} {M:Model} {A:Around} {E:Value→Shared→Prop} {s:Shared} (h:wpAny M A t Q E s) (hQ:∀ a s,Q a s→Q' a s):wpAny M A t Q' E s:=wpAny_mono h hQ fun _ _ x=>x
end L2
namespace L2
open PySem PySem.Spec PyProof.Rows
section
variable {X:Cx}
theorem bin {a b:Expr} {ta tb:TE} (ha:PE X a ta) (hb:PE X b tb) {pins:List (Addr×Obj)} {s:Shared} {σ:St} {H:Hp} {R:V→V→Hp→Prop} (I:Inv X pins σ H s) (h:ta σ H fun x H1=>tb σ H1 fun y H2=>R x y H2)
  {α:Type} {Q:α→Shared→Prop} {f:Value→Value→Sem α}
  (hf:∀ v u s2 x y H2,Inv X pins σ H2 s2→RelV x v→RelV y u→R x y H2→wpAny (model X.prog X.w) X.A (f v u) Q X.xe s2) :
  wpAny (model X.prog X.w) X.A (eval a X.env) (fun v s₁=>wpAny (model X.prog X.w) X.A (eval b X.env) (fun u s₂=>wpAny (model X.prog X.w) X.A (f v u) Q X.xe s₂) X.xe s₁) X.xe s:=by
 refine thn (ha pins s σ H _ I h) fun v s1 ⟨x,H1,I1,r1,q1⟩=>?_
 refine thn (hb pins s1 σ H1 _ I1 q1) fun u s2 ⟨y,H2,I2,r2,q2⟩=>?_
 exact hf v u s2 x y H2 I2 r1 r2 q2
noncomputable def tVar (i:Nat):TE:=fun σ H Q=>∃ v,σ[i]?=some (some v)∧Q v H
noncomputable def tC (v:V):TE:=fun _ H Q=>Q v H
theorem pe_var {i:Nat} {x:Str} {pos:Pos} (hN:X.N[i]?=some x) (hv:Vis X.env.scope x) (hd:(x == ("__debug__":Str))=false:=by decide) (hcd:(x == ("__classdict__":Str))=false:=by decide):PE X (.Name x pos) (tVar i):=by
 intro pins s σ H Q I h
 obtain ⟨v,e,h⟩:=h
 obtain ⟨m,hn,hl⟩:=I.loc
 obtain ⟨u,r,l⟩:=hl i x v hN e hv
 have fin:EP X pins σ Q u s:=⟨v,H,I,r,h⟩
 rcases l with ⟨hk,hm⟩|⟨hk,c,hc,hcell⟩
 ·exact wpAny_Name (wpAny_loadName_local I.ok.kind hk hn hm fin) hd
 ·rcases hk with hk|hk
  ·exact wpAny_Name (wpAny_loadName_cell I.ok.kind hk hc hcell fin) hd
  ·exact wpAny_Name (wpAny_loadName_free I.ok.kind hk hc hcell fin hcd) hd
theorem pe_int {i j pos}:PE X (.Constant (.int i) j pos) (tC (.int i)):=fun _ _ _ H _ I h=>wpAny_Constant_int ⟨.int i,H,I.tok _,⟨_,rfl⟩,h⟩
theorem pe_bl {b j pos}:PE X (.Constant (.bool b) j pos) (tC (.bl b)):=fun _ _ _ H _ I h=>Constant_bool ⟨.bl b,H,I,rfl,h⟩
theorem pe_non {j pos}:PE X (.Constant .none j pos) (tC .non):=fun _ _ _ H _ I h=>Constant_none ⟨.non,H,I,rfl,h⟩
noncomputable def Gl (X:Cx) (x:Str):Prop:=X.env.kindOf x=some .globalImplicit
theorem ld_glob {E:Value→Shared→Prop} {pins:List (Addr×Obj)} {s:Shared} {σ:St} {H:Hp} {x:Str} {u:Value} {pos:Pos} {Q:Value→Shared→Prop} (I:Inv X pins σ H s) (hg:Gl X x) (hm:X.mg x=some u) (h:Q u s)
  (hd:(x == ("__debug__":Str))=false:=by decide):wpAny (model X.prog X.w) X.A (eval (.Name x pos) X.env) Q E s :=
 Calls.Name_function_global I.ok.kind hg (Calls.loadGlobal_global (by rw [I.ok.glob];exact I.mod.glob.keeps I.bk) hm h) hd
theorem ld_blt {E:Value→Shared→Prop} {pins:List (Addr×Obj)} {s:Shared} {σ:St} {H:Hp} {x:Str} {u:Value} {pos:Pos} {Q:Value→Shared→Prop} (I:Inv X pins σ H s) (hg:Gl X x) (hm:X.mg x=none) (hv:bootBuiltins x=some u) (h:Q u s)
  (hn:x≠"__name__":=by decide) (hd:(x == ("__debug__":Str))=false:=by decide):wpAny (model X.prog X.w) X.A (eval (.Name x pos) X.env) Q E s:=by
 obtain ⟨mb,h1,h2⟩:=I.mod.blt
 exact Calls.Name_function_global I.ok.kind hg (Calls.loadGlobal_builtin (by rw [I.ok.glob];exact I.mod.glob.keeps I.bk) hm (by rw [I.ok.blt];exact h1.keeps I.bk) ((h2 x hn).trans hv) h) hd
theorem pe_glob {x:Str} {v:V} {u:Value} {pos:Pos} (hg:Gl X x) (hm:X.mg x=some u) (r:RelV v u) (hd:(x == ("__debug__":Str))=false:=by decide):PE X (.Name x pos) (tC v) :=
 fun _ _ _ H _ I h=>ld_glob I hg hm ⟨v,H,I,r,h⟩ hd
theorem pe_bltn {x:Str} {v:V} {u:Value} {pos:Pos} (hg:Gl X x) (hm:X.mg x=none) (hv:bootBuiltins x=some u) (r:RelV v u) (hn:x≠"__name__":=by decide) (hd:(x == ("__debug__":Str))=false:=by decide):PE X (.Name x pos) (tC v) :=
 fun _ _ _ H _ I h=>ld_blt I hg hm hv ⟨v,H,I,r,h⟩ hn hd
variable {a b:Expr} {ta tb:TE} {pos:Pos}
noncomputable def PC (X:Cx) (op:CmpOp) (a b:Expr) (t:TE):Prop :=
 ∀ (pins:List (Addr×Obj)) (s:Shared) (σ:St) (H:Hp) (Q:VK),Inv X pins σ H s→t σ H Q →
  wpAny (model X.prog X.w) X.A (eval a X.env) (fun v s₁=>wpAny (model X.prog X.w) X.A (eval b X.env) (fun u s₂=>wpAny (model X.prog X.w) X.A (compareOp op v u) (EP X pins σ Q) X.xe s₂) X.xe s₁) X.xe s
noncomputable def tB (t:TE):TT:=fun σ H Q=>t σ H fun x H1=>∃ c,x=.bl c∧Q c H1
theorem pt_cmp {op:CmpOp} {t:TE} (h:PC X op a b t) (h1:behindInMarks op b=false:=by first|exact nobehind _ (by decide) (by decide)|rfl):PT X (.Compare a [op] [b] pos) (tB t):=by
 intro pins s σ H Q I hw
 refine wpAny_isTrue_Compare1 (thn (h pins s σ H _ I hw) fun v s1 h1=>thn h1 fun u s2 h2=>thn h2 fun c s3 ⟨x,H1,I1,r1,q1⟩=>?_) h1
 obtain ⟨d,rfl,q⟩:=q1
 cases r1
 exact wpAny_truthy_bool ⟨H1,I1,q⟩
theorem pt_val {e:Expr} {t:TE} (h:PE X e t) (he:∀ whole,isTrue e X.env whole=(do let v ← whole;standAt e.pos;holding [v] (truthy v)):=by intro _;rfl):PT X e (tB t):=by
 intro pins s σ H Q I hw
 refine isTrue_plain (thn (h pins s σ H _ I hw) fun v s1 ⟨x,H1,I1,r1,q1⟩=>?_) (he _)
 obtain ⟨d,rfl,q⟩:=q1
 cases r1
 exact wpAny_truthy_bool ⟨H1,I1,q⟩
variable {tA tB':TT} {rest:List Expr}
noncomputable def tAnd (t u:TT):TT:=fun σ H Q=>t σ H fun c H1=>if c=true then u σ H1 Q else Q false H1
noncomputable def tOr (t u:TT):TT:=fun σ H Q=>t σ H fun c H1=>if c=true then Q true H1 else u σ H1 Q
noncomputable def tNot (t:TT):TT:=fun σ H Q=>t σ H fun c H1=>Q (!c) H1
theorem pw_and1 (ha:PT X a tA):PW X (.BoolOp .And [a] pos) tA:=by
 intro wh pins s σ H Q I h
 refine isTrue_and (thn (ha pins s σ H Q I h) fun c s1 e=>?_)
 cases c with
 | true=>exact isTrue_and_nil e
 | false=>exact e
theorem pw_or1 (ha:PT X a tA):PW X (.BoolOp .Or [a] pos) tA:=by
 intro wh pins s σ H Q I h
 refine isTrue_or (thn (ha pins s σ H Q I h) fun c s1 e=>?_)
 cases c with
 | false=>exact isTrue_or_nil e
 | true=>exact e
theorem pw_and (ha:PT X a tA) (hb:PW X (.BoolOp .And (b::rest) pos) tB'):PW X (.BoolOp .And (a::b::rest) pos) (tAnd tA tB'):=by
 intro wh pins s σ H Q I h
 refine isTrue_and (thn (ha pins s σ H _ I h) fun c s1 ⟨H1,I1,q1⟩=>?_)
 cases c with
 | true=>exact hb wh pins s1 σ H1 Q I1 q1
 | false=>exact⟨H1,I1,q1⟩
theorem pw_or (ha:PT X a tA) (hb:PW X (.BoolOp .Or (b::rest) pos) tB'):PW X (.BoolOp .Or (a::b::rest) pos) (tOr tA tB'):=by
 intro wh pins s σ H Q I h
 refine isTrue_or (thn (ha pins s σ H _ I h) fun c s1 ⟨H1,I1,q1⟩=>?_)
 cases c with
 | true=>exact⟨H1,I1,q1⟩
 | false=>exact hb wh pins s1 σ H1 Q I1 q1
theorem pt_not (ha:PT X a tA):PT X (.UnaryOp .Not a pos) (tNot tA):=by
 intro pins s σ H Q I h
 exact isTrue_not (ha pins s σ H (fun c H1=>Q (!c) H1) I h)
noncomputable def tAndV (ta tb:TE):TE:=fun σ H Q=>ta σ H fun x H1=>∃ c,x=.bl c∧if c=true then tb σ H1 Q else Q (.bl false) H1
noncomputable def tNotV (ta:TE):TE:=fun σ H Q=>ta σ H fun x H1=>∃ c,x=.bl c∧Q (.bl (!c)) H1
theorem pe_one {op} {t:TE} (h:PE X a t):PE X (.BoolOp op [a] pos) t:=fun pins s σ H Q I hw=>BoolOp_one (h pins s σ H Q I hw)
theorem pe_and (ha:PE X a ta) (hb:PE X (.BoolOp .And (b::rest) pos) tb):PE X (.BoolOp .And (a::b::rest) pos) (tAndV ta tb):=by
 intro pins s σ H Q I h
 refine BoolOp_and (thn (ha pins s σ H _ I h) fun v s1 ⟨x,H1,I1,r1,q1⟩=>?_)
 obtain ⟨c,rfl,q1⟩:=q1
 cases r1
 refine wpAny_truthy_bool ?_
 cases c with
 | true=>exact hb pins s1 σ H1 Q I1 q1
 | false=>exact⟨.bl false,H1,I1,rfl,q1⟩
theorem pe_not (ha:PE X a ta):PE X (.UnaryOp .Not a pos) (tNotV ta):=by
 intro pins s σ H Q I h
 refine UnaryOp_ (thn (ha pins s σ H _ I h) fun v s1 ⟨x,H1,I1,r1,q1⟩=>?_)
 obtain ⟨c,rfl,q1⟩:=q1
 cases r1
 exact not_of (wpAny_truthy_bool ⟨.bl (!c),H1,I1,rfl,q1⟩)
noncomputable def tIf (t:TT) (ta tb:TE):TE:=fun σ H Q=>t σ H fun c H1=>if c=true then ta σ H1 Q else tb σ H1 Q
theorem pe_ifExp {c:Expr} (hc:PT X c tA) (ha:PE X a ta) (hb:PE X b tb):PE X (.IfExp c a b pos) (tIf tA ta tb):=by
 intro pins s σ H Q I h
 refine wpAny_IfExp (thn (hc pins s σ H _ I h) fun d s1 ⟨H1,I1,q1⟩=>?_)
 cases d with
 | true=>exact ha pins s1 σ H1 Q I1 q1
 | false=>exact hb pins s1 σ H1 Q I1 q1
end
end L2
namespace L2
open PySem PySem.Spec PyProof.Rows
noncomputable def SqL (K:PySem.W.Frag) (H:Hp) (a:Addr) (xs:List V):Prop :=
 Rd H a (.lst xs) ∨
  ∃ (o:Obj) (its:Array Value) (n:Nat),K.lookup a=some o∧o.cls=.type "list"∧o.dict=none∧o.data=.seq its n∧its.size≤sizeLine∧Vals xs its.toList
noncomputable def SqT (K:PySem.W.Frag) (H:Hp) (a:Addr) (xs:List V):Prop :=
 Rd H a (.tup xs) ∨
  ∃ (o:Obj) (its:Array Value) (n:Nat),K.lookup a=some o∧o.cls=.type "tuple"∧o.data=.seq its n∧its.size≤sizeLine∧Vals xs its.toList
noncomputable def absV:Value→Option V
 | .none=>some .non
 | .bool b=>some (.bl b)
 | .int i _=>some (.int i)
 | .str x _=>some (.str x)
 | .bytes b _=>some (.byt b)
 | .float b _=>some (.flt b)
 | .ref a=>some (.ref a)
 | .type n=>some (.ty n)
 | _=>none
theorem RelV.abs {x:V} {u:Value} (r:RelV x u):absV u=some x:=by
 cases x with
 | non=>cases r;rfl
 | bl _=>cases r;rfl
 | int _=>obtain ⟨t,rfl⟩:=r;rfl
 | str _=>obtain ⟨t,rfl⟩:=r;rfl
 | byt _=>obtain ⟨t,rfl⟩:=r;rfl
 | flt _=>obtain ⟨t,rfl⟩:=r;rfl
 | ref _=>cases r;rfl
 | ty _=>cases r;rfl
theorem RelV.inj {x y:V} {u:Value} (r:RelV x u) (q:RelV y u):x=y:=Option.some.inj (r.abs.symm.trans q.abs)
theorem Vals.inj:∀ {xs ys:List V} {us:List Value},Vals xs us→Vals ys us→xs=ys
 | _,_,_,.nil,.nil=>rfl
 | _,_,_,.cons r t,.cons r' t'=>by rw [r.inj r',Vals.inj t t']
section
variable {X:Cx} {pins:List (Addr×Obj)} {σ:St} {H:Hp} {s:Shared} {a:Addr} {xs ys:List V}
theorem SqL.of {K:PySem.W.Frag} (h:H a=some (.lst xs)):SqL K H a xs:=.inl (.inl h)
theorem SqT.of {K:PySem.W.Frag} (h:H a=some (.tup xs)):SqT K H a xs:=.inl (.inl h)
theorem Inv.list (I:Inv X pins σ H s) (h:SqL X.K H a xs):∃ its:List Value,Vals xs its∧PlainL s.heap a its.toArray∧xs.length≤sizeLine:=by
 rcases h with h|⟨o,its,n,hk,hc,hd,hs,hz,r⟩
 ·obtain ⟨z,its,n,r,e⟩:=h.ok I.hok
  exact⟨its,r,⟨_,n,e,rfl,rfl,rfl⟩,z⟩
 ·refine⟨its.toList,r,⟨o,n,I.kIn a o hk,hc,hd,by simpa using hs⟩,?_⟩
  have e:=r.length
  simp only [Array.length_toList] at e
  lia
theorem Inv.tuple (I:Inv X pins σ H s) (h:SqT X.K H a xs):∃ its:List Value,Vals xs its∧IsTup s.heap a its.toArray∧xs.length≤sizeLine:=by
 rcases h with h|⟨o,its,n,hk,hc,hs,hz,r⟩
 ·obtain ⟨z,its,r,p⟩:=h.ok I.hok
  exact⟨its,r,p,z⟩
 ·refine⟨its.toList,r,⟨o,I.kIn a o hk,hc,n,by simpa using hs⟩,?_⟩
  have e:=r.length
  simp only [Array.length_toList] at e
  lia
theorem Inv.list_inj (I:Inv X pins σ H s) (h:SqL X.K H a xs) (h':SqL X.K H a ys):xs=ys:=by
 obtain ⟨its,r,⟨o,n,e,_,_,d⟩,_⟩:=I.list h
 obtain ⟨its',r',⟨o',n',e',_,_,d'⟩,_⟩:=I.list h'
 rw [e] at e';cases e'
 rw [d] at d'
 injection d' with d1 _
 have:its=its':=by simpa using congrArg Array.toList d1
 subst this
 exact r.inj r'
theorem Inv.tuple_inj (I:Inv X pins σ H s) (h:SqT X.K H a xs) (h':SqT X.K H a ys):xs=ys:=by
 obtain ⟨its,r,⟨o,e,_,n,d⟩,_⟩:=I.tuple h
 obtain ⟨its',r',⟨o',e',_,n',d'⟩,_⟩:=I.tuple h'
 rw [e] at e';cases e'
 rw [d] at d'
 injection d' with d1 _
 have:its=its':=by simpa using congrArg Array.toList d1
 subst this
 exact r.inj r'
end
noncomputable abbrev Cx.wish (X:Cx) (E:Value→Shared→Prop):Cx:={ X with xe:=E }
noncomputable abbrev Cx.nox (X:Cx):Cx:=X.wish fun _ _=>False
theorem Cx.Ok.wish {X:Cx} (ok:X.Ok) (E:Value→Shared→Prop):(X.wish E).Ok :=
 ⟨ok.mod,ok.kind,ok.glob,ok.blt,ok.above,ok.inj,ok.has,ok.cab,ok.hd,ok.frames,ok.stk,ok.exf,ok.bs,ok.bsz,ok.noex,ok.exfs,ok.funs,ok.frf⟩
theorem Cx.Ok.unwish {X:Cx} {E:Value→Shared→Prop} (ok:(X.wish E).Ok):X.Ok :=
 ⟨ok.mod,ok.kind,ok.glob,ok.blt,ok.above,ok.inj,ok.has,ok.cab,ok.hd,ok.frames,ok.stk,ok.exf,ok.bs,ok.bsz,ok.noex,ok.exfs,ok.funs,ok.frf⟩
section
variable {X:Cx} {pins:List (Addr×Obj)} {σ:St} {H:Hp} {s:Shared} {E:Value→Shared→Prop}
theorem Inv.wish (I:Inv X pins σ H s) (E:Value→Shared→Prop):Inv (X.wish E) pins σ H s:=⟨I.ok.wish E,I.os,I.bare,I.base,I.loc,I.cell,I.free,I.freeC,I.pin,I.hok,I.len⟩
theorem Inv.unwish (I:Inv (X.wish E) pins σ H s):Inv X pins σ H s:=⟨I.ok.unwish,I.os,I.bare,I.base,I.loc,I.cell,I.free,I.freeC,I.pin,I.hok,I.len⟩
theorem SP.unwish {D:Ends} {f:Flow} {s':Shared} (h:SP (X.wish E) pins D f s'):SP X pins D f s':=by
 cases f with
 | next=>obtain ⟨σ',H',I,q⟩:=h;exact⟨σ',H',I.unwish,q⟩
 | brk=>obtain ⟨σ',H',I,q⟩:=h;exact⟨σ',H',I.unwish,q⟩
 | cont=>obtain ⟨σ',H',I,q⟩:=h;exact⟨σ',H',I.unwish,q⟩
 | ret u=>obtain ⟨v,σ',H',I,r,q⟩:=h;exact⟨v,σ',H',I.unwish,r,q⟩
theorem PSs.nox {st:List Stmt} {t:TS} (h:PSs X.nox st t):PSs X st t:=fun pins s σ H D I hw =>
 wpAny_mono (h pins s σ H D (I.wish _) hw) (fun _ _ q=>q.unwish) fun _ _ z=>False.elim z
end
section
variable {X:Cx} {st:Stmt} {rest:List Stmt} {t u:TS} {e:Expr} {te:TE} {pos:Pos}
noncomputable def tNext:TS:=fun D σ H=>D.nx σ H
noncomputable def tSeq (t u:TS):TS:=fun D σ H=>t { D with nx:=u D } σ H
theorem pss_nil:PSs X [] tNext:=fun _ _ σ H _ I h=>wpAny_execs_nil ⟨σ,H,I,h⟩
theorem pss_cons (h1:PS X st t) (h2:PSs X rest u):PSs X (st::rest) (tSeq t u):=by
 intro pins s σ H D I h
 refine wpAny_execs_cons (thn (h1 pins s σ H { D with nx:=u D } I h) fun f s1 q=>?_)
 cases f with
 | next =>
  obtain ⟨σ',H',I',q⟩:=q
  exact h2 pins s1 σ' H' D I' q
 | ret v=>exact q
 | brk=>exact q
 | cont=>exact q
theorem pss_one (h1:PS X st t):PSs X [st] t:=by
 intro pins s σ H D I h
 refine wpAny_execs_cons (thn (h1 pins s σ H D I h) fun f s1 q=>?_)
 cases f with
 | next=>exact wpAny_execs_nil q
 | ret v=>exact q
 | brk=>exact q
 | cont=>exact q
theorem Inv.quiet {pins:List (Addr×Obj)} {σ:St} {H:Hp} {s:Shared} (I:Inv X pins σ H s):interactive X.env=false:=by simp [interactive,I.ok.kind]
noncomputable def tDrop (te:TE):TS:=fun D σ H=>te σ H fun _ H1=>D.nx σ H1
theorem ps_expr (he:PE X e te) (hs:swapsWith e none pos.line X.env=pure false:=by rfl):PS X (.Expr e pos) (tDrop te):=by
 intro pins s σ H D I h
 exact wpAny_Expr_any (thn (he pins s σ H _ I h) fun v s1 ⟨x,H1,I1,r1,q1⟩=>⟨σ,H1,I1,q1⟩) I.quiet hs
noncomputable def tRet (te:TE):TS:=fun D σ H=>te σ H D.rt
theorem ps_ret (he:PE X e te):PS X (.Return (some e) pos) (tRet te):=by
 intro pins s σ H D I h
 exact wpAny_Return_some (thn (he pins s σ H _ I h) fun v s1 ⟨x,H1,I1,r1,q1⟩=>⟨x,σ,H1,I1,r1,q1⟩)
noncomputable def tIfS (c:TT) (t u:TS):TS:=fun D σ H=>c σ H fun b H1=>if b=true then t D σ H1 else u D σ H1
theorem ps_if {c:Expr} {a b:List Stmt} {tc:TT} (hc:PT X c tc) (ha:PSs X a t) (hb:PSs X b u):PS X (.If c a b pos) (tIfS tc t u):=by
 intro pins s σ H D I h
 refine wpAny_If (thn (hc pins s σ H _ I h) fun d s1 ⟨H1,I1,q1⟩=>?_)
 cases d with
 | true=>exact ha pins s1 σ H1 D I1 q1
 | false=>exact hb pins s1 σ H1 D I1 q1
noncomputable def tNever:TS:=fun _ _ _=>False
theorem ps_never:PS X st tNever:=fun _ _ _ _ _ _ h=>h.elim
end
noncomputable abbrev TG:=V→St→Hp→(St→Hp→Prop)→Prop
noncomputable abbrev TGs:=List V→St→Hp→(St→Hp→Prop)→Prop
noncomputable def PG (X:Cx) (target:Expr) (t:TG):Prop :=
 ∀ (pins:List (Addr×Obj)) (s:Shared) (σ:St) (H:Hp) (v:V) (u:Value) (Q:St→Hp→Prop),Inv X pins σ H s→RelV v u→t v σ H Q →
  wpAny (model X.prog X.w) X.A (assign target X.env u) (fun _ s'=>∃ σ' H',Inv X pins σ' H' s'∧Q σ' H') X.xe s
noncomputable def PGs (X:Cx) (ts:List Expr) (t:TGs):Prop :=
 ∀ (pins:List (Addr×Obj)) (s:Shared) (σ:St) (H:Hp) (vs:List V) (us:List Value) (Q:St→Hp→Prop),Inv X pins σ H s→Vals vs us→t vs σ H Q →
  wpAny (model X.prog X.w) X.A (assignInOrder ((assignEach ts X.env).map (·.2)) us) (fun _ s'=>∃ σ' H',Inv X pins σ' H' s'∧Q σ' H') X.xe s
noncomputable abbrev TSet:=V→V→V→Hp→(Hp→Prop)→Prop
noncomputable def PSet (X:Cx) (t:TSet):Prop :=
 ∀ (pins:List (Addr×Obj)) (s:Shared) (σ:St) (H:Hp) (o i v:V) (ov iv u:Value) (Q:Hp→Prop),Inv X pins σ H s→RelV o ov→RelV i iv→RelV v u→t o i v H Q →
  wpAny (model X.prog X.w) X.A (setItem ov iv u) (fun _ s'=>∃ H',Inv X pins σ H' s'∧Q H') X.xe s
section
variable {X:Cx} {pos:Pos}
noncomputable def gName (i:Nat):TG:=fun v σ H Q=>Q (σ.set i (some v)) H
theorem pg_name {i:Nat} {x:Str} (hN:X.N.Nodup) (hi:X.N[i]?=some x) (hx:Loc X.env.scope x) (hf:X.fn x=true∨X.env.scope.names.lookup x=some .local:=by first|exact .inl rfl|exact .inr rfl|assumption):PG X (.Name x pos) (gName i):=by
 intro pins s σ H v u Q I r h
 exact wpAny_assign_Name (store_ok I hN hi hx r (fun s' I'=>⟨_,H,I',h⟩) hf)
noncomputable def gNil:TGs:=fun vs σ H Q=>vs=[]∧Q σ H
noncomputable def gCons (t:TG) (u:TGs):TGs:=fun vs σ H Q=>∃ v r,vs=v::r∧t v σ H fun σ' H'=>u r σ' H' Q
theorem pgs_nil:PGs X [] gNil:=by
 intro pins s σ H vs us Q I r h
 obtain ⟨e,h⟩:=h
 subst e
 cases r
 exact assignInOrder_nil ⟨σ,H,I,h⟩
theorem pgs_cons {e:Expr} {es:List Expr} {t:TG} {u:TGs} (h1:PG X e t) (h2:PGs X es u)
  (hs:(assignEach (e::es) X.env).map (·.2)=assign e X.env::(assignEach es X.env).map (·.2):=by rfl):PGs X (e::es) (gCons t u):=by
 intro pins s σ H vs us Q I r h
 obtain ⟨v,vr,e1,h⟩:=h
 subst e1
 cases r with
 | cons r rr =>
  rw [hs]
  refine assignInOrder_cons (thn (h1 pins s σ H _ _ _ I r h) fun _ s1 ⟨σ1,H1,I1,q1⟩=>?_)
  exact h2 pins s1 σ1 H1 _ _ Q I1 rr q1
noncomputable def gTup (K:PySem.W.Frag) (n:Nat) (t:TGs):TG:=fun v σ H Q=>∃ a xs,v=.ref a∧SqT K H a xs∧xs.length=n∧t xs σ H Q
theorem pg_tup {es:List Expr} {k:Nat} {t:TGs} {n:Nat} (hc:X.calm=true) (h:PGs X es t)
  (hn:(assignEach es X.env).length=n:=by rfl) (hst:(assignEach es X.env).findIdx? (·.1)=none:=by rfl):PG X (.Tuple es k pos) (gTup X.K n t):=by
 intro pins s σ H v u Q I r hw
 obtain ⟨a,xs,e1,hq,hl,hw⟩:=hw
 subst e1
 cases r
 obtain ⟨its,rv,ht,hz⟩:=I.tuple hq
 refine assign_Tuple_tuple (I.ok.hd hc) ht (by simp [hn,← hl,rv.length]) hst fun h' hx=>?_
 have I1:Inv X pins σ H { s with heap:=h' }:=I.kept (t':=s.toks) fun b o e=>hx b o (Nat.ne_of_lt (Heap.lt_size e)) e
 exact h pins _ σ H xs _ Q I1 (by simpa using rv) hw
noncomputable def gSub (to ti:TE) (t:TSet):TG:=fun v σ H Q=>to σ H fun o H1=>ti σ H1 fun i H2=>t o i v H2 fun H3=>Q σ H3
theorem pg_sub {o i:Expr} {to ti:TE} {t:TSet} (ho:PE X o to) (hi:PE X i ti) (hs:PSet X t)
  (ha:∀ v,assign (.Subscript o i pos) X.env v=(do
   let ov ← holding [v] (eval o X.env)
   let iv ← holding [v,ov] (eval i X.env)
   standAt pos
   holding [v,ov,iv] (setItem ov iv v)
   release [v,ov,iv] []):=by intro _;rfl):PG X (.Subscript o i pos) (gSub to ti t):=by
 intro pins s σ H v u Q I r h
 rw [ha]
 refine wpAny_bind (wpAny_holding (thn (ho pins s σ H _ I h) fun ov s1 ⟨x,H1,I1,r1,q1⟩=>?_))
 refine wpAny_bind (wpAny_holding (thn (hi pins s1 σ H1 _ I1 q1) fun iv s2 ⟨y,H2,I2,r2,q2⟩=>?_))
 refine wpAny_bind (wpAny_standAt (wpAny_bind (wpAny_holding (thn (hs pins s2 σ H2 x y v ov iv u _ I2 r1 r2 r q2) fun _ s3 ⟨H3,I3,q3⟩=>?_))))
 exact wpAny_release ⟨σ,H3,I3,q3⟩
noncomputable def tAsg (te:TE) (g:TG):TS:=fun D σ H=>te σ H fun x H1=>g x σ H1 D.nx
theorem ps_asg {tg e:Expr} {te:TE} {g:TG} (he:PE X e te) (hg:PG X tg g) (hs:swapsWithSole [tg] e pos.line X.env=pure false:=by rfl) (hw:swappedStores [tg] e X.env=pure none:=by rfl)
  (h1:(assignEach [tg] X.env).map (·.2)=[assign tg X.env]:=by rfl):PS X (.Assign [tg] e pos) (tAsg te g):=by
 intro pins s σ H D I h
 refine wpAny_Assign_stores (thn (he pins s σ H _ I h) fun v s1 ⟨x,H1,I1,r1,q1⟩=>?_) hs hw
 rw [h1]
 exact thn (hg pins s1 σ H1 x v _ I1 r1 q1) fun _ s2 q=>q
theorem ps_set {i:Nat} {x:Str} {e:Expr} {te:TE} {pos':Pos} (hN:X.N.Nodup) (hi:X.N[i]?=some x) (hx:Loc X.env.scope x) (he:PE X e te) (hs:swapsWith e (some (.Name x pos')) pos.line X.env=pure false:=by rfl) (hf:X.fn x=true∨X.env.scope.names.lookup x=some .local:=by first|exact .inl rfl|exact .inr rfl|assumption) :
  PS X (.Assign [.Name x pos'] e pos) (tAsg te (gName i)):=by
 intro pins s σ H D I h
 refine wpAny_Assign_Name (thn (he pins s σ H _ I h) fun v s1 ⟨y,H1,I1,r1,q1⟩=>?_) hs
 exact store_ok I1 hN hi hx r1 (fun s2 I2=>⟨_,H1,I2,q1⟩) hf
end
section
variable {X:Cx} {pos:Pos}
noncomputable def tWhile (c:TT) (tb:TS):TS:=fun D σ H=>∃ W:Nat→St→Hp→Prop,(∃ m,W m σ H)∧∀ m σ H,W m σ H →
 c σ H fun b H1=>if b=true then ∃ N:St→Hp→Prop,(∀ σ' H',N σ' H'→∃ m',m'<m∧W m' σ' H')∧tb { D with nx:=N,ct:=N,bk:=D.nx } σ H1 else D.nx σ H1
theorem ps_while {c:Expr} {body:List Stmt} {tc:TT} {tb:TS} (hp:PassesOwn (model X.prog X.w) X.A X.env X.xe) (hc:PT X c tc) (hb:PSs X body tb):PS X (.While c body [] pos) (tWhile tc tb):=by
 intro pins s σ H D I h
 obtain ⟨W,⟨m0,w0⟩,turn⟩:=h
 refine wpAny_While (codeAny_whileLoop (fun n s'=>∃ σ' H',Inv X pins σ' H' s'∧W n σ' H') ?_ m0 ⟨σ,H,I,w0⟩)
 rintro n s1 ⟨σ1,H1,I1,w1⟩
 refine wpAny_passesOwn hp (thn (hc pins s1 σ1 H1 _ I1 (turn n σ1 H1 w1)) fun b s2 ⟨H2,I2,q2⟩=>?_)
 cases b with
 | true =>
  obtain ⟨N,hN,q2⟩:=q2
  rw [if_pos rfl]
  refine wpAny_passesOwn hp (thn (hb pins s2 σ1 H2 _ I2 q2) fun f s3 q3=>?_)
  cases f with
  | next =>
   obtain ⟨σ3,H3,I3,n3⟩:=q3
   obtain ⟨m',hm,w3⟩:=hN σ3 H3 n3
   exact⟨m',hm,σ3,H3,I3,w3⟩
  | cont =>
   obtain ⟨σ3,H3,I3,n3⟩:=q3
   obtain ⟨m',hm,w3⟩:=hN σ3 H3 n3
   exact⟨m',hm,σ3,H3,I3,w3⟩
  | brk=>exact q3
  | ret v=>exact q3
 | false =>
  rw [if_neg Bool.false_ne_true]
  exact wpAny_execs_nil ⟨σ1,H2,I2,q2⟩
end
structure It where
 go:Nat→Hp→Prop
 yld:Nat→Hp→V→Hp→Prop
 stop:Nat→Hp→Prop
noncomputable def FpOk (X:Cx) (pins:List (Addr×Obj)) (H:Hp) (b:Addr):Prop :=
 H b=none∧b≠X.env.locals∧b∉X.fs∧(b∈X.ex∨X.s₀.heap.objs.size≤b)∧(∀ x c,X.env.cells.lookup x=some c→c≠b)∧∀ p∈X.pn++pins,p.1≠b
theorem Inv.fpOk {X:Cx} {pins:List (Addr×Obj)} {σ:St} {H H':Hp} {s:Shared} {b:Addr} (I:Inv X pins σ H s) (hb:s.heap.objs.size≤b) (hn:H' b=none):FpOk X pins H' b:=by
 refine⟨hn,Nat.ne_of_gt (Nat.lt_of_lt_of_le I.lt hb),I.nofs hb,.inr (Nat.le_trans I.sz hb),fun x c e z=>?_,fun p hp z=>?_⟩
 ·obtain ⟨v,q⟩:=I.cell x c e
  exact absurd (Nat.lt_of_lt_of_le q.lt (by rw [z];exact hb)) (Nat.lt_irrefl _)
 ·exact absurd (Nat.lt_of_lt_of_le (Heap.lt_size (I.pin p hp).1) (by rw [z];exact hb)) (Nat.lt_irrefl _)
structure Turn (P:Program) (w:World) (K:PySem.W.Frag) (tg:Expr) (J:It) (fp:List Addr) (it:Addr) (tn:Nat→Heap→Prop):Prop where
 mem:it∈fp
 obj:∀ i h,tn i h→∀ b∈fp,∃ o,h.get? b=some o∧∀ v,o.data≠.cell v
 keep:∀ i h h',tn i h→(∀ b∈fp,∀ o,h.get? b=some o→h'.get? b=some o)→tn i h'
 item:∀ (X:Cx),X.prog=P→X.w=w→X.K=K→X.calm=true→∀ (i:Nat) (pins:List (Addr×Obj)) (s:Shared) (σ:St) (H:Hp) (E:Value→Shared→Prop),Inv X pins σ H s→(∀ b∈fp,FpOk X pins H b)→tn i s.heap→J.go i H →
  wpAny (model P w) X.A (pyNext (.ref it)) (fun r s1=>∃ u,r=some u ∧
   wpAny (model P w) X.A (letOwnedTupleGo tg (.ref it) u) (fun _ s2=>∃ x H',Inv X pins σ H' s2∧RelV x u∧J.yld i H x H'∧tn (i+1) s2.heap∧∀ b∈fp,H' b=none) E s1) E s
 done:∀ (X:Cx),X.prog=P→X.w=w→X.K=K→X.calm=true→∀ (i:Nat) (pins:List (Addr×Obj)) (s:Shared) (σ:St) (H:Hp) (E:Value→Shared→Prop),Inv X pins σ H s→(∀ b∈fp,FpOk X pins H b)→tn i s.heap→J.stop i H →
  wpAny (model P w) X.A (pyNext (.ref it)) (fun r s1=>r=none∧Inv X pins σ H s1) E s
 self:∀ (A:Around) (i:Nat) (s:Shared) (Q:Value→Shared→Prop) (E:Value→Shared→Prop),tn i s.heap→Q (.ref it) s→wpAny (model P w) A (pyIter (.ref it)) Q E s
noncomputable abbrev TI:=St→Hp→(It→Hp→Prop)→Prop
noncomputable def PIE (X:Cx) (pins:List (Addr×Obj)) (σ:St) (tg:Expr) (R:It→Hp→Prop) (itv:Value) (s2:Shared):Prop :=
 ∃ (it:Addr) (fp:List Addr) (tn:Nat→Heap→Prop) (J:It) (H':Hp),itv=.ref it∧Inv X pins σ H' s2∧Turn X.prog X.w X.K tg J fp it tn∧tn 0 s2.heap∧(∀ b∈fp,FpOk X pins H' b)∧R J H'
noncomputable def PI (X:Cx) (tg iter:Expr) (wi:TI):Prop :=
 ∀ (pins:List (Addr×Obj)) (s:Shared) (σ:St) (H:Hp) (R:It→Hp→Prop),Inv X pins σ H s→wi σ H R →
  wpAny (model X.prog X.w) X.A (eval iter X.env) (fun v s1=>wpAny (model X.prog X.w) X.A (pyIter v) (PIE X pins σ tg R) X.xe s1) X.xe s
theorem go_of {M : Model} {A : Around} {E : Value → Shared → Prop} {s : Shared} {tg : Expr} {it : Addr} {u : Value} {o : Obj} {n : String} {vs : Array Value} {Q : Unit → Shared → Prop} (ho : s.heap.get? it=some o) (hc : o.cls=.type n) (hd : o.data=.fields vs)
    (hn : ["enumerate", "zip", "dict_itemiterator", "dict_reverseitemiterator", "odict_iterator", "itertools.zip_longest", "itertools.pairwise"].contains n=false) (hQ : Q () s) : wpAny M A (letOwnedTupleGo tg (.ref it) u) Q E s := by
  unfold letOwnedTupleGo
  cases tg <;> first
    | exact wpAny_pure hQ
    | (cases u <;> first
        | exact wpAny_pure hQ
        | (refine wpAny_bind (wpAny_load ho ?_)
           rw [hc, hd]
           show wpAny M A (if (["enumerate", "zip", "dict_itemiterator", "dict_reverseitemiterator", "odict_iterator", "itertools.zip_longest", "itertools.pairwise"].contains n && vs[0]? == some (rawInt _))=true then _ else _) Q E s
           rw [if_neg (by intro h;rw [hn, Bool.false_and] at h;cases h)]
           exact wpAny_pure hQ))
noncomputable def Itl (K:PySem.W.Frag) (a:Addr):It :=
 ⟨fun i H=>∃ xs x,SqL K H a xs∧xs[i]?=some x,fun i H x H'=>H'=H∧∀ xs,SqL K H a xs→xs[i]?=some x,fun i H=>∃ xs,SqL K H a xs∧xs.length≤i⟩
noncomputable def Itt (K:PySem.W.Frag) (a:Addr):It :=
 ⟨fun i H=>∃ xs x,SqT K H a xs∧xs[i]?=some x,fun i H x H'=>H'=H∧∀ xs,SqT K H a xs→xs[i]?=some x,fun i H=>∃ xs,SqT K H a xs∧xs.length≤i⟩
noncomputable def Itr (lo:Int) (n:Nat):It:=⟨fun i _=>i<n,fun i H x H'=>H'=H∧x=.int (lo+i),fun i _=>n≤i⟩
theorem turn_list {P:Program} {w:World} {K:PySem.W.Frag} {tg:Expr} (a it:Addr):Turn P w K tg (Itl K a) [it] it (fun i h=>h.IsListIter it a i) where
 mem:=by simp
 obj:=fun i h st b hb=>by
  have e:b=it:=by simpa using hb
  subst e
  obtain ⟨o,e,c,d⟩:=st
  exact⟨o,e,fun v z=>by rw [d] at z;cases z⟩
 keep:=fun i h h' st k=>st.at fun o e=>k it (by simp) o e
 item:=by
  intro X hP hw hK hc i pins s σ H E I hf st hg
  subst hP hw hK
  obtain ⟨xs,x,hq,hx⟩:=hg
  obtain ⟨its,rv,p,hz⟩:=I.list hq
  obtain ⟨u,hu,ru⟩:=rv.get hx
  obtain ⟨f0,f1,f2,f3,f4,f5⟩:=hf it (by simp)
  refine wpAny_pyNext_list_item st p.isList (x:=u) (by simpa using hu) fun h' st' sb=>?_
  have I1:Inv X pins σ H { s with heap:=h' }:=I.turned (t':=s.toks) (fun b o hb e=>(sb.2 b hb).trans e) f0 f1 f3 f4 f5
  obtain ⟨o,e,c,d⟩:=id st'
  exact⟨u,rfl,go_of (s:={ s with heap:=h' }) e c d (by decide) ⟨x,H,I1,ru,⟨rfl,fun ys hy=>by rw [I.list_inj hy hq];exact hx⟩,st',fun b hb=>(hf b hb).1⟩⟩
 done:=by
  intro X hP hw hK hc i pins s σ H E I hf st hg
  subst hP hw hK
  obtain ⟨xs,hq,hx⟩:=hg
  obtain ⟨its,rv,p,hz⟩:=I.list hq
  obtain ⟨f0,f1,f2,f3,f4,f5⟩:=hf it (by simp)
  have hl:=rv.length
  exact wpAny_pyNext_list_end (I.ok.hd hc) st p.isList (by simp;lia) fun h' eb=>⟨rfl,I.turned (t':=s.toks) (fun b o hb e=>eb b o hb e) f0 f1 f3 f4 f5⟩
 self:=fun _ _ _ _ _ st h=>wpAny_pyIter_listiter st h
theorem turn_tuple {P:Program} {w:World} {K:PySem.W.Frag} {tg:Expr} (a it:Addr):Turn P w K tg (Itt K a) [it] it (fun i h=>h.IsTupleIter it a i) where
 mem:=by simp
 obj:=fun i h st b hb=>by
  have e:b=it:=by simpa using hb
  subst e
  obtain ⟨o,e,c,d⟩:=st
  exact⟨o,e,fun v z=>by rw [d] at z;cases z⟩
 keep:=fun i h h' st k=>st.at fun o e=>k it (by simp) o e
 item:=by
  intro X hP hw hK hc i pins s σ H E I hf st hg
  subst hP hw hK
  obtain ⟨xs,x,hq,hx⟩:=hg
  obtain ⟨its,rv,p,hz⟩:=I.tuple hq
  obtain ⟨u,hu,ru⟩:=rv.get hx
  obtain ⟨f0,f1,f2,f3,f4,f5⟩:=hf it (by simp)
  refine wpAny_pyNext_tuple_item st (show s.heap.IsTuple a its.toArray from p) (x:=u) (by simpa using hu) fun h' st' sb=>?_
  have I1:Inv X pins σ H { s with heap:=h' }:=I.turned (t':=s.toks) (fun b o hb e=>(sb.2 b hb).trans e) f0 f1 f3 f4 f5
  obtain ⟨o,e,c,d⟩:=id st'
  exact⟨u,rfl,go_of (s:={ s with heap:=h' }) e c d (by decide) ⟨x,H,I1,ru,⟨rfl,fun ys hy=>by rw [I.tuple_inj hy hq];exact hx⟩,st',fun b hb=>(hf b hb).1⟩⟩
 done:=by
  intro X hP hw hK hc i pins s σ H E I hf st hg
  subst hP hw hK
  obtain ⟨xs,hq,hx⟩:=hg
  obtain ⟨its,rv,p,hz⟩:=I.tuple hq
  obtain ⟨f0,f1,f2,f3,f4,f5⟩:=hf it (by simp)
  have hl:=rv.length
  exact wpAny_pyNext_tuple_end (I.ok.hd hc) st (show s.heap.IsTuple a its.toArray from p) (by simp;lia) fun h' eb=>⟨rfl,I.turned (t':=s.toks) (fun b o hb e=>eb b o hb e) f0 f1 f3 f4 f5⟩
 self:=fun _ _ _ _ _ st h=>wpAny_pyIter_tupleiter st h
theorem turn_range {P:Program} {w:World} {K:PySem.W.Frag} {tg:Expr} (it:Addr) (lo:Int) (n:Nat):Turn P w K tg (Itr lo n) [it] it (fun i h=>IsRangeIter h it (lo+(i:Nat)*1) ((n:Int) - (i:Nat)) 1) where
 mem:=by simp
 obj:=fun i h st b hb=>by
  have e:b=it:=by simpa using hb
  subst e
  exact⟨_,st,fun v z=>by
   have z':Data.fields _=Data.cell v:=z
   cases z'⟩
 keep:=fun i h h' st k=>k it (by simp) _ st
 item:=by
  intro X hP hw hK hc i pins s σ H E I hf st hg
  subst hP hw hK
  obtain ⟨f0,f1,f2,f3,f4,f5⟩:=hf it (by simp)
  have W:=Walks.range (prog:=X.prog) (w:=X.w) (I.ok.hd hc) it lo 1 n
  refine W.item i s _ _ hg st fun v h' tk hv st' kk=>?_
  obtain ⟨t,rfl⟩:=hv
  have I1:Inv X pins σ H { s with heap:=h',toks:=tk }:=I.turned (fun b o hb e=>kk b o (by simpa using hb) e) f0 f1 f3 f4 f5
  refine⟨_,rfl,go_of (s:={ s with heap:=h',toks:=tk }) (n:="range_iterator") st' rfl rfl (by decide) ⟨.int (lo+i),H,I1,⟨t,?_⟩,⟨rfl,rfl⟩,st',fun b hb=>(hf b hb).1⟩⟩
  rw [Int.mul_one]
 done:=by
  intro X hP hw hK hc i pins s σ H E I hf st hg
  subst hP hw hK
  obtain ⟨f0,f1,f2,f3,f4,f5⟩:=hf it (by simp)
  exact wpAny_pyNext_range_end (I.ok.hd hc) st (by have:n≤i:=hg;lia) fun h' eb=>⟨rfl,I.turned (t':=s.toks) (fun b o hb e=>eb b o hb e) f0 f1 f3 f4 f5⟩
 self:=fun _ _ _ _ _ st h=>wpAny_pyIter_rangeiter st h
end L2
namespace L2
open PySem PySem.Spec PyProof.Rows
section
variable {X:Cx} {tg:Expr}
noncomputable def iList (K:PySem.W.Frag) (tl:TE):TI:=fun σ H R=>tl σ H fun x H1=>∃ a,x=.ref a∧(∃ xs,SqL K H1 a xs)∧R (Itl K a) H1
noncomputable def iTup (K:PySem.W.Frag) (tl:TE):TI:=fun σ H R=>tl σ H fun x H1=>∃ a,x=.ref a∧(∃ xs,SqT K H1 a xs)∧R (Itt K a) H1
theorem pi_list {l:Expr} {tl:TE} (hl:PE X l tl):PI X tg l (iList X.K tl):=by
 intro pins s σ H R I h
 refine thn (hl pins s σ H _ I h) fun v s1 ⟨x,H1,I1,r1,q1⟩=>?_
 obtain ⟨a,e,⟨xs,hq⟩,q⟩:=q1
 subst e
 cases r1
 obtain ⟨its,rv,p,hz⟩:=I1.list hq
 refine wpAny_pyIter_list p.isList ?_
 refine⟨s1.heap.objs.size,[s1.heap.objs.size],_,_,H1,rfl,I1.kept (t':=s1.toks) fun b o e=>Heap.get?_push_of_some _ e,turn_list a _,⟨_,Heap.get?_push_size _ rfl,rfl,rfl⟩,fun b hb=>?_,q⟩
 have e:b=s1.heap.objs.size:=by simpa using hb
 subst e
 exact I1.fpOk (Nat.le_refl _) (I1.hok.fresh (Nat.le_refl _))
theorem pi_tup {l:Expr} {tl:TE} (hl:PE X l tl):PI X tg l (iTup X.K tl):=by
 intro pins s σ H R I h
 refine thn (hl pins s σ H _ I h) fun v s1 ⟨x,H1,I1,r1,q1⟩=>?_
 obtain ⟨a,e,⟨xs,hq⟩,q⟩:=q1
 subst e
 cases r1
 obtain ⟨its,rv,p,hz⟩:=I1.tuple hq
 refine wpAny_pyIter_tuple (show s1.heap.IsTuple a its.toArray from p) ?_
 refine⟨s1.heap.objs.size,[s1.heap.objs.size],_,_,H1,rfl,I1.kept (t':=s1.toks) fun b o e=>Heap.get?_push_of_some _ e,turn_tuple a _,⟨_,Heap.get?_push_size _ rfl,rfl,rfl⟩,fun b hb=>?_,q⟩
 have e:b=s1.heap.objs.size:=by simpa using hb
 subst e
 exact I1.fpOk (Nat.le_refl _) (I1.hok.fresh (Nat.le_refl _))
theorem range_it {pins:List (Addr×Obj)} {σ:St} {H:Hp} {s:Shared} {R:It→Hp→Prop} {E:Value→Shared→Prop} {lo hi:Int} {t u v:Tok} {tk:Nat} (I:Inv X pins σ H s) (h1:-(2 ^ 62)≤lo) (h2:lo<2 ^ 62) (h3:-(2 ^ 62)≤hi) (h4:hi<2 ^ 62)
  (q:R (Itr lo (hi - lo).toNat) H):wpAny (model X.prog X.w) X.A (pyIter (.ref s.heap.objs.size)) (PIE X pins σ tg R) E { s with heap:=s.heap.push { cls:=.type "range",data:=.fields #[.int lo t,.int hi u,.int 1 v] },toks:=tk }:=by
 refine wpAny_pyIter_range (IsRange.new ..) (small_one h1 h2 h3 h4) ?_
 have I1:Inv X pins σ H { s with heap:=s.heap.push { cls:=.type "range",data:=.fields #[.int lo t,.int hi u,.int 1 v] },toks:=tk }:=I.kept fun b o e=>Heap.get?_push_of_some _ e
 refine⟨(s.heap.push { cls:=.type "range",data:=.fields #[.int lo t,.int hi u,.int 1 v] }).objs.size,[(s.heap.push { cls:=.type "range",data:=.fields #[.int lo t,.int hi u,.int 1 v] }).objs.size],_,_,H,rfl,
  I1.kept (t':=tk) fun b o e=>Heap.get?_push_of_some _ e,turn_range _ lo (hi - lo).toNat,?_,fun b hb=>?_,q⟩
 ·have e1:lo+((0:Nat):Int)*1=lo:=by simp
  have e2:(((hi - lo).toNat:Nat):Int) - ((0:Nat):Int)=Builtin.Range.rangeSize lo hi 1:=by rw [rangeSize_one];split <;> lia
  show IsRangeIter _ _ (lo+((0:Nat):Int)*1) ((((hi - lo).toNat:Nat):Int) - ((0:Nat):Int)) 1
  rw [e1,e2]
  exact Heap.get?_push_size _ rfl
 ·have e:b=(s.heap.push { cls:=.type "range",data:=.fields #[.int lo t,.int hi u,.int 1 v] }).objs.size:=by simpa using hb
  subst e
  exact I1.fpOk (Nat.le_refl _) (I1.hok.fresh (Nat.le_refl _))
noncomputable def iRng1 (ta:TA):TI:=fun σ H R=>ta σ H fun vs H1=>∃ j:Int,vs=[.int j]∧-(2 ^ 62)≤j∧j<2 ^ 62∧R (Itr 0 j.toNat) H1
theorem pi_range1 {a:Expr} {ta:TA} {p pos:Pos} (hg:Gl X "range") (hm:X.mg "range"=none) (ha:PA X [a] ta) (hs:starEach [a] X.env=[(false,eval a X.env)]:=by rfl):PI X tg (.Call (.Name "range" p) [a] [] pos) (iRng1 ta):=by
 intro pins s σ H R I h
 refine Call_ (ld_blt I hg hm boot_range (PyProof.Rows.callWith_type1 (thn (ha pos pins s σ H _ I h) fun us s1 ⟨vs,H1,I1,r1,q1⟩=>?_) hs rfl))
 obtain ⟨j,e,q1,q2,q⟩:=q1
 subst e
 cases r1 with
 | cons r rr =>
  cases rr
  obtain ⟨t,rfl⟩:=r
  exact call_range_1 (range_it I1 (by lia) (by lia) q1 q2 (by simpa using q))
noncomputable def tFor (wi:TI) (g:TG) (tb:TS):TS:=fun D σ H=>wi σ H fun J H1=>∃ W:Nat→Nat→St→Hp→Prop,(∃ m,W 0 m σ H1)∧∀ i m σ H,W i m σ H →
 (J.stop i H∧D.nx σ H)∨(J.go i H∧∃ N:St→Hp→Prop,(∀ σ' H',N σ' H'→∃ m',m'<m∧W (i+1) m' σ' H')∧∀ x H',J.yld i H x H'→g x σ H' fun σ2 H2=>tb { D with nx:=N,ct:=N,bk:=D.nx } σ2 H2)
noncomputable def pinsAt (fp:List Addr) (h:Heap):List (Addr×Obj):=fp.filterMap fun b=>(h.get? b).map fun o=>(b,o)
theorem mem_pinsAt {fp:List Addr} {h:Heap} {b:Addr} {o:Obj} (hb:b∈fp) (e:h.get? b=some o):(b,o)∈pinsAt fp h:=List.mem_filterMap.mpr ⟨b,hb,by rw [e];rfl⟩
theorem of_pinsAt {fp:List Addr} {h:Heap} {p:Addr×Obj} (hp:p∈pinsAt fp h):p.1∈fp∧h.get? p.1=some p.2:=by
 obtain ⟨b,hb,e⟩:=List.mem_filterMap.mp hp
 cases q:h.get? b with
 | none=>rw [q] at e;cases e
 | some o =>
  rw [q] at e
  have e':(b,o)=p:=Option.some.inj e
  subst e'
  exact⟨hb,q⟩
theorem Inv.pinned {pins:List (Addr×Obj)} {σ:St} {H:Hp} {s:Shared} {fp:List Addr} (I:Inv X pins σ H s) (hf:∀ b∈fp,FpOk X pins H b) (ho:∀ b∈fp,∃ o,s.heap.get? b=some o∧∀ v,o.data≠.cell v):Inv X (pins++pinsAt fp s.heap) σ H s :=
 I.pins_of fun p hp=>(List.mem_append.mp hp).elim (fun z=>I.pin p (List.mem_append_right _ z)) fun z=>by
  obtain ⟨hb,e⟩:=of_pinsAt z
  obtain ⟨f0,f1,f2,_⟩:=hf p.1 hb
  obtain ⟨o,e',d⟩:=ho p.1 hb
  rw [e] at e';cases e'
  exact⟨e,f0,f1,f2,d⟩
theorem Inv.unpinned {pins pl:List (Addr×Obj)} {σ:St} {H:Hp} {s:Shared} (I:Inv X (pins++pl) σ H s):Inv X pins σ H s:=I.pins_of fun p hp=>I.pin p (List.mem_append_right _ (List.mem_append_left _ hp))
theorem ps_for {iter:Expr} {body:List Stmt} {wi:TI} {g:TG} {tb:TS} {pos:Pos} (hp:PassesOwn (model X.prog X.w) X.A X.env X.xe) (hc:X.calm=true) (hi:PI X tg iter wi) (hg:PG X tg g) (hb:PSs X body tb)
  (hs:∀ x,foldedSetIterable iter X.env x=pure x:=by intro _;rfl):PS X (.For tg iter body [] pos) (tFor wi g tb):=by
 intro pins s σ H D I h
 refine wpAny_For (thn (hi pins s σ H _ I h) fun v s1 h1=>thn h1 fun itv s2 h2=>?_) hs
 obtain ⟨it,fp,tn,J,H2,e,I2,T,st2,f2,W,⟨m0,w0⟩,turn⟩:=h2
 subst e
 have stat:∀ {H':Hp},(∀ b∈fp,H' b=none)→∀ b∈fp,FpOk X pins H' b:=fun hn b hb=>⟨hn b hb,(f2 b hb).2⟩
 refine codeAny_forLoop_any (fun n s'=>∃ i σ' H',Inv X pins σ' H' s'∧tn i s'.heap∧(∀ b∈fp,H' b=none)∧W i n σ' H') ?_ m0 ⟨0,σ,H2,I2,st2,fun b hb=>(f2 b hb).1,w0⟩
 rintro n s3 ⟨i,σ3,H3,I3,st3,fr3,w3⟩
 rcases turn i n σ3 H3 w3 with ⟨stop,qn⟩|⟨go,N,hN,step⟩
 ·refine wpAny_passesOwn hp (thn (T.done X rfl rfl rfl hc i pins s3 σ3 H3 X.xe I3 (stat fr3) st3 stop) fun r s4 ⟨hr,I4⟩=>?_)
  subst hr
  exact wpAny_execs_nil ⟨σ3,H3,I4,qn⟩
 ·refine wpAny_passesOwn hp (thn (T.item X rfl rfl rfl hc i pins s3 σ3 H3 X.xe I3 (stat fr3) st3 go) fun r s4 ⟨u,hr,h4⟩=>?_)
  subst hr
  refine wpAny_passesOwn hp (thn h4 fun _ s5 ⟨x,H5,I5,r5,y5,st5,fr5⟩=>?_)
  have I5':=I5.pinned (stat fr5) (T.obj _ _ st5)
  refine wpAny_passesOwn hp (thn (hg _ s5 σ3 H5 x u _ I5' r5 (step x H5 y5)) fun _ s6 ⟨σ6,H6,I6,q6⟩=>?_)
  refine wpAny_passesOwn hp (thn (hb _ s6 σ6 H6 _ I6 q6) fun f s7 q7=>?_)
  have again:∀ {σ7:St} {H7:Hp},Inv X (pins++pinsAt fp s5.heap) σ7 H7 s7→N σ7 H7→∃ m,m<n∧∃ i σ' H',Inv X pins σ' H' s7∧tn i s7.heap∧(∀ b∈fp,H' b=none)∧W i m σ' H':=fun {σ7 H7} I7 n7=>by
   obtain ⟨m',hm,w7⟩:=hN σ7 H7 n7
   refine⟨m',hm,i+1,σ7,H7,I7.unpinned,T.keep _ _ _ st5 fun b hb o e=>(I7.pin (b,o) (List.mem_append_right _ (List.mem_append_right _ (mem_pinsAt hb e)))).1,fun b hb=>?_,w7⟩
   obtain ⟨o,e,d⟩:=T.obj _ _ st5 b hb
   exact (I7.pin (b,o) (List.mem_append_right _ (List.mem_append_right _ (mem_pinsAt hb e)))).2.1
  cases f with
  | next=>obtain ⟨σ7,H7,I7,n7⟩:=q7;exact again I7 n7
  | cont=>obtain ⟨σ7,H7,I7,n7⟩:=q7;exact again I7 n7
  | brk=>obtain ⟨σ7,H7,I7,q7⟩:=q7;exact⟨σ7,H7,I7.unpinned,q7⟩
  | ret v=>obtain ⟨x7,σ7,H7,I7,r7,q7⟩:=q7;exact⟨x7,σ7,H7,I7.unpinned,r7,q7⟩
end
theorem for_range {lo:Int} {n:Nat} {g:TG} {tb:TS} {D:Ends} {σ:St} {H:Hp} (Pv:Nat→St→Hp→Prop) (h0:Pv 0 σ H)
  (hs:∀ i σ H,i<n→Pv i σ H→g (.int (lo+i)) σ H fun σ2 H2=>tb { D with nx:=Pv (i+1),ct:=Pv (i+1),bk:=D.nx } σ2 H2) (hd:∀ σ H,Pv n σ H→D.nx σ H) :
  ∃ W:Nat→Nat→St→Hp→Prop,(∃ m,W 0 m σ H)∧∀ i m σ H,W i m σ H →
   ((Itr lo n).stop i H∧D.nx σ H)∨((Itr lo n).go i H∧∃ N:St→Hp→Prop,(∀ σ' H',N σ' H'→∃ m',m'<m∧W (i+1) m' σ' H')∧∀ x H',(Itr lo n).yld i H x H'→g x σ H' fun σ2 H2=>tb { D with nx:=N,ct:=N,bk:=D.nx } σ2 H2):=by
 refine⟨fun i m σ H=>m=n - i∧i≤n∧Pv i σ H,⟨n,by simp,Nat.zero_le _,h0⟩,?_⟩
 rintro i m σ H ⟨rfl,hi,p⟩
 by_cases hlt:i<n
 ·refine .inr ⟨hlt,Pv (i+1),fun σ' H' p'=>⟨n - (i+1),by lia,rfl,hlt,p'⟩,fun x H' y=>?_⟩
  obtain ⟨e,y⟩:=y
  subst e y
  exact hs i σ _ hlt p
 ·have e:i=n:=by lia
  subst e
  exact .inl ⟨Nat.le_refl _,hd σ H p⟩
end L2
namespace L2
open PySem PySem.Spec PyProof.Rows
noncomputable abbrev R2:=V→V→Hp→VK→Prop
noncomputable def OpR (X:Cx) (f:Value→Value→Sem Value) (r:R2):Prop :=
 ∀ (pins:List (Addr×Obj)) (s:Shared) (σ:St) (H:Hp) (x y:V) (v u:Value) (Q:VK),Inv X pins σ H s→RelV x v→RelV y u→r x y H Q →
  wpAny (model X.prog X.w) X.A (f v u) (EP X pins σ Q) X.xe s
noncomputable def CallR (X:Cx) (f:Value) (r:List V→Hp→VK→Prop):Prop :=
 ∀ (pins:List (Addr×Obj)) (s:Shared) (σ:St) (H:Hp) (xs:List V) (us:List Value) (Q:VK),Inv X pins σ H s→Vals xs us→r xs H Q →
  wpAny (model X.prog X.w) X.A (call f us) (EP X pins σ Q) X.xe s
noncomputable def tOp (r:R2) (ta tb:TE):TE:=fun σ H Q=>ta σ H fun x H1=>tb σ H1 fun y H2=>r x y H2 Q
noncomputable def rI (C:Int→Int→Prop) (g:Int→Int→V):R2:=fun x y H Q=>∃ i j,x=.int i∧y=.int j∧C i j∧Q (g i j) H
noncomputable def rI0 (g:Int→Int→V):R2:=fun x y H Q=>∃ i j,x=.int i∧y=.int j∧Q (g i j) H
section
variable {X:Cx} {a b c:Expr} {ta tb tc:TE} {pos:Pos}
theorem binT (ha:PE X a ta) (hb:PE X b tb) {pins:List (Addr×Obj)} {s:Shared} {σ:St} {H:Hp} {R:V→V→Hp→Prop} (I:Inv X pins σ H s)
  (h:ta σ H fun x H1=>tb σ H1 fun y H2=>R x y H2) {Q:Value→Shared→Prop} {f:Value→Value→Sem Value}
  (hf:∀ v u s2 x y H2,Inv X pins σ H2 s2→RelV x v→RelV y u→R x y H2→wpAny (model X.prog X.w) X.A (f v u) Q X.xe s2) :
  wpAny (model X.prog X.w) X.A (eval a X.env) (fun v s₁=>wpAny (model X.prog X.w) X.A (eval b X.env) (fun u s₂=>wpAny (model X.prog X.w) X.A (f v u) Q X.xe s₂) X.xe s₁) X.xe s:=by
 refine thn (ha pins s σ H _ I h) fun v s1 ⟨x,H1,I1,r1,q1⟩=>?_
 refine thn (hb pins s1 σ H1 _ I1 q1) fun u s2 ⟨y,H2,I2,r2,q2⟩=>?_
 exact hf v u s2 x y H2 I2 r1 r2 q2
theorem pe_op {op:Operator} {r:R2} (ho:OpR X (binaryOp op) r) (ha:PE X a ta) (hb:PE X b tb):PE X (.BinOp a op b pos) (tOp r ta tb):=by
 intro pins s σ H Q I h
 exact wpAny_BinOp (binT ha hb I h fun v u s2 x y H2 I2 rx ry q=>ho pins s2 σ H2 x y v u Q I2 rx ry q)
theorem opI {f:Value→Value→Sem Value} {C:Int→Int→Prop} {g:Int→Int→Int}
  (rule:∀ (i j:Int) (t u:Tok) (s:Shared) (Q:Value→Shared→Prop) (E:Value→Shared→Prop),C i j→Q (.int (g i j) s.toks) { s with toks:=s.toks+1 }→wpAny (model X.prog X.w) X.A (f (.int i t) (.int j u)) Q E s) :
  OpR X f (rI C fun i j=>.int (g i j)):=by
 intro pins s σ H x y v u Q I rx ry h
 obtain ⟨i,j,rfl,rfl,hc,q⟩:=h
 obtain ⟨t,rfl⟩:=rx
 obtain ⟨t',rfl⟩:=ry
 exact rule i j t t' s _ _ hc ⟨.int (g i j),H,I.tok _,⟨_,rfl⟩,q⟩
theorem opI0 {f:Value→Value→Sem Value} {g:Int→Int→Int}
  (rule:∀ (i j:Int) (t u:Tok) (s:Shared) (Q:Value→Shared→Prop) (E:Value→Shared→Prop),Q (.int (g i j) s.toks) { s with toks:=s.toks+1 }→wpAny (model X.prog X.w) X.A (f (.int i t) (.int j u)) Q E s) :
  OpR X f (rI0 fun i j=>.int (g i j)):=by
 intro pins s σ H x y v u Q I rx ry h
 obtain ⟨i,j,rfl,rfl,q⟩:=h
 obtain ⟨t,rfl⟩:=rx
 obtain ⟨t',rfl⟩:=ry
 exact rule i j t t' s _ _ ⟨.int (g i j),H,I.tok _,⟨_,rfl⟩,q⟩
theorem opB0 {f:Value→Value→Sem Value} {g:Int→Int→Bool}
  (rule:∀ (i j:Int) (t u:Tok) (s:Shared) (Q:Value→Shared→Prop) (E:Value→Shared→Prop),Q (.bool (g i j)) s→wpAny (model X.prog X.w) X.A (f (.int i t) (.int j u)) Q E s) :
  OpR X f (rI0 fun i j=>.bl (g i j)):=by
 intro pins s σ H x y v u Q I rx ry h
 obtain ⟨i,j,rfl,rfl,q⟩:=h
 obtain ⟨t,rfl⟩:=rx
 obtain ⟨t',rfl⟩:=ry
 exact rule i j t t' s _ _ ⟨.bl (g i j),H,I,rfl,q⟩
noncomputable def CDiv (i j:Int):Prop:=0<j∧j<1073741824
noncomputable def CPow (i j:Int):Prop:=0≤j∧j≤1000000∧i.natAbs<2 ^ 64
noncomputable def CMul (i j:Int):Prop:=(-(2 ^ 64)<i∧i<2 ^ 64)∨(-(2 ^ 64)<j∧j<2 ^ 64)
theorem CMul.ok {i j:Int} (h:CMul i j):IntMulOk i j:=by
 rcases h with ⟨h1,h2⟩|⟨h1,h2⟩
 ·exact .of_left (intBits_le_64 h1 h2)
 ·exact .of_right (intBits_le_64 h1 h2)
theorem op_add:OpR X (binaryOp .Add) (rI0 fun i j=>.int (i+j)):=opI0 fun _ _ _ _ _ _ _ q=>add_int q
theorem op_sub:OpR X (binaryOp .Sub) (rI0 fun i j=>.int (i - j)):=opI0 fun _ _ _ _ _ _ _ q=>sub_int q
theorem op_mul:OpR X (binaryOp .Mult) (rI CMul fun i j=>.int (i*j)):=opI fun _ _ _ _ _ _ _ hc q=>mul_int q hc.ok
theorem op_fdiv:OpR X (binaryOp .FloorDiv) (rI CDiv fun i j=>.int (i / j)):=opI fun i j _ _ _ _ _ hc q=>by
 have h1:(0:Int)<j:=hc.1
 have h2:j<1073741824:=hc.2
 exact floordiv_int (by lia) (by rw [Int.fdiv_eq_ediv_of_nonneg i (by lia)];exact q) (.inl (PyProof.noPylong_small (by lia)))
theorem op_mod:OpR X (binaryOp .Mod) (rI (fun _ j=>0<j) fun i j=>.int (i % j)):=opI fun i j _ _ _ _ _ hc q=>by
 have h1:(0:Int)<j:=hc
 exact mod_int' (by lia) (by rw [Int.fmod_eq_emod_of_nonneg i (by lia)];exact q)
theorem op_pow:OpR X (binaryOp .Pow) (rI CPow fun i j=>.int (i ^ j.toNat)):=opI fun _ _ _ _ _ _ _ hc q=>pow_int_small hc.1 hc.2.1 hc.2.2 q
end
noncomputable def scal:V→V→Bool
 | .non,.non=>true|.non,.int _=>true|.int _,.non=>true|.non,.bl _=>true|.bl _,.non=>true|.non,.str _=>true|.str _,.non=>true
 | .int _,.int _=>true|.bl _,.bl _=>true|.str _,.str _=>true|.byt _,.byt _=>true
 | .int _,.str _=>true|.str _,.int _=>true|.bl _,.str _=>true|.str _,.bl _=>true
 | _,_=>false
noncomputable def rEq:R2:=fun x y H Q=>scal x y=true∧Q (.bl (decide (x=y))) H
noncomputable def rNe:R2:=fun x y H Q=>scal x y=true∧Q (.bl (!decide (x=y))) H
theorem dec_int {i j:Int}:decide (V.int i=V.int j)=(i == j):=by
 rw [Bool.eq_iff_iff]
 simp
theorem dec_bl {i j:Bool}:decide (V.bl i=V.bl j)=(i == j):=by
 rw [Bool.eq_iff_iff]
 simp
theorem dec_str {i j:Str}:decide (V.str i=V.str j)=(i == j):=by
 rw [Bool.eq_iff_iff]
 simp
theorem dec_byt {i j:Array UInt8}:decide (V.byt i=V.byt j)=(i.toList == j.toList):=by
 rw [Bool.eq_iff_iff]
 cases i
 cases j
 simp
section
variable {X:Cx} {a b c:Expr} {ta tb tc:TE} {pos:Pos}
theorem fin_bl {pins:List (Addr×Obj)} {σ:St} {H:Hp} {s:Shared} {Q:VK} {k k':Bool} (I:Inv X pins σ H s) (q:Q (.bl k) H) (e:k=k'):EP X pins σ Q (.bool k') s:=by
 subst e
 exact⟨.bl k,H,I,rfl,q⟩
theorem op_eq:OpR X (compareOp .Eq) rEq:=by
 intro pins s σ H x y v u Q I rx ry h
 obtain ⟨hs,q⟩:=h
 cases x with
 | non =>
  cases rx
  cases y with
  | non=>cases ry;exact PySem.EqNone.eq_none_none (fin_bl I q (by simp))
  | bl j=>cases ry;exact PySem.EqNone.eq_none_bool (fin_bl I q (by simp))
  | int j=>obtain ⟨t',rfl⟩:=ry;exact PySem.EqNone.eq_none_int (fin_bl I q (by simp))
  | str j=>obtain ⟨t',rfl⟩:=ry;exact PySem.EqNone.eq_none_str (fin_bl I q (by simp))
  | _=>exact absurd (show false=true from hs) Bool.false_ne_true
 | bl i =>
  cases rx
  cases y with
  | non=>cases ry;exact PySem.EqNone.eq_bool_none (fin_bl I q (by simp))
  | bl j=>cases ry;exact eq_bool (fin_bl I q dec_bl)
  | str j=>obtain ⟨t',rfl⟩:=ry;exact PySem.EqMixed.eq_bool_str (fin_bl I q (by simp))
  | _=>exact absurd (show false=true from hs) Bool.false_ne_true
 | int i =>
  obtain ⟨t,rfl⟩:=rx
  cases y with
  | non=>cases ry;exact PySem.EqNone.eq_int_none (fin_bl I q (by simp))
  | int j=>obtain ⟨t',rfl⟩:=ry;exact eq_int (fin_bl I q dec_int)
  | str j=>obtain ⟨t',rfl⟩:=ry;exact PySem.EqMixed.eq_int_str (fin_bl I q (by simp))
  | _=>exact absurd (show false=true from hs) Bool.false_ne_true
 | str i =>
  obtain ⟨t,rfl⟩:=rx
  cases y with
  | non=>cases ry;exact PySem.EqNone.eq_str_none (fin_bl I q (by simp))
  | bl j=>cases ry;exact PySem.EqMixed.eq_str_bool (fin_bl I q (by simp))
  | int j=>obtain ⟨t',rfl⟩:=ry;exact PySem.EqMixed.eq_str_int (fin_bl I q (by simp))
  | str j=>obtain ⟨t',rfl⟩:=ry;exact eq_str (fin_bl I q dec_str)
  | _=>exact absurd (show false=true from hs) Bool.false_ne_true
 | byt i =>
  obtain ⟨t,rfl⟩:=rx
  cases y with
  | byt j=>obtain ⟨t',rfl⟩:=ry;exact PySem.W.eq_bytes (fin_bl I q dec_byt)
  | _=>exact absurd (show false=true from hs) Bool.false_ne_true
 | _=>cases y <;> exact absurd (show false=true from hs) Bool.false_ne_true
theorem op_ne:OpR X (compareOp .NotEq) rNe:=by
 intro pins s σ H x y v u Q I rx ry h
 obtain ⟨hs,q⟩:=h
 cases x with
 | non =>
  cases rx
  cases y with
  | non=>cases ry;exact PySem.EqNone.ne_none_none (fin_bl I q (by simp))
  | bl j=>cases ry;exact PySem.EqNone.ne_none_bool (fin_bl I q (by simp))
  | int j=>obtain ⟨t',rfl⟩:=ry;exact PySem.EqNone.ne_none_int (fin_bl I q (by simp))
  | str j=>obtain ⟨t',rfl⟩:=ry;exact PySem.EqNone.ne_none_str (fin_bl I q (by simp))
  | _=>exact absurd (show false=true from hs) Bool.false_ne_true
 | bl i =>
  cases rx
  cases y with
  | non=>cases ry;exact PySem.EqNone.ne_bool_none (fin_bl I q (by simp))
  | bl j=>cases ry;exact ne_bool (fin_bl I q (congrArg not dec_bl))
  | str j=>obtain ⟨t',rfl⟩:=ry;exact PySem.EqMixed.ne_bool_str (fin_bl I q (by simp))
  | _=>exact absurd (show false=true from hs) Bool.false_ne_true
 | int i =>
  obtain ⟨t,rfl⟩:=rx
  cases y with
  | non=>cases ry;exact PySem.EqNone.ne_int_none (fin_bl I q (by simp))
  | int j=>obtain ⟨t',rfl⟩:=ry;exact ne_int (fin_bl I q (congrArg not dec_int))
  | str j=>obtain ⟨t',rfl⟩:=ry;exact PySem.EqMixed.ne_int_str (fin_bl I q (by simp))
  | _=>exact absurd (show false=true from hs) Bool.false_ne_true
 | str i =>
  obtain ⟨t,rfl⟩:=rx
  cases y with
  | non=>cases ry;exact PySem.EqNone.ne_str_none (fin_bl I q (by simp))
  | bl j=>cases ry;exact PySem.EqMixed.ne_str_bool (fin_bl I q (by simp))
  | int j=>obtain ⟨t',rfl⟩:=ry;exact PySem.EqMixed.ne_str_int (fin_bl I q (by simp))
  | str j=>obtain ⟨t',rfl⟩:=ry;exact ne_str (fin_bl I q (congrArg not dec_str))
  | _=>exact absurd (show false=true from hs) Bool.false_ne_true
 | byt i =>
  obtain ⟨t,rfl⟩:=rx
  cases y with
  | byt j=>obtain ⟨t',rfl⟩:=ry;exact PySem.W.ne_bytes (fin_bl I q (congrArg not dec_byt))
  | _=>exact absurd (show false=true from hs) Bool.false_ne_true
 | _=>cases y <;> exact absurd (show false=true from hs) Bool.false_ne_true
theorem op_lt:OpR X (compareOp .Lt) (rI0 fun i j=>.bl (decide (i<j))):=opB0 fun _ _ _ _ _ _ _ q=>lt_int q
theorem op_le:OpR X (compareOp .LtE) (rI0 fun i j=>.bl (decide (i≤j))):=opB0 fun _ _ _ _ _ _ _ q=>le_int q
theorem op_gt:OpR X (compareOp .Gt) (rI0 fun i j=>.bl (decide (j<i))):=opB0 fun _ _ _ _ _ _ _ q=>gt_int q
theorem op_notN:OpR X (compareOp .IsNot) (fun x y H Q=>y=.non∧Q (.bl (!decide (x=.non))) H):=by
 intro pins s σ H x y v u Q I rx ry h
 obtain ⟨rfl,q⟩:=h
 cases ry
 refine isnot_none_gen (fin_bl I q ?_)
 cases x <;> first
  | (cases rx;rfl)
  | (obtain ⟨t,rfl⟩:=rx;rfl)
theorem nomark (b:Expr) {op:CmpOp} (h:op≠.In:=by decide) (h2:op≠.NotIn:=by decide):behindInMarks op b=false:=by
 have e1:(op == CmpOp.In)=false:=by cases op <;> first|rfl|exact absurd rfl h
 have e2:(op == CmpOp.NotIn)=false:=by cases op <;> first|rfl|exact absurd rfl h2
 cases b <;> simp [behindInMarks,e1,e2]
theorem pe_cmpR {op:CmpOp} {r:R2} (ho:OpR X (compareOp op) r) (ha:PE X a ta) (hb:PE X b tb) (hm:behindInMarks op b=false):PE X (.Compare a [op] [b] pos) (tOp r ta tb):=by
 intro pins s σ H Q I h
 exact wpAny_Compare1 (binT ha hb I h fun v u s2 x y H2 I2 rx ry q=>ho pins s2 σ H2 x y v u Q I2 rx ry q) hm
noncomputable def tTest (t:TE):TT:=fun σ H Q=>t σ H fun x H'=>∃ k,x=.bl k∧Q k H'
theorem pt_cmpR {op:CmpOp} {r:R2} (ho:OpR X (compareOp op) r) (ha:PE X a ta) (hb:PE X b tb) (hm:behindInMarks op b=false):PT X (.Compare a [op] [b] pos) (tTest (tOp r ta tb)):=by
 intro pins s σ H Q I h
 refine wpAny_isTrue_Compare1 (thn (ha pins s σ H _ I h) fun v s1 ⟨x,H1,I1,r1,q1⟩=>thn (hb pins s1 σ H1 _ I1 q1) fun u s2 ⟨y,H2,I2,r2,q2⟩ =>
  thn (ho pins s2 σ H2 x y v u _ I2 r1 r2 q2) fun c s3 ⟨z,H3,I3,r3,k,e,q3⟩=>?_) hm
 subst e
 cases r3
 exact wpAny_truthy_bool ⟨H3,I3,q3⟩
noncomputable def tChain (r r':R2) (ta tb tc:TE):TE:=fun σ H Q=>ta σ H fun x H1=>tb σ H1 fun y H2=>r x y H2 fun z H3=>∃ k,z=.bl k ∧
 (if k=true then tc σ H3 fun w' H4=>r' y w' H4 Q else Q (.bl false) H3)
theorem pt_chain {op op':CmpOp} {r r':R2} (ho:OpR X (compareOp op) r) (ho':OpR X (compareOp op') r') (ha:PE X a ta) (hb:PE X b tb) (hc:PE X c tc)
  (hm:lastMarks [op,op'] [b,c]=false:=by with_unfolding_all rfl):PT X (.Compare a [op,op'] [b,c] pos) (tTest (tChain r r' ta tb tc)):=by
 intro pins s σ H Q I h
 refine isTrue_chain (thn (ha pins s σ H _ I h) fun v s1 ⟨x,H1,I1,r1,q1⟩=>test_link (thn (hb pins s1 σ H1 _ I1 q1) fun u s2 ⟨y,H2,I2,r2,q2⟩ =>
  thn (ho pins s2 σ H2 x y v u _ I2 r1 r2 q2) fun d s3 ⟨z,H3,I3,r3,k,e,q3⟩=>?_)) hm
 subst e
 cases r3
 refine wpAny_truthy_bool ?_
 cases k with
 | false =>
  obtain ⟨k',e',q'⟩:=q3
  cases e'
  exact ite_ff ⟨H3,I3,q'⟩
 | true =>
  refine ite_tt (test_last (thn (hc pins s3 σ H3 _ I3 q3) fun w' s4 ⟨z',H4,I4,r4,q4⟩=>thn (ho' pins s4 σ H4 y z' u w' _ I4 r2 r4 q4) fun d' s5 ⟨z2,H5,I5,r5,k2,e2,q5⟩=>?_))
  subst e2
  cases r5
  exact wpAny_truthy_bool ⟨H5,I5,q5⟩
theorem line63:(sizeLine:Nat)<2 ^ 63:=by rw [sizeLine_eq];decide
theorem vals1 {x:V} {us:List Value} (r:Vals [x] us):∃ u,us=[u]∧RelV x u:=by
 cases r with
 | cons r1 r2=>cases r2;exact⟨_,rfl,r1⟩
theorem vals2 {x y:V} {us:List Value} (r:Vals [x,y] us):∃ u w',us=[u,w']∧RelV x u∧RelV y w':=by
 cases r with
 | cons r1 r2 =>
  cases r2 with
  | cons r3 r4=>cases r4;exact⟨_,_,rfl,r1,r3⟩
theorem call_abs:CallR X (.builtin "abs") (fun xs H Q=>∃ i,xs=[.int i]∧Q (.int (if i<0 then -i else i)) H):=by
 intro pins s σ H xs us Q I r h
 obtain ⟨i,rfl,q⟩:=h
 obtain ⟨u,rfl,t,rfl⟩:=vals1 r
 exact call_abs_int fun u tk=>⟨.int (if i<0 then -i else i),H,I.tok _,⟨_,rfl⟩,q⟩
theorem call_min2 (hc:X.calm=true):CallR X (.builtin "min") (fun xs H Q=>∃ i j,xs=[.int i,.int j]∧Q (.int (if j<i then j else i)) H):=by
 intro pins s σ H xs us Q I r h
 obtain ⟨i,j,rfl,q⟩:=h
 obtain ⟨u,w',rfl,⟨t,rfl⟩,⟨t',rfl⟩⟩:=vals2 r
 refine min_two_ints (I.ok.hd hc) fun h' tk k=>⟨_,H,I.kept k,?_,q⟩
 by_cases hj:j<i
 ·rw [if_pos hj,if_pos hj];exact⟨_,rfl⟩
 ·rw [if_neg hj,if_neg hj];exact⟨_,rfl⟩
end
end L2
namespace L2
open PySem PySem.Spec PyProof.Rows
structure ObjM (h:Heap) (x dx C:Addr) (mA:Str→Option Value):Prop where
 obj:h.get? x=some (PySem.W.instObj C dx)
 ns:h.Ns1 dx mA
 ne:dx≠x
theorem lookIn_ns {h:Heap} {dx:Addr} {mA:Str→Option Value} (n:h.Ns1 dx mA):∃ od,h.get? dx=some od∧∀ name,PySem.W.lookIn name od=some (mA name):=by
 obtain ⟨o,es,ep,ho,hd,hk,_,hm⟩:=n
 refine⟨o,ho,fun name=>?_⟩
 have e:=hm name
 unfold nsFind findBy at e
 rw [← Array.find?_toList] at e
 unfold PySem.W.lookIn
 rw [hd]
 dsimp only
 split
 ·rename_i y q
  rw [q] at e
  exact congrArg some e
 ·rename_i q
  rw [q] at e
  have a:es.toList.any (·.refKey)=false:=by
   rw [List.any_eq_false]
   intro y hy
   obtain ⟨z,t,hkey⟩:=hk y (Array.mem_toList_iff.mp hy)
   simp [DictEntry.refKey,hkey]
  have a':¬ es.toList.any (·.refKey)=true:=by rw [a];exact Bool.false_ne_true
  rw [if_neg a']
  exact congrArg some e
theorem ObjM.look {h:Heap} {x dx C:Addr} {mA:Str→Option Value} (I:ObjM h x dx C mA):∃ od,PySem.W.InstAt h x (PySem.W.instObj C dx) C (some od)∧∀ name,PySem.W.lookIn name od=some (mA name) :=
 let ⟨od,ho,hl⟩:=lookIn_ns I.ns
 ⟨od,⟨I.obj,rfl,rfl,ho⟩,hl⟩
section
variable {prog:Program} {w:World} {A:Around} {E:Value→Shared→Prop} {s:Shared} {K:PySem.W.Frag} {x dx C f:Addr} {mA:Str→Option Value} {name:Str} {v:Value}
theorem get_map {expr:Bool} {Q:Value→Shared→Prop} (X:K.In s.heap) (I:ObjM s.heap x dx C mA) (hg:PySem.W.plainGet K C name=true) (hh:PySem.W.hasDictIn K C=true)
  (ha:PySem.W.findIn K (.ref C) name=some none) (hv:mA name=some v) (hv':PySem.W.handedIn v=true) (h:Q v { s with toks:=s.toks+1 }) :
  wpAny (model prog w) A (getAttr (.ref x) name expr) Q E s:=by
 obtain ⟨od,J,hl⟩:=I.look
 exact PySem.W.get_value X J (PySem.W.plainGet_of hg).1 (PySem.W.findObj_own hh ha rfl (by rw [hl,hv])) hv' h
theorem get_meth {pl:Sem Bool} {Q:Value×List Value→Shared→Prop} (X:K.In s.heap) (I:ObjM s.heap x dx C mA) (hg:PySem.W.plainGet K C name=true)
  (hf:PySem.W.findIn K (.ref C) name=some (some (.ref f))) (ht:PySem.W.isFn K (.ref f)=true) (hv:mA name=none) (h:Q (.ref f,[.ref x]) s) :
  wpAny (model prog w) A (getMethod (.ref x) name pl) Q E s:=by
 obtain ⟨od,J,hl⟩:=I.look
 exact PySem.W.method_fn X J (PySem.W.plainGet_of hg).1 (PySem.W.plainGet_of hg).2 hf (beq_iff_eq.mp ht) (by show (PySem.W.lookIn name od).map (·.isSome)=some false;rw [hl,hv];rfl) h
theorem set_map {ns:List Str} {Q:Unit→Shared→Prop} (X:K.In s.heap) (I:ObjM s.heap x dx C mA)
  (hs:PySem.W.findIn K (.ref C) "__setattr__"=some (some (.builtin "object.__setattr__"))) (hp:PySem.W.plainOver K C=true) (ht:PySem.W.takerIn K C name=some none) (hh:PySem.W.hasDictIn K C=true)
  (hw:PySem.Within mA ns) (hsz:ns.length≤sizeLine)
  (h:∀ h',ObjM h' x dx C (fun y=>if y=name then some v else mA y)→Heap.SameBut dx s.heap h'→Q () { s with heap:=h',toks:=s.toks+2 }) :
  wpAny (model prog w) A (setAttr (.ref x) name v) Q E s:=by
 obtain ⟨od,J,hl⟩:=I.look
 refine PySem.W.set_plain X J hs (PySem.W.osa_open (s:={ s with toks:=s.toks+1 }) (r:=none) X J hp ht fun b=>?_)
 obtain ⟨cd,hc,hd'⟩:=PySem.W.any_some hh
 have hx:s.heap.get? x=some ⟨.ref C,some dx,.plain,#[]⟩:=I.obj
 refine wpAny_bind (wpAny_pure (wpAny_bind (wpAny_bind (wpAny_loadPart hx (wpAny_bind (PySem.W.Looks.here (s:={ s with toks:=s.toks+1 }) (PySem.W.looks_clsIn X hc) ?_))))))
 rw [hd']
 refine wpAny_pure (a:=some dx) (wpAny_bind (wpAny_pure (wpAny_bind ?_)))
 refine wpAny_nsSet1 (s:={ s with toks:=s.toks+1 }) I.ns fun h' hn2 hs2=>?_
 obtain ⟨oD,esD,epD,hoD,hdD,hcD⟩:=hn2.count (PySem.Within.cons name v hw)
 refine wpAny_bind (wpAny_lookBehind hoD (by rw [hdD];exact pastItsLine_dict (Nat.le_trans hcD (by rw [List.length_cons];lia))) ?_)
 exact wpAny_pure (h _ ⟨(hs2.2 _ (Ne.symm I.ne)).trans I.obj,hn2,I.ne⟩ hs2)
theorem make_map {R:Result→Shared→Prop} {vs:List Value} {kw:List (Str×Value)} (X:K.In s.heap) (hm:PySem.W.makesIn K C=true)
  (hi:PySem.W.findIn K (.ref C) "__init__"=some (some (.ref f))) (hf:PySem.W.typeIn K (.ref f)=some (.type "function"))
  (h:codeAny (model prog w) (A.under (.builtin "type.__call__" ⟨.ref C::vs,kw⟩)) (.call (.ref f) ⟨.ref (s.heap.objs.size+1)::vs,kw⟩) (PySem.W.InitBack (s.heap.objs.size+1) R)
   { s with heap:=(s.heap.push PySem.W.emptyDict).push (PySem.W.instObj C s.heap.objs.size) }) :
  codeAny (model prog w) A (.call (.ref C) ⟨vs,kw⟩) R s:=by
 obtain ⟨hh,g,d,t,os⟩:=s
 exact PySem.W.make_core (PySem.W.makes_of X hm) (PySem.W.looks_findIn X hi) (fun self=>PySem.W.bind_fn X self hf) (.inl rfl) h
end
noncomputable def putF (f:Str) (v:V):List (Str×V)→List (Str×V)
 | []=>[(f,v)]
 | (g,x)::r=>if g=f then (g,v)::r else (g,x)::putF f v r
theorem lookup_putF (f g:Str) (v:V):∀ fs:List (Str×V),(putF f v fs).lookup g=if g=f then some v else fs.lookup g
 | []=>by
  show List.lookup g [(f,v)]=_
  by_cases h:g=f
  ·have hb:(g == f)=true:=beq_iff_eq.mpr h
   simp only [List.lookup,hb,if_pos h]
  ·have hb:(g == f)=false:=beq_eq_false_iff_ne.mpr h
   simp only [List.lookup,hb,if_neg h]
 | (k,x)::r=>by
  have ih:=lookup_putF f g v r
  rw [show putF f v ((k,x)::r)=(if k=f then (k,v)::r else (k,x)::putF f v r) from rfl]
  by_cases hk:k=f
  ·rw [if_pos hk]
   by_cases h:g=k
   ·have hb:(g == k)=true:=beq_iff_eq.mpr h
    simp only [List.lookup,hb,if_pos (h.trans hk)]
   ·have hb:(g == k)=false:=beq_eq_false_iff_ne.mpr h
    simp only [List.lookup,hb,if_neg (fun e:g=f=>h (e.trans hk.symm))]
  ·rw [if_neg hk]
   by_cases h:g=k
   ·have hb:(g == k)=true:=beq_iff_eq.mpr h
    simp only [List.lookup,hb,if_neg (fun e:g=f=>hk (h.symm.trans e))]
   ·have hb:(g == k)=false:=beq_eq_false_iff_ne.mpr h
    simp only [List.lookup,hb]
    exact ih
theorem keys_putF (f:Str) (v:V):∀ fs:List (Str×V),f∈(putF f v fs).map (·.1)∧∀ g,g∈fs.map (·.1)→g∈(putF f v fs).map (·.1)
 | []=>⟨by simp [putF],fun g h=>by simp at h⟩
 | (k,x)::r=>by
  obtain ⟨i1,i2⟩:=keys_putF f v r
  rw [show putF f v ((k,x)::r)=(if k=f then (k,v)::r else (k,x)::putF f v r) from rfl]
  by_cases hk:k=f
  ·rw [if_pos hk]
   subst hk
   exact⟨by simp,fun g h=>by simpa using h⟩
  ·rw [if_neg hk]
   refine⟨?_,fun g h=>?_⟩
   ·rw [List.map_cons]
    exact List.mem_cons_of_mem _ i1
   ·rw [List.map_cons] at h ⊢
    rcases List.mem_cons.mp h with e|e
    ·exact List.mem_cons.mpr (.inl e)
    ·exact List.mem_cons_of_mem _ (i2 g e)
theorem length_putF (f:Str) (v:V):∀ fs:List (Str×V),(putF f v fs).length≤fs.length+1
 | []=>by simp [putF]
 | (k,x)::r=>by
  have ih:=length_putF f v r
  rw [show putF f v ((k,x)::r)=(if k=f then (k,v)::r else (k,x)::putF f v r) from rfl]
  by_cases hk:k=f
  ·rw [if_pos hk,List.length_cons,List.length_cons];lia
  ·rw [if_neg hk,List.length_cons,List.length_cons];lia
theorem RelO.some_of {v:V} {o:Option Value} (r:RelO (some v) o):∃ u,o=some u∧RelV v u:=by
 cases o with
 | none=>exact (show False from r).elim
 | some u=>exact⟨u,rfl,r⟩
theorem RelO.none_of {o:Option Value} (r:RelO none o):o=none:=by
 cases o with
 | none=>rfl
 | some u=>exact (show False from r).elim
theorem handed_of {v:V} {u:Value} (r:RelV v u):PySem.W.handedIn u=true:=by
 cases v with
 | non=>cases (show u=Value.none from r);rfl
 | bl b=>cases (show u=Value.bool b from r);rfl
 | int i=>obtain ⟨t,e⟩:=(show ∃ t,u=Value.int i t from r);cases e;rfl
 | str x=>obtain ⟨t,e⟩:=(show ∃ t,u=Value.str x t from r);cases e;rfl
 | byt b=>obtain ⟨t,e⟩:=(show ∃ t,u=Value.bytes b t from r);cases e;rfl
 | flt b=>obtain ⟨t,e⟩:=(show ∃ t,u=Value.float b t from r);cases e;rfl
 | ref a=>cases (show u=Value.ref a from r);rfl
 | ty n=>cases (show u=Value.type n from r);rfl
section
variable {P:Program} {w:World} {H H':Hp} {h h':Heap} {a C dx:Addr} {fs fs':List (Str×V)}
theorem ins_get (hok:HOk P w H h) (e:H a=some (.ins C dx fs)):∃ mA,ObjM h a dx C mA∧(∀ f,RelO (fs.lookup f) (mA f))∧PySem.Within mA (fs.map (·.1))∧fs.length≤1000∧H dx=some (.own a):=by
 obtain ⟨d,z,ne,ob,mA,n,r,q⟩:=(show ObjOk P w H h a (.ins C dx fs) from hok a _ e)
 exact⟨mA,⟨ob,n,ne⟩,r,q,z,d⟩
end
structure Cls (K:PySem.W.Frag) (C:Addr):Prop where
 pg:PySem.W.plainGet K C Str.empty=true
 hd:PySem.W.hasDictIn K C=true
 po:PySem.W.plainOver K C=true
 sa:PySem.W.findIn K (.ref C) "__setattr__"=some (some (.builtin "object.__setattr__"))
theorem Cls.get {K:PySem.W.Frag} {C:Addr} (c:Cls K C) (f:Str):PySem.W.plainGet K C f=true:=c.pg
noncomputable def NoAttr (K:PySem.W.Frag) (C:Addr) (f:Str):Prop:=PySem.W.findIn K (.ref C) f=some none
theorem NoAttr.taker {K:PySem.W.Frag} {C:Addr} {f:Str} (n:NoAttr K C f):PySem.W.takerIn K C f=some none:=by
 unfold PySem.W.takerIn
 rw [show PySem.W.findIn K (.ref C) f=some none from n]
 rfl
structure Meth (K:PySem.W.Frag) (C:Addr) (m:Str) (f:Addr):Prop where
 at_:PySem.W.findIn K (.ref C) m=some (some (.ref f))
 fn:PySem.W.isFn K (.ref f)=true
 kp:PySem.W.keepIn K (.ref f)=true
section
variable {X:Cx} {pins:List (Addr×Obj)} {σ:St} {H:Hp} {s:Shared} {a C dx:Addr} {fs:List (Str×V)} {f:Str} {v:V} {A:Around} {E:Value→Shared→Prop}
theorem getattr_ok {b:Bool} {Q:Value→Shared→Prop} (I:Inv X pins σ H s) (e:H a=some (.ins C dx fs)) (c:Cls X.K C) (n:NoAttr X.K C f) (l:fs.lookup f=some v)
  (h:∀ u s',Inv X pins σ H s'→RelV v u→Q u s'):wpAny (model X.prog X.w) A (getAttr (.ref a) f b) Q E s:=by
 obtain ⟨mA,O,r,_,_,_⟩:=ins_get I.hok e
 obtain ⟨u,hu,ru⟩:=RelO.some_of (v:=v) (o:=mA f) (by rw [← l];exact r f)
 exact get_map I.kIn O (c.get f) c.hd n hu (handed_of ru) (h u _ (I.tok _) ru)
theorem getmeth_ok {m:Str} {g:Addr} {pl:Sem Bool} {Q:Value×List Value→Shared→Prop} (I:Inv X pins σ H s) (e:H a=some (.ins C dx fs)) (c:Cls X.K C) (k:Meth X.K C m g) (l:fs.lookup m=none)
  (h:Q (.ref g,[.ref a]) s):wpAny (model X.prog X.w) A (getMethod (.ref a) m pl) Q E s:=by
 obtain ⟨mA,O,r,_,_,_⟩:=ins_get I.hok e
 have hn:mA m=none:=RelO.none_of (by rw [← l];exact r m)
 exact get_meth I.kIn O (c.get m) k.at_ k.fn hn h
theorem setattr_ok {y:V} {u:Value} {Q:Unit→Shared→Prop} (I:Inv X pins σ H s) (e:H a=some (.ins C dx fs)) (c:Cls X.K C) (n:NoAttr X.K C f) (hl:fs.length<1000) (ry:RelV y u)
  (h:∀ s',Inv X pins σ (upd H a (.ins C dx (putF f y fs))) s'→Q () s'):wpAny (model X.prog X.w) A (setAttr (.ref a) f u) Q E s:=by
 obtain ⟨mA,O,r,wi,_,ho⟩:=ins_get I.hok e
 have hz:(fs.map (·.1)).length≤sizeLine:=by rw [List.length_map,sizeLine_eq];lia
 refine set_map I.kIn O c.sa c.po n.taker c.hd wi hz fun h' O' sb=>h _ ?_
 have hd:∃ o,h'.get? dx=some o:=let ⟨o,_,_,e',_⟩:=O'.ns;⟨o,e'⟩
 refine I.write (x:=a) (e:=dx) (by rw [e];exact True.intro) (.inr ho) (fun b q hb z=>(sb.2 b hb).trans z) hd ?_
 refine⟨by rw [upd_ne O.ne];exact ho,?_,O.ne,O'.obj,_,O'.ns,fun g=>?_,fun g hg=>?_⟩
 ·have:=length_putF f y fs;lia
 ·show RelO ((putF f y fs).lookup g) (if g=f then some u else mA g)
  rw [lookup_putF]
  by_cases q:g=f
  ·rw [if_pos q,if_pos q];exact ry
  ·rw [if_neg q,if_neg q];exact r g
 ·by_cases q:g=f
  ·rw [q];exact (keys_putF f y fs).1
  ·refine (keys_putF f y fs).2 g (wi g fun z=>hg ?_)
   show (if g=f then some u else mA g)=none
   rw [if_neg q];exact z
theorem Inv.made (I:Inv X pins σ H s):Inv X pins σ (upd (upd H s.heap.objs.size (.own (s.heap.objs.size+1))) (s.heap.objs.size+1) (.ins C s.heap.objs.size []))
  { s with heap:=(s.heap.push PySem.W.emptyDict).push (PySem.W.instObj C s.heap.objs.size) }:=by
 have e1:(s.heap.push PySem.W.emptyDict).get? s.heap.objs.size=some PySem.W.emptyDict:=Heap.get?_push_size s.heap rfl
 have e2:((s.heap.push PySem.W.emptyDict).push (PySem.W.instObj C s.heap.objs.size)).get? (s.heap.objs.size+1)=some (PySem.W.instObj C s.heap.objs.size):=by
  have:=Heap.get?_push_size (s.heap.push PySem.W.emptyDict) (o:=PySem.W.instObj C s.heap.objs.size) rfl
  rwa [Heap.size_push] at this
 have e3:(s.heap.push PySem.W.emptyDict).Ns s.heap.objs.size (fun _=>none):=⟨PySem.W.emptyDict,#[],_,e1,rfl,(fun e he=>absurd he (by simp)),fun _=>rfl⟩
 have I1:=I.laid (a:=s.heap.objs.size) (o:=.own (s.heap.objs.size+1)) (h':=s.heap.push PySem.W.emptyDict) (t':=s.toks) (fun b u q=>Heap.get?_push_of_some _ q) (Nat.le_refl _) ⟨_,e1⟩
 refine I1.laid (a:=s.heap.objs.size+1) (o:=.ins C s.heap.objs.size []) (t':=s.toks) (fun b u q=>Heap.get?_push_of_some _ q) (Nat.le_of_eq (Heap.size_push _ _)) ?_
 have ne:s.heap.objs.size≠s.heap.objs.size+1:=Nat.ne_of_lt (Nat.lt_succ_self _)
 refine⟨by rw [upd_ne ne,upd_same],Nat.zero_le _,ne,e2,fun _=>none,(Heap.Ns1.of_empty e3).at fun o q=>Heap.get?_push_of_some _ q,fun _=>True.intro,fun y hy=>absurd rfl hy⟩
theorem attr_of {prog:Program} {w:World} {env:Env} {e:Expr} {f:Str} {pos:Pos} {s:Shared} {Q:Value→Shared→Prop} (hb:attributeBase e f env (eval e env)=eval e env)
  (h:wpAny (model prog w) A (eval e env) (fun o s₁=>wpAny (model prog w) A (getAttr o f true) Q E s₁) E s):wpAny (model prog w) A (eval (.Attribute e f pos) env) Q E s :=
 Attribute_any_ h (by rw [arm_eval_Attribute,hb])
end
noncomputable def tFld (K:PySem.W.Frag) (ta:TE) (f:Str):TE:=fun σ H Q=>ta σ H fun x H1=>∃ a C dx fs v,x=.ref a∧H1 a=some (.ins C dx fs)∧Cls K C∧NoAttr K C f∧fs.lookup f=some v∧Q v H1
noncomputable def sFld (K:PySem.W.Frag) (ta tv:TE) (f:Str):TS:=fun D σ H=>tv σ H fun y H1=>ta σ H1 fun x H2=>∃ a C dx fs,x=.ref a∧H2 a=some (.ins C dx fs)∧Cls K C∧NoAttr K C f∧fs.length<1000 ∧
 D.nx σ (upd H2 a (.ins C dx (putF f y fs)))
section
variable {X:Cx} {o e value:Expr} {f:Str} {pos pos' tpos:Pos} {ta tv:TE}
theorem pe_fld (he:PE X e ta) (hb:attributeBase e f X.env (eval e X.env)=eval e X.env):PE X (.Attribute e f pos) (tFld X.K ta f):=by
 intro pins s σ H Q I h
 refine attr_of hb (thn (he pins s σ H _ I h) fun u s1 ⟨x,H1,I1,rx,a,C,dx,fs,v,ex,ea,c,n,l,q⟩=>?_)
 subst ex
 obtain rfl:u=Value.ref a:=rx
 exact getattr_ok I1 ea c n l fun u' s2 I2 ru=>⟨v,H1,I2,ru,q⟩
theorem ps_fld (ha:PE X o ta) (hv:PE X value tv) (hs:swapsWith value (some (.Attribute o f pos')) pos.line X.env=pure false):PS X (.Assign [.Attribute o f pos'] value pos) (sFld X.K ta tv f):=by
 intro pins s σ H D I h
 refine plainObj_wpAny_Assign_Attribute (thn (hv pins s σ H _ I h) fun u s1 ⟨y,H1,I1,ry,q⟩=>thn (ha pins s1 σ H1 _ I1 q) fun ov s2 ⟨x,H2,I2,rx,a,C,dx,fs,ex,ea,c,n,l,q2⟩=>?_) hs
 subst ex
 obtain rfl:ov=Value.ref a:=rx
 exact setattr_ok I2 ea c n l ry fun s3 I3=>⟨σ,_,I3,q2⟩
theorem methcall_of {pl:Sem Bool} {m:Str} {apos:Pos} {args:List Expr} {pins:List (Addr×Obj)} {s:Shared} {σ:St} {H:Hp} {Q:Value→Shared→Prop} {te:TE} (he:PE X e te) (I:Inv X pins σ H s)
  (h:te σ H fun x H1=>∃ a C dx fs g,x=.ref a∧H1 a=some (.ins C dx fs)∧Cls X.K C∧Meth X.K C m g∧fs.lookup m=none ∧
   ∀ s1,Inv X pins σ H1 s1→wpAny (model X.prog X.w) X.A (callWith pos (.ref g) [.ref a] (backTo pos (starEach args X.env)) (backToKw pos (keywordEach [] X.env))) Q X.xe s1)
  (ht:eval (.Call (.Attribute e m apos) args [] pos) X.env=(do
   let ov ← eval e X.env
   standAt apos.atName
   let (f,first) ← holding [ov] (getMethod ov m pl)
   callWith pos f first (backTo pos (starEach args X.env)) (backToKw pos (keywordEach [] X.env)))) :
  wpAny (model X.prog X.w) X.A (eval (.Call (.Attribute e m apos) args [] pos) X.env) Q X.xe s:=by
 refine PySem.W.methodCall_KW (pl:=pl) (thn (he pins s σ H _ I h) fun u s1 ⟨x,H1,I1,rx,a,C,dx,fs,g,ex,ea,c,k,l,q⟩=>?_) ht
 subst ex
 obtain rfl:u=Value.ref a:=rx
 exact getmeth_ok I1 ea c k l (q s1 I1)
end
section
variable {X:Cx} {pins:List (Addr×Obj)} {σ:St} {H:Hp} {s:Shared} {A:Around} {E:Value→Shared→Prop} {Q:Value→Shared→Prop} {c:Value} {b:Bool}
inductive TyOf (K:PySem.W.Frag) (H:Hp):V→Value→Prop where
 | non:TyOf K H .non (.type "NoneType")
 | bl (x:Bool):TyOf K H (.bl x) (.type "bool")
 | int (i:Int):TyOf K H (.int i) (.type "int")
 | str (x:Str):TyOf K H (.str x) (.type "str")
 | flt (x:UInt64):TyOf K H (.flt x) (.type "float")
 | lst {a:Addr} {xs:List V} (e:H a=some (.lst xs)):TyOf K H (.ref a) (.type "list")
 | frz {a:Addr} {o:Obj} {xs:List V} (e:H a=some (.frz o (.lst xs))):TyOf K H (.ref a) (.type "list")
 | tup {a:Addr} {xs:List V} (e:H a=some (.tup xs)):TyOf K H (.ref a) (.type "tuple")
 | dK {a:Addr} {kvs:List (Key×V)} (e:H a=some (.dK kvs)):TyOf K H (.ref a) (.type "dict")
 | dT {a:Addr} {kvs:List (List Key×V)} (e:H a=some (.dT kvs)):TyOf K H (.ref a) (.type "dict")
 | ins {a C dx:Addr} {fs:List (Str×V)} (e:H a=some (.ins C dx fs)) (cl:Cls K C) (ha:PySem.W.findIn K (.ref C) "__class__"=some (some (.builtin "object.__class__")))
   (hn:PySem.W.specialIn K (.builtin "object.__class__") "__get__"=some (some (.builtin "getset_descriptor.__get__"))) (htk:PySem.W.takesIn K (.builtin "object.__class__")=some true)
   (hm:PySem.W.mroIn K C (.type "object")=some true):TyOf K H (.ref a) (.ref C)
theorem isinst_ok {x:V} {u t:Value} (I:Inv X pins σ H s) (rx:RelV x u) (ty:TyOf X.K H x t) (e:PySem.W.kitOne X.K t c=some b) (h:∀ tk,Q (.bool b) { s with toks:=tk }) :
  wpAny (model X.prog X.w) A (call (.builtin "isinstance") [u,c]) Q E s:=by
 cases ty with
 | non=>cases (show u=Value.none from rx);exact PySem.W.kia_one PySem.W.kitx_none I.kIn True.intro e (fun z=>nomatch z) h
 | bl y=>cases (show u=Value.bool y from rx);exact PySem.W.kia_one PySem.W.kitx_bool I.kIn True.intro e (fun z=>nomatch z) h
 | int i=>obtain ⟨t,q⟩:=(show ∃ t,u=Value.int i t from rx);cases q;exact PySem.W.kia_one PySem.W.kitx_int I.kIn True.intro e (fun z=>nomatch z) h
 | str y=>obtain ⟨t,q⟩:=(show ∃ t,u=Value.str y t from rx);cases q;exact PySem.W.kia_one PySem.W.kitx_str I.kIn True.intro e (fun z=>nomatch z) h
 | flt y=>obtain ⟨t,q⟩:=(show ∃ t,u=Value.float y t from rx);cases q;exact PySem.W.kia_one PySem.W.kitx_float I.kIn True.intro e (fun z=>nomatch z) h
 | @lst a xs ea =>
  cases (show u=Value.ref a from rx)
  obtain ⟨_,_,n,_,h1⟩:=(show ObjOk X.prog X.w H s.heap a (.lst xs) from I.hok a _ ea)
  exact PySem.W.kia_one PySem.W.kitx_list I.kIn ⟨_,h1,rfl⟩ e (fun z=>nomatch z) h
 | @frz a ob xs ea =>
  cases (show u=Value.ref a from rx)
  obtain ⟨_,_,_,n,_,h1⟩:=(show ObjOk X.prog X.w H s.heap a (.frz ob (.lst xs)) from I.hok a _ ea)
  exact PySem.W.kia_one PySem.W.kitx_list I.kIn ⟨_,h1,rfl⟩ e (fun z=>nomatch z) h
 | @tup a xs ea =>
  cases (show u=Value.ref a from rx)
  obtain ⟨_,_,_,p⟩:=(show ObjOk X.prog X.w H s.heap a (.tup xs) from I.hok a _ ea)
  obtain ⟨o,h1,h2,_⟩:=p
  exact PySem.W.kia_one PySem.W.kitx_tuple I.kIn ⟨o,h1,h2⟩ e (fun z=>nomatch z) h
 | @dK a kvs ea =>
  cases (show u=Value.ref a from rx)
  obtain ⟨_,_,vs,_,p⟩:=(show ObjOk X.prog X.w H s.heap a (.dK kvs) from I.hok a _ ea)
  obtain ⟨o,es,ep,h1,h2,_⟩:=p
  exact PySem.W.kia_one PySem.W.kitx_dict I.kIn ⟨o,h1,h2.1⟩ e (fun z=>nomatch z) h
 | @dT a kvs ea =>
  cases (show u=Value.ref a from rx)
  obtain ⟨_,_,xs,_,o,es,ep,h1,h2,_⟩:=(show ObjOk X.prog X.w H s.heap a (.dT kvs) from I.hok a _ ea)
  exact PySem.W.kia_one PySem.W.kitx_dict I.kIn ⟨o,h1,h2.1⟩ e (fun z=>nomatch z) h
 | @ins a C dx fs ea cl ha hn htk hm =>
  cases (show u=Value.ref a from rx)
  obtain ⟨mA,O,_⟩:=ins_get I.hok ea
  obtain ⟨od,J,_⟩:=O.look
  exact PySem.W.kia_one (PySem.W.kitx_own (cl.get _) cl.hd ha hn htk hm) I.kIn J e (fun z=>nomatch z) h
end
end L2
namespace L2
open PySem PySem.Spec PyProof.Rows
structure Room (k:Nat) (A:Around):Prop where
 hd:A.handled=none
 dp:A.depth+3*k+5<recursionLimit
 un:A.units+16*k+200<cLine
theorem Room.mono {j k:Nat} {A:Around} (r:Room k A) (h:j≤k):Room j A:=⟨r.hd,by have:=r.dp;lia,by have:=r.un;lia⟩
theorem Room.deeper {k:Nat} {A:Around} (r:Room (k+1) A) (env:Env):Room k (A.deeper env) :=
 ⟨r.hd,by have:=r.dp;show A.depth+1+3*k+5<_;lia,by have:=r.un;show A.units+3+16*k+200<_;lia⟩
theorem Room.in1 {k:Nat} {A:Around} (r:Room (k+1) A):Room k A.in1 :=
 ⟨r.hd,by have:=r.dp;show A.depth+3*k+5<_;lia,by have:=r.un;show A.units+1+16*k+200<_;lia⟩
theorem make_depth {A:Around} {C:Addr} {us:List Value} {kw:List (Str×Value)}:(A.under (.builtin "type.__call__" ⟨.ref C::us,kw⟩)).depth=A.depth+1:=by
 first|rfl|simp [Around.under,Code.weight,Code.isCreation,Code.isGuard,Code.isCaller,Code.frames,Code.isFrame,guardIds]
theorem make_units {A:Around} {C:Addr} {us:List Value} {kw:List (Str×Value)}:(A.under (.builtin "type.__call__" ⟨.ref C::us,kw⟩)).units=A.units+1:=by
 first|rfl|simp [Around.under,Code.cUnits,Code.frames,Code.isFrame]
theorem Room.make {k:Nat} {A:Around} (r:Room (k+1) A) (C:Addr) (us:List Value) (kw:List (Str×Value)):Room k (A.under (.builtin "type.__call__" ⟨.ref C::us,kw⟩)) :=
 ⟨r.hd,by have:=r.dp;rw [make_depth];lia,by have:=r.un;rw [make_units];lia⟩
theorem Room.depth {k:Nat} {A:Around} (r:Room k A):A.depth<recursionLimit:=by have:=r.dp;lia
theorem Room.units {k:Nat} {A:Around} (r:Room k A):A.units+64<cLine:=by have:=r.un;lia
noncomputable def tNil:TA:=fun _ H Q=>Q [] H
noncomputable def tCons (ta:TE) (tr:TA):TA:=fun σ H Q=>ta σ H fun x H1=>tr σ H1 fun xs H2=>Q (x::xs) H2
section
variable {X:Cx} {e:Expr} {es:List Expr} {te:TE} {t:TA} {pos:Pos}
theorem pa_nil:PA X [] tNil:=fun _ _ _ _ H Q I h=>Calls.spliced_nil ⟨[],H,I,.nil,h⟩
theorem pa_cons (ha:PE X e te) (hr:PA X es t) (hs:starEach (e::es) X.env=(false,eval e X.env)::starEach es X.env:=by rfl):PA X (e::es) (tCons te t):=by
 intro pos pins s σ H Q I h
 rw [hs]
 show wpAny _ _ (spliced ((false,eval e X.env)::backTo pos (starEach es X.env))) _ _ s
 refine Calls.spliced_cons (thn (ha pins s σ H _ I h) fun u s1 ⟨x,H1,I1,r1,q1⟩=>?_)
 exact thn (hr pos pins s1 σ H1 _ I1 q1) fun us s2 ⟨xs,H2,I2,r2,q2⟩=>⟨x::xs,H2,I2,.cons r1 r2,q2⟩
noncomputable def tTup (t:TA):TE:=fun σ H Q=>t σ H fun xs H1=>xs.length≤sizeLine∧∀ p,H1 p=none→Q (.ref p) (upd H1 p (.tup xs))
noncomputable def tLst (t:TA):TE:=fun σ H Q=>t σ H fun xs H1=>xs.length≤sizeLine∧∀ p,H1 p=none→Q (.ref p) (upd H1 p (.lst xs))
theorem pe_tup {x1} (h:PA X es t):PE X (.Tuple es x1 pos) (tTup t):=by
 intro pins s σ H Q I hq
 refine wpAny_Tuple_spliced (thn (h pos pins s σ H _ I hq) fun us s1 ⟨xs,H1,I1,r,z,q⟩=>⟨by rw [← r.length];exact z,?_⟩)
 have hf:H1 s1.heap.objs.size=none:=I1.hok.fresh (Nat.le_refl _)
 refine⟨.ref s1.heap.objs.size,upd H1 s1.heap.objs.size (.tup xs),I1.laid (t':=s1.toks) (fun b u e=>Heap.get?_push_of_some _ e) (Nat.le_refl _) ?_,rfl,q _ hf⟩
 exact⟨z,us,r,⟨_,Heap.get?_push_size _ rfl,rfl,_,rfl⟩⟩
theorem pe_lst (h:PA X es t):PE X (.List es pos) (tLst t):=by
 intro pins s σ H Q I hq
 refine wpAny_List_spliced (thn (h pos pins s σ H _ I hq) fun us s1 ⟨xs,H1,I1,r,z,q⟩=>⟨by rw [← r.length];exact z,?_⟩)
 have hf:H1 s1.heap.objs.size=none:=I1.hok.fresh (Nat.le_refl _)
 refine⟨.ref s1.heap.objs.size,upd H1 s1.heap.objs.size (.lst xs),I1.laid (t':=s1.toks) (fun b u e=>Heap.get?_push_of_some _ e) (Nat.le_refl _) ?_,rfl,q _ hf⟩
 exact⟨z,us,0,r,Heap.get?_push_size _ rfl⟩
end
noncomputable abbrev Sp:=List V→Hp→VK→XK→Prop
noncomputable abbrev CXT:=List Env→Hp→Shared→XK→Value→Shared→Prop
structure Env0 (P:Program) (w:World) (K:PySem.W.Frag) (mg:Str→Option Value) (base:Heap) (A:Around) (outer:List Env) (s:Shared) (H:Hp):Prop where
 frames:A.frames=some outer
 mod:Mod K mg base
 bs:∀ b o,base.get? b=some o→s.heap.get? b=some o∧H b=none
 bsz:base.objs.size≤s.heap.objs.size
 funs:s.heap.FunFrames base outer
 frf:∀ b∈frs outer,H b=none
 hok:HOk P w H s.heap
 bare:AllBare s.gens
noncomputable def CE (outer:List Env) (P:Program) (w:World) (H:Hp) (s:Shared) (Q:VK) (u:Value) (s':Shared):Prop :=
 ∃ v H',s'.os=s.os∧AllBare s'.gens∧Un (frs outer) [] H H' s.heap s'.heap∧HOk P w H' s'.heap∧RelV v u∧Q v H'
noncomputable def CR (CX:CXT) (outer:List Env) (P:Program) (w:World) (H:Hp) (s:Shared) (Q:VK) (E:XK) (r:Result) (s':Shared):Prop :=
 match r with
 | .ok (.ret u)=>CE outer P w H s Q u s'
 | .ok _=>False
 | .error e=>CX outer H s E e s'
structure FnOk (P:Program) (w:World) (K:PySem.W.Frag) (mg:Str→Option Value) (base:Heap) (CX:CXT) (k:Nat) (f:Addr) (fd:FuncData) (ps:List Str) (sp:Sp):Prop where
 len:∀ vs H Q E,sp vs H Q E→vs.length=ps.length
 run:∀ (A:Around) (outer:List Env) (s:Shared) (H:Hp) (args:Args) (us:List Value) (vs:List V) (Q:VK) (E:XK),Room k A→Env0 P w K mg base A outer s H→BindsTo s fd args (ps.zip us)→Vals vs us→sp vs H Q E →
  codeAny (model P w) A (.call (.ref f) args) (CR CX outer P w H s Q E) s
theorem Env0.make {P:Program} {w:World} {K:PySem.W.Frag} {mg:Str→Option Value} {base:Heap} {A:Around} {outer:List Env} {s:Shared} {H:Hp} (e:Env0 P w K mg base A outer s H) (C:Addr) (us:List Value) (kw:List (Str×Value)) :
  Env0 P w K mg base (A.under (.builtin "type.__call__" ⟨.ref C::us,kw⟩)) outer s H:=⟨by first|exact e.frames|(simpa [Around.under,Code.envs,Code.isFrame,pushEnvs] using e.frames),e.mod,e.bs,e.bsz,e.funs,e.frf,e.hok,e.bare⟩
section
variable {X:Cx} {pins:List (Addr×Obj)} {σ:St} {H:Hp} {s s':Shared}
theorem Inv.env0 (I:Inv X pins σ H s):Env0 X.prog X.w X.K X.mg X.base X.A X.stack s H :=
 ⟨I.ok.frames,I.ok.mod,I.bs,Nat.le_trans I.ok.bsz I.sz,I.stack,I.stkFree,I.hok,I.bare⟩
theorem Inv.after {Q:VK} {u:Value} (I:Inv X pins σ H s) (h:CE X.stack X.prog X.w H s Q u s'):EP X pins σ Q u s':=by
 obtain ⟨v,H',os,bare,un,hok,r,q⟩:=h
 obtain ⟨hh,g,d,t,os'⟩:=s'
 obtain rfl:os'=s.os:=os
 exact⟨v,H',I.call (h':=hh) (g':=g) (d':=d) (t':=t) (ch:=[]) un hok bare (fun b z=>absurd z (by simp)),r,q⟩
end
noncomputable def tCall (sp:Sp) (dvs:List V) (E:XK) (t:TA):TE:=fun σ H Q=>t σ H fun vs H1=>sp (vs++dvs) H1 Q E
noncomputable def tMeth (C:Addr) (m:Str) (sp:Sp) (dvs:List V) (E:XK) (ta:TE) (t:TA):TE:=fun σ H Q=>ta σ H fun x H1=>∃ a dx fs,x=.ref a∧H1 a=some (.ins C dx fs)∧fs.lookup m=none ∧
 t σ H1 fun vs H2=>sp (x::(vs++dvs)) H2 Q E
noncomputable def tMake (C:Addr) (sp:Sp) (dvs:List V) (E:XK) (t:TA):TE:=fun σ H Q=>t σ H fun vs H1=>∀ x dx,H1 x=none→H1 dx=none→dx≠x →
 sp (.ref x::(vs++dvs)) (upd (upd H1 dx (.own x)) x (.ins C dx [])) (fun v H2=>v=.non∧Q (.ref x) H2) E
noncomputable def Binds (K:PySem.W.Frag) (fd:FuncData) (ps:List Str) (ds:List Value):Prop :=
 ∀ (s:Shared) (us:List Value),K.In s.heap→(us++ds).length=ps.length→BindsTo s fd ⟨us,[]⟩ (ps.zip (us++ds))
theorem Binds.all {K:PySem.W.Frag} {fd:FuncData} {ps:List Str} (h:∀ us:List Value,us.length=ps.length→bindArgs fd ⟨us,[]⟩=pure (ps.zip us)):Binds K fd ps []:=fun s us _ hl=>by
 rw [List.append_nil] at hl ⊢
 exact .of_eq (h us hl)
noncomputable def Passes (CX:CXT) (X:Cx) (E:XK):Prop:=∀ (pins:List (Addr×Obj)) (σ:St) (H:Hp) (s:Shared) (e:Value) (s':Shared),Inv X pins σ H s→CX X.stack H s E e s'→X.xe e s'
section
variable {X:Cx} {CX:CXT} {k:Nat} {f C:Addr} {fd:FuncData} {ps:List Str} {sp:Sp} {dvs:List V} {ds:List Value} {E:XK} {x m:Str} {p pos apos:Pos} {e o:Expr} {es:List Expr} {ta:TE} {t:TA}
theorem run_fn {pins:List (Addr×Obj)} {σ:St} {H:Hp} {s:Shared} {Q:VK} {us:List Value} {vs:List V} (F:FnOk X.prog X.w X.K X.mg X.base CX k f fd ps sp) (hr:Room k X.A) (hb:Binds X.K fd ps ds) (hd:Vals dvs ds) (hx:Passes CX X E)
  (I:Inv X pins σ H s) (r:Vals vs us) (h:sp (vs++dvs) H Q E):wpAny (model X.prog X.w) X.A (call (.ref f) us) (EP X pins σ Q) X.xe s:=by
 have r2:Vals (vs++dvs) (us++ds):=r.append hd
 have hl:(us++ds).length=ps.length:=by rw [← r2.length];exact F.len _ _ _ _ h
 refine wpAny_call (codeAny_mono (F.run X.A X.stack s H ⟨us,[]⟩ (us++ds) (vs++dvs) Q E hr I.env0 (hb s us I.kIn hl) r2 h) fun r s' hq=>?_)
 cases r with
 | error e=>exact hx pins σ H s e s' I hq
 | ok fl =>
  cases fl with
  | ret u=>exact I.after hq
  | next=>exact False.elim hq
  | brk=>exact False.elim hq
  | cont=>exact False.elim hq
theorem pe_call (F:FnOk X.prog X.w X.K X.mg X.base CX k f fd ps sp) (hr:Room k X.A) (hg:Gl X x) (hm:X.mg x=some (.ref f)) (hk:PySem.W.keepIn X.K (.ref f)=true) (hb:Binds X.K fd ps ds) (hd:Vals dvs ds) (hx:Passes CX X E)
  (ha:PA X (e::es) t) (hdb:(x == ("__debug__":Str))=false:=by decide) (he:starEach (e::es) X.env=(false,eval e X.env)::starEach es X.env:=by rfl) (hpl:(backTo pos (starEach es X.env)).any (·.1)=false:=by rfl) :
  PE X (.Call (.Name x p) (e::es) [] pos) (tCall sp dvs E t):=by
 intro pins s σ H Q I h
 refine wpAny_Call_Name_kw (ld_glob I hg hm ?_ hdb)
 refine PySem.W.callWith_K (h₀:=X.base) I.ok.mod.kin hk (thn (ha pos pins s σ H _ I h) fun us s1 ⟨vs,H1,I1,r,q⟩=>⟨I1.kIn,?_⟩) he hpl
 exact run_fn F hr hb hd hx I1 r q
theorem pe_meth {pl:Sem Bool} (he:PE X o ta) (c:Cls X.K C) (hm:Meth X.K C m f) (F:FnOk X.prog X.w X.K X.mg X.base CX k f fd ps sp) (hr:Room k X.A) (hb:Binds X.K fd ps ds) (hd:Vals dvs ds) (hx:Passes CX X E) (ha:PA X (e::es) t)
  (hst:starEach (e::es) X.env=(false,eval e X.env)::starEach es X.env:=by rfl) (hpl:(backTo pos (starEach es X.env)).any (·.1)=false:=by rfl)
  (ht:eval (.Call (.Attribute o m apos) (e::es) [] pos) X.env=(do
   let ov ← eval o X.env
   standAt apos.atName
   let (f,first) ← holding [ov] (getMethod ov m pl)
   callWith pos f first (backTo pos (starEach (e::es) X.env)) (backToKw pos (keywordEach [] X.env))):=by rfl) :
  PE X (.Call (.Attribute o m apos) (e::es) [] pos) (tMeth C m sp dvs E ta t):=by
 intro pins s σ H Q I h
 refine PySem.W.methodCall_KW (pl:=pl) (thn (he pins s σ H _ I h) fun u s1 ⟨x,H1,I1,rx,a,dx,fs,ex,ea,l,q⟩=>?_) ht
 subst ex
 obtain rfl:u=Value.ref a:=rx
 refine getmeth_ok I1 ea c hm l ?_
 refine PySem.W.callWith_K (first:=[.ref a]) (h₀:=X.base) I.ok.mod.kin hm.kp (thn (ha pos pins s1 σ H1 _ I1 q) fun us s2 ⟨vs,H2,I2,r,q2⟩=>⟨I2.kIn,?_⟩) hst hpl
 exact run_fn (us:=.ref a::us) (vs:=.ref a::vs) F hr hb hd hx I2 (.cons rfl r) q2
structure Mk (K:PySem.W.Frag) (C f:Addr):Prop where
 makes:PySem.W.makesIn K C=true
 init:PySem.W.findIn K (.ref C) "__init__"=some (some (.ref f))
 fn:PySem.W.isFn K (.ref f)=true
 kp:PySem.W.keepIn K (.ref C)=true
theorem run_make {pins:List (Addr×Obj)} {σ:St} {H:Hp} {s:Shared} {Q:VK} {us:List Value} {vs:List V} (M:Mk X.K C f) (F:FnOk X.prog X.w X.K X.mg X.base CX k f fd ps sp) (hr:Room (k+1) X.A) (hb:Binds X.K fd ps ds) (hd:Vals dvs ds)
  (hx:Passes CX X E) (I:Inv X pins σ H s) (r:Vals vs us)
  (h:∀ x dx,H x=none→H dx=none→dx≠x→sp (.ref x::(vs++dvs)) (upd (upd H dx (.own x)) x (.ins C dx [])) (fun v H2=>v=.non∧Q (.ref x) H2) E) :
  wpAny (model X.prog X.w) X.A (call (.ref C) us) (EP X pins σ Q) X.xe s:=by
 have hq:=h (s.heap.objs.size+1) s.heap.objs.size (I.hok.fresh (Nat.le_succ _)) (I.hok.fresh (Nat.le_refl _)) (Nat.ne_of_lt (Nat.lt_succ_self _))
 have I2:=Inv.made (C:=C) I
 have r2:Vals (V.ref (s.heap.objs.size+1)::(vs++dvs)) (Value.ref (s.heap.objs.size+1)::(us++ds)):=.cons rfl (r.append hd)
 have hl:(Value.ref (s.heap.objs.size+1)::us++ds).length=ps.length:=by
  have e:=r2.length
  rw [F.len _ _ _ _ hq] at e
  exact e.symm
 refine wpAny_call (make_map (f:=f) I.kIn M.makes M.init (beq_iff_eq.mp M.fn) (codeAny_mono (F.run _ X.stack _ _ ⟨Value.ref (s.heap.objs.size+1)::us,[]⟩ (Value.ref (s.heap.objs.size+1)::(us++ds)) _ _ E (hr.make C us [])
  (I2.env0.make C us []) (hb _ (Value.ref (s.heap.objs.size+1)::us) I2.kIn hl) r2 hq) fun r s' hq'=>?_))
 cases r with
 | error e=>exact hx pins σ _ _ e s' I2 hq'
 | ok fl =>
  cases fl with
  | ret u =>
   obtain ⟨v,H',I3,rv,ev,q3⟩:=I2.after hq'
   subst ev
   exact⟨rv,⟨V.ref (s.heap.objs.size+1),H',I3,rfl,q3⟩⟩
  | next=>exact False.elim hq'
  | brk=>exact False.elim hq'
  | cont=>exact False.elim hq'
theorem pe_make (M:Mk X.K C f) (F:FnOk X.prog X.w X.K X.mg X.base CX k f fd ps sp) (hr:Room (k+1) X.A) (hg:Gl X x) (hm:X.mg x=some (.ref C)) (hb:Binds X.K fd ps ds) (hd:Vals dvs ds) (hx:Passes CX X E)
  (ha:PA X (e::es) t) (hdb:(x == ("__debug__":Str))=false:=by decide) (he:starEach (e::es) X.env=(false,eval e X.env)::starEach es X.env:=by rfl) (hpl:(backTo pos (starEach es X.env)).any (·.1)=false:=by rfl) :
  PE X (.Call (.Name x p) (e::es) [] pos) (tMake C sp dvs E t):=by
 intro pins s σ H Q I h
 refine wpAny_Call_Name_kw (ld_glob I hg hm ?_ hdb)
 refine PySem.W.callWith_K (h₀:=X.base) I.ok.mod.kin M.kp (thn (ha pos pins s σ H _ I h) fun us s1 ⟨vs,H1,I1,r,q⟩=>⟨I1.kIn,?_⟩) he hpl
 exact run_make M F hr hb hd hx I1 r q
end
noncomputable def PK (X:Cx) (kws:List Keyword) (t:TA):Prop :=
 ∀ (pos:Pos) (pins:List (Addr×Obj)) (s:Shared) (σ:St) (H:Hp) (Q:List V→Hp→Prop),Inv X pins σ H s→t σ H Q→wpAny (model X.prog X.w) X.A (evalAll ((backToKw pos (keywordEach kws X.env)).map (·.2))) (AP X pins σ Q) X.xe s
section
variable {X:Cx} {CX:CXT} {k:Nat} {f C:Addr} {fd:FuncData} {ps ks:List Str} {sp:Sp} {E:XK} {x m:Str} {p pos apos kpos:Pos} {e o:Expr} {es:List Expr} {kws:List Keyword} {te ta:TE} {t tk:TA} {nm:Option Str}
theorem pk_nil:PK X [] tNil:=fun _ _ _ _ H Q I h=>wpAny_evalAll_nil ⟨[],H,I,.nil,h⟩
theorem pk_cons (ha:PE X e te) (hr:PK X kws t):PK X (⟨nm,e,kpos⟩::kws) (tCons te t):=by
 intro pos pins s σ H Q I h
 show wpAny _ _ (evalAll ((do let v ← eval e X.env;standAt pos;pure v)::(backToKw pos (keywordEach kws X.env)).map (·.2))) _ _ s
 refine wpAny_evalAll_cons (wpAny_bind (thn (ha pins s σ H _ I h) fun u s1 ⟨x,H1,I1,r1,q1⟩=>wpAny_bind (wpAny_standAt (wpAny_pure ?_))))
 exact thn (hr pos pins s1 σ H1 _ I1 q1) fun us s2 ⟨xs,H2,I2,r2,q2⟩=>⟨x::xs,H2,I2,.cons r1 r2,q2⟩
variable {g:List Value→List Value→List Value} {gV:List V→List V→List V}
end
structure FnScope (N P:List Str) (sc:Scope):Prop where
 kind:sc.kind=.function
 co:sc.isCoroutine=false
 gen:sc.isGenerator=false
 nd:N.Nodup
 pre:N.take P.length=P
 par:∀ x∈P,sc.names.lookup x=some .local∨sc.names.lookup x=some .cell
 nofree:∀ y∈sc.names,y.2≠.free
theorem bindL_out {kindOf:Str→Option NameKind} {x:Str}:∀ {binds:List (Str×Value)} {m:Str→Option Value},(∀ v,(x,v)∉binds)→bindL kindOf binds m x=m x
 | [],_,_=>rfl
 | (n,v)::r,m,h=>by
  unfold bindL
  rw [bindL_out fun w hw=>h w (List.mem_cons_of_mem _ hw)]
  split
  ·have:x≠n:=by rintro rfl;exact h v List.mem_cons_self
   simp [this]
  ·rfl
theorem bindC_out {kindOf:Str→Option NameKind} {x:Str}:∀ {binds:List (Str×Value)} {m:Str→Option Value},(∀ v,(x,v)∉binds)→bindC kindOf binds m x=m x
 | [],_,_=>rfl
 | (n,v)::r,m,h=>by
  unfold bindC
  rw [bindC_out fun w hw=>h w (List.mem_cons_of_mem _ hw)]
  split
  ·rfl
  ·have:x≠n:=by rintro rfl;exact h v List.mem_cons_self
   simp [this]
theorem bindL_get {kindOf:Str→Option NameKind} {x:Str} {v:Value}:∀ {P:List Str} {vs:List Value} {i:Nat} {m:Str→Option Value},P.Nodup→P[i]?=some x→vs[i]?=some v→kindOf x=some .local →
  bindL kindOf (P.zip vs) m x=some v
 | [],_,_,_,_,h,_,_=>by simp at h
 | _::_,[],_,_,_,_,h,_=>by simp at h
 | p::P,w::vs,0,m,nd,h1,h2,hk=>by
  simp at h1 h2;subst h1;subst h2
  show bindL kindOf ((p,w)::P.zip vs) m p=_
  unfold bindL
  rw [bindL_out fun v hv=>(List.nodup_cons.mp nd).1 (List.of_mem_zip hv).1,if_pos hk]
  simp
 | p::P,w::vs,i+1,m,nd,h1,h2,hk=>by
  show bindL kindOf ((p,w)::P.zip vs) m x=_
  unfold bindL
  exact bindL_get (i:=i) (List.nodup_cons.mp nd).2 (by simpa using h1) (by simpa using h2) hk
theorem bindC_get {kindOf:Str→Option NameKind} {x:Str} {v:Value}:∀ {P:List Str} {vs:List Value} {i:Nat} {m:Str→Option Value},P.Nodup→P[i]?=some x→vs[i]?=some v→kindOf x≠some .local →
  bindC kindOf (P.zip vs) m x=some v
 | [],_,_,_,_,h,_,_=>by simp at h
 | _::_,[],_,_,_,_,h,_=>by simp at h
 | p::P,w::vs,0,m,nd,h1,h2,hk=>by
  simp at h1 h2;subst h1;subst h2
  show bindC kindOf ((p,w)::P.zip vs) m p=_
  unfold bindC
  rw [bindC_out fun v hv=>(List.nodup_cons.mp nd).1 (List.of_mem_zip hv).1,if_neg hk]
  simp
 | p::P,w::vs,i+1,m,nd,h1,h2,hk=>by
  show bindC kindOf ((p,w)::P.zip vs) m x=_
  unfold bindC
  exact bindC_get (i:=i) (List.nodup_cons.mp nd).2 (by simpa using h1) (by simpa using h2) hk
noncomputable def start (N:List Str) (vs:List V):St:=vs.map some++List.replicate (N.length - vs.length) none
noncomputable def cxOf (CX:CXT) (P:Program) (w:World) (K:PySem.W.Frag) (mg:Str→Option Value) (base:Heap) (N:List Str) (qual:Str) (scope:Scope) (f:Addr) (cd:Value) (A:Around) (outer:List Env) (s:Shared) (H:Hp) (E:XK):Cx where
 prog:=P
 w:=w
 K:=K
 mg:=mg
 base:=base
 A:=A.deeper (envOfC qual scope s.heap.objs.size f cd)
 N:=N
 s₀:=s
 H₀:=H
 env:=envOfC qual scope s.heap.objs.size f cd
 outer:=outer
 stack:=envOfC qual scope s.heap.objs.size f cd::outer
 ex:=[]
 calm:=true
 fn:=fun _=>true
 pn:=[]
 xe:=fun e s'=>wpAny (model P w) (A.deeper (envOfC qual scope s.heap.objs.size f cd)) (leaving (envOfC qual scope s.heap.objs.size f cd) e) (fun _ s''=>CX outer H s E e s'') (fun e' s''=>CX outer H s E e' s'') s'
theorem cell_has {sc:Scope} {n:Nat} {x:Str} (h:sc.names.lookup x=some .cell):∃ c,(cellsFrom n sc.names []).lookup x=some c:=by
 have q:=PySem.W.cellsFrom_some sc.names n [] (.inl h)
 exact Option.isSome_iff_exists.mp q
theorem inv_start {CX:CXT} {P:Program} {w:World} {K:PySem.W.Frag} {mg:Str→Option Value} {base:Heap} {N ps:List Str} {qual:Str} {scope:Scope} {f:Addr} {cd:Value} {A:Around} {outer:List Env} {s s1:Shared} {H:Hp} {E:XK} {us:List Value} {vs:List V}
  (S:FnScope N ps scope) (hd:A.handled=none) (e0:Env0 P w K mg base A outer s H) (hl:vs.length=ps.length) (r:Vals vs us)
  (x:InCallC s s.heap.objs.size (bindL (envOfC qual scope s.heap.objs.size f cd).kindOf (ps.zip us) fun _=>none) (cellsFrom (s.heap.objs.size+1) scope.names []) (bindC (envOfC qual scope s.heap.objs.size f cd).kindOf (ps.zip us) fun _=>none) s1) :
  Inv (cxOf CX P w K mg base N qual scope f cd A outer s H E) [] (start N vs) H s1:=by
 have hpl:ps.length≤N.length:=by have:=congrArg List.length S.pre;rw [List.length_take] at this;lia
 obtain ⟨h1,tk,rfl,hk⟩:=x.done
 have noA:∀ b:Addr,b∉(cxOf CX P w K mg base N qual scope f cd A outer s H E).ex:=fun b z=>absurd (show b∈([]:List Addr) from z) (by simp)
 refine⟨⟨e0.mod,S.kind,rfl,rfl,Nat.le_refl _,fun y z c h1 h2=>?_,fun y hy=>?_,fun y c _ h=>?_,fun _=>hd,Around.frames_deeper e0.frames,.inr ⟨rfl,rfl⟩,fun b z=>absurd z (noA b),e0.bs,e0.bsz,fun b _ _=>noA b,fun b z=>absurd z (noA b),e0.funs,e0.frf⟩,
  rfl,e0.bare,Un.kept hk,⟨_,x.toInCall.ns,fun i y v h1 h2 h3=>?_⟩,fun y c h=>⟨_,x.cell y c h⟩,e0.hok.fresh (Nat.le_refl _),fun y c h=>?_,fun p hp=>absurd (show p∈([]:List (Addr×Obj)) from hp) (by simp),e0.hok.kept hk,?_⟩
 ·exact name_of_addr x.apart (PySem.mem_of_lookup h1) (PySem.mem_of_lookup h2)
 ·have hy:scope.names.lookup y=some .cell∨scope.names.lookup y=some .free:=hy
  rcases hy with hy|hy
  ·exact cell_has hy
  ·exact absurd rfl (S.nofree _ (PySem.mem_of_lookup hy))
 ·exact Nat.le_of_lt (x.above y c (PySem.mem_of_lookup h))
 ·have hi:i<vs.length:=by
   unfold start at h2
   by_cases hi:i<vs.length
   ·exact hi
   ·rw [List.getElem?_append_right (by simpa using hi)] at h2
    rw [List.getElem?_replicate] at h2
    split at h2 <;> cases h2
  have ha:vs[i]?=some v:=by
   unfold start at h2
   rw [List.getElem?_append_left (by simpa using hi),List.getElem?_map] at h2
   cases e:vs[i]? with
   | none=>rw [e] at h2;cases h2
   | some a=>rw [e] at h2;cases h2;rfl
  obtain ⟨u,hu,rv⟩:=r.get ha
  have hp:ps[i]?=some y:=by
   rw [← S.pre,List.getElem?_take_of_lt (by lia)];exact h1
  have ndP:ps.Nodup:=by rw [← S.pre];exact S.nd.sublist (List.take_sublist _ _)
  refine⟨u,rv,?_⟩
  rcases S.par y (List.mem_of_getElem? hp) with k|k
  ·exact .inl ⟨k,bindL_get ndP hp hu k⟩
  ·obtain ⟨c,e⟩:=cell_has (n:=s.heap.objs.size+1) k
   refine .inr ⟨.inl k,c,e,?_⟩
   have q:=x.cell y c e
   rw [bindC_get ndP hp hu (by show scope.names.lookup y≠_;rw [k];decide)] at q
   exact q
 ·exact e0.hok.fresh (Nat.le_of_lt (x.above y c (PySem.mem_of_lookup h)))
 ·unfold start
  show _=N.length
  rw [List.length_append,List.length_map,List.length_replicate]
  lia
theorem fn_of {CX:CXT} {P:Program} {w:World} {K:PySem.W.Frag} {mg:Str→Option Value} {base:Heap} {k:Nat} {f:Addr} {name qual:Str} {params:Arguments} {body:List Stmt} {scope:Scope} {dV kV doc pm cdv ct oc:Value} {an od:Option Addr}
  {osl:Array (Option Value)} {N ps:List Str} {sp:Sp} (lk:K.lookup f=some ⟨oc,od,.func (PySem.W.fnOf name qual params body scope dV kV doc pm an cdv ct),osl⟩) (hcd:PySem.W.codeIn K cdv qual=true) (S:FnScope N ps scope)
  (len:∀ vs H Q E,sp vs H Q E→vs.length=ps.length)
  (hbody:∀ (A:Around) (outer:List Env) (s:Shared) (H:Hp) (vs:List V) (Q:VK) (E:XK),Room k (A.deeper (envOfC qual scope s.heap.objs.size f cdv))→sp vs H Q E →
   ∃ t,PSs (cxOf CX P w K mg base N qual scope f cdv A outer s H E) body t∧t { nx:=fun _ H'=>Q .non H',rt:=Q } (start N vs) H) :
  FnOk P w K mg base CX (k+1) f (PySem.W.fnOf name qual params body scope dV kV doc pm an cdv ct) ps sp:=by
 refine⟨len,fun A outer s H args us vs Q E hr e0 hb r hsp=>?_⟩
 have hl:=len _ _ _ _ hsp
 have KX:K.In s.heap:=e0.mod.kin.keeps fun b o e=>(e0.bs b o e).1
 have lim:s.heap.NoLimit:=e0.mod.nolimit.keeps fun b o e=>(e0.bs b o e).1
 have hkind:∀ y∈ps.zip us,scope.names.lookup y.1=some .local∨(scope.names.lookup y.1=some .cell∧((cellsFrom (s.heap.objs.size+1) scope.names []).lookup y.1).isSome=true):=fun ⟨n,v⟩ hy=>by
  rcases S.par n (List.of_mem_zip hy).1 with q|q
  ·exact .inl q
  ·exact .inr ⟨q,PySem.W.cellsFrom_some _ _ _ (.inl q)⟩
 refine codeAny_call_function hr.depth (KX _ _ lk) rfl S.co S.gen rfl (PySem.W.codeRec_of KX hcd) (hb _ _ _ _ ?_)
 refine wpAny_newFunctionEnv_cells S.kind hkind fun env he s1 x=>?_
 subst he
 refine⟨lim.keeps x.toInCall.keep,codeAny_func ?_⟩
 obtain ⟨t,ht,hq⟩:=hbody A outer s H vs Q E (hr.deeper _) hsp
 have I:Inv (cxOf CX P w K mg base N qual scope f cdv A outer s H E) [] (start N vs) H s1:=inv_start S hr.hd e0 hl r x
 refine wpAny_mono (ht [] s1 (start N vs) H _ I hq) (fun fl s' hs=>?_) fun e s' hs=>hs
 have fin:∀ {σ':St} {H':Hp} {v:V} {u:Value},Inv (cxOf CX P w K mg base N qual scope f cdv A outer s H E) [] σ' H' s'→RelV v u→Q v H'→CE outer P w H s Q u s' :=
  fun {σ' H' v u} J rv q=>⟨v,H',J.os,J.bare,J.base,J.hok,rv,q⟩
 cases fl with
 | ret u =>
  obtain ⟨v,σ',H',J,rv,q⟩:=hs
  exact fin J rv q
 | next =>
  obtain ⟨σ',H',J,q⟩:=hs
  exact fin (v:=V.non) (u:=Value.none) J rfl q
 | brk =>
  obtain ⟨_,_,_,q⟩:=hs
  exact False.elim q
 | cont =>
  obtain ⟨_,_,_,q⟩:=hs
  exact False.elim q
end L2
namespace L2
open PySem PySem.Spec PyProof.Rows
section
variable {X:Cx} {x:Str} {p pos:Pos} {e:Expr} {es:List Expr} {t:TA} {id T:String} {r:List V→Hp→VK→Prop}
noncomputable def tCB (r:List V→Hp→VK→Prop) (t:TA):TE:=fun σ H Q=>t σ H fun vs H1=>r vs H1 Q
theorem pe_callB (hc:CallR X (.builtin id) r) (hg:Gl X x) (hm:X.mg x=none) (hv:bootBuiltins x=some (.builtin id)) (ha:PA X (e::es) t) (hn:x≠"__name__":=by decide) (hdb:(x == ("__debug__":Str))=false:=by decide)
  (he:starEach (e::es) X.env=(false,eval e X.env)::starEach es X.env:=by rfl) (hpl:(backTo pos (starEach es X.env)).any (·.1)=false:=by rfl):PE X (.Call (.Name x p) (e::es) [] pos) (tCB r t):=by
 intro pins s σ H Q I h
 refine wpAny_Call_Name_kw (ld_blt I hg hm hv ?_ hn hdb)
 exact PyProof.Rows.callWith_builtin1 (thn (ha pos pins s σ H _ I h) fun us s1 ⟨vs,H1,I1,r1,q1⟩=>hc pins s1 σ H1 vs us Q I1 r1 q1) he hpl
theorem pe_callTy (hc:CallR X (.type T) r) (hg:Gl X x) (hm:X.mg x=none) (hv:bootBuiltins x=some (.type T)) (ha:PA X (e::es) t) (hn:x≠"__name__":=by decide) (hdb:(x == ("__debug__":Str))=false:=by decide)
  (he:starEach (e::es) X.env=(false,eval e X.env)::starEach es X.env:=by rfl) (hpl:(backTo pos (starEach es X.env)).any (·.1)=false:=by rfl):PE X (.Call (.Name x p) (e::es) [] pos) (tCB r t):=by
 intro pins s σ H Q I h
 refine wpAny_Call_Name_kw (ld_blt I hg hm hv ?_ hn hdb)
 exact PyProof.Rows.callWith_type1 (thn (ha pos pins s σ H _ I h) fun us s1 ⟨vs,H1,I1,r1,q1⟩=>hc pins s1 σ H1 vs us Q I1 r1 q1) he hpl
end
end L2
namespace HT
open PySem PyProof.Rows
section
variable {prog:Program} {w:World} {A:Around} {E:Value→Shared→Prop} {s:Shared}
theorem cat_tup {t b:Addr} {vs ws:List Value} {Q:Value→Shared→Prop} (ht:IsTup s.heap t vs.toArray) (hb:IsTup s.heap b ws.toArray) (hv:vs≠[])
  (h1:ws=[]→Q (.ref t) s) (h2:ws≠[]→Q (.ref s.heap.objs.size) { s with heap:=s.heap.push { cls:=.type "tuple",data:=.seq (vs++ws).toArray } })
  (hsz:vs.length+ws.length≤sizeLine):wpAny (model prog w) A (binaryOp .Add (.ref t) (.ref b)) Q E s:=by
 obtain ⟨⟨cls,dd,data,sl⟩,ho,hc,n,hd⟩:=id ht
 obtain ⟨⟨cls2,dd2,data2,sl2⟩,ho2,hc2,n2,hd2⟩:=id hb
 simp only at hc hd hc2 hd2
 subst hc hd hc2 hd2
 have e:vs.toArray++ws.toArray=(vs++ws).toArray:=by simp
 by_cases hw:ws=[]
 ·exact concat_meets ⟨_,ho,rfl⟩ ⟨_,ho2,rfl⟩ noFill_tuple_add seq_tuple_add PySem.F.slot_tuple_add PySem.F.entry_tuple_add (PySem.F.args_tuple_add_2 _ _)
   (tuple_addW1 t b vs.toArray ws.toArray n n2 dd dd2 sl sl2 (by simpa using hv) (by simp [hw])) ⟨ho,ho2,h1 hw⟩
 ·refine concat_meets ⟨_,ho,rfl⟩ ⟨_,ho2,rfl⟩ noFill_tuple_add seq_tuple_add PySem.F.slot_tuple_add PySem.F.entry_tuple_add (PySem.F.args_tuple_add_2 _ _)
   (tuple_addW2 t b vs.toArray ws.toArray n n2 dd dd2 sl sl2 (by simpa using hv) (by simpa using hw) (by rw [List.size_toArray,List.size_toArray];exact hsz)) ⟨ho,ho2,?_⟩
  rw [e]
  exact h2 hw
noncomputable def sIx (n d:Nat):Option Int→Nat
 | none=>d
 | some v=>if v<0 then (v+(n:Int)).toNat else min v.toNat n
theorem sIx_none (n d:Nat):sIx n d none=d:=rfl
theorem sIx_nat (n d k:Nat):sIx n d (some (k:Int))=min k n:=by
 show (if (k:Int)<0 then ((k:Int)+(n:Int)).toNat else min (k:Int).toNat n)=min k n
 rw [if_neg (by lia),Int.toNat_natCast]
theorem sIx_le (n d:Nat) (hd:d≤n) (o:Option Int):sIx n d o≤n:=by
 cases o with
 | none=>exact hd
 | some v =>
  show (if v<0 then (v+(n:Int)).toNat else min v.toNat n)≤n
  by_cases hv:v<0
  ·rw [if_pos hv];lia
  ·rw [if_neg hv];exact Nat.min_le_right _ _
theorem clip_eq (v:Int) (n d:Nat):(if v<0 then max (v+(n:Int)) 0 else min v (n:Int))=((sIx n d (some v):Nat):Int):=by
 show (if v<0 then max (v+(n:Int)) 0 else min v (n:Int))=(((if v<0 then (v+(n:Int)).toNat else min v.toNat n):Nat):Int)
 by_cases hv:v<0
 ·simp only [if_pos hv];lia
 ·simp only [if_neg hv];lia
theorem adjust_gen (lo hi:Option Int) (n:Nat):Builtin.Slice.sliceAdjust lo hi 1 (n:Int)=(((sIx n 0 lo:Nat):Int),((sIx n n hi:Nat):Int)):=by
 have h1:¬ ((1:Int)<0):=by lia
 unfold Builtin.Slice.sliceAdjust
 simp only [h1,if_false]
 refine Prod.ext ?_ ?_
 ·cases lo with
  | none=>rfl
  | some v=>exact clip_eq v n 0
 ·cases hi with
  | none=>rfl
  | some v=>exact clip_eq v n n
theorem places_gen (i j:Nat):Builtin.Slice.slicePlaces (i:Int) (j:Int) 1=j - i:=by
 unfold Builtin.Slice.slicePlaces
 have h1:(1:Int) > 0:=by lia
 simp only [h1,if_true,Int.ediv_one]
 split <;> lia
theorem slicePart_ {v:Value} {o:Option Int} {Q:Option Int→Shared→Prop} (p:IsPart v o) (h:Q o s):wpAny (model prog w) A (Builtin.Slice.slicePartIndex v) Q E s:=by
 cases p with
 | none=>exact slicePart_none h
 | int i t=>exact slicePart_int h
theorem sliceApplied_gen {sl:Addr} {vl vu:Value} {lo hi:Option Int} {n:Nat} {Q:Int×Int×Nat→Shared→Prop} (hs:s.heap.IsSliceOf sl vl vu .none) (pl:IsPart vl lo) (pu:IsPart vu hi)
  (h:Q (((sIx n 0 lo:Nat):Int),1,sIx n n hi - sIx n 0 lo) s):wpAny (model prog w) A (Builtin.Slice.sliceApplied (.ref sl) (pure (n:Int))) Q E s:=by
 obtain ⟨os,hos,hcs,hds⟩:=id hs
 unfold Builtin.Slice.sliceApplied Builtin.Slice.sliceFields
 refine wpAny_bind (wpAny_bind (wpAny_field hos hds (x:=vl) rfl (wpAny_bind (wpAny_field hos hds (x:=vu) rfl (wpAny_bind (wpAny_field hos hds (x:=.none) rfl (wpAny_pure ?_)))))))
 refine wpAny_bind (slicePart_none ?_)
 show wpAny _ _ (if ((1:Int) == 0)=true then _ else _) _ _ s
 rw [if_neg (by decide)]
 refine wpAny_bind (slicePart_ pl (wpAny_bind (slicePart_ pu (wpAny_bind (wpAny_pure ?_)))))
 show wpAny _ _ (match Builtin.Slice.sliceAdjust lo hi 1 (n:Int) with|(lo,hi)=>pure (lo,(1:Int),Builtin.Slice.slicePlaces lo hi 1)) _ _ s
 rw [adjust_gen lo hi n]
 show wpAny _ _ (pure (((sIx n 0 lo:Nat):Int),(1:Int),Builtin.Slice.slicePlaces ((sIx n 0 lo:Nat):Int) ((sIx n n hi:Nat):Int) 1)) _ _ s
 rw [places_gen]
 exact wpAny_pure h
theorem pick_gen (xs:Array Value) (i k:Nat):((List.range k).filterMap fun (m:Nat)=>xs[((i:Int)+(m:Int)*1).toNat]?).toArray=((xs.toList.drop i).take k).toArray:=by
 have e:(fun (m:Nat)=>xs[((i:Int)+(m:Int)*1).toNat]?)=fun m=>xs[i+m]?:=by
  funext m
  have:((i:Int)+(m:Int)*1).toNat=i+m:=by lia
  rw [this]
 rw [e]
 have:=pick_run xs i k
 rw [List.filterMap_map] at this
 have e2:((fun x=>xs[x]?) ∘ fun x=>i+x)=fun m=>xs[i+m]?:=rfl
 rw [e2] at this
 rw [this]
theorem getItem_tuple_cut {t sl:Addr} {items:Array Value} {vl vu:Value} {lo hi:Option Int} {Q:Value→Shared→Prop} (ht:IsTup s.heap t items) (hs:s.heap.IsSliceOf sl vl vu .none) (pl:IsPart vl lo) (pu:IsPart vu hi)
  (hw:¬ (sIx items.size 0 lo=0∧sIx items.size items.size hi=items.size))
  (h:Q (.ref s.heap.objs.size) { s with heap:=s.heap.push { cls:=.type "tuple",data:=.seq ((items.toList.drop (sIx items.size 0 lo)).take (sIx items.size items.size hi - sIx items.size 0 lo)).toArray } })
  (hsz:items.size≤sizeLine):wpAny (model prog w) A (getItem (.ref t) (.ref sl)) Q E s:=by
 have htake:sizeOk (.seq ((items.toList.drop (sIx items.size 0 lo)).take (sIx items.size items.size hi - sIx items.size 0 lo)).toArray):=by
  show ((items.toList.drop (sIx items.size 0 lo)).take (sIx items.size items.size hi - sIx items.size 0 lo)).toArray.size≤sizeLine
  rw [List.size_toArray,List.length_take,List.length_drop,Array.length_toList]
  exact Nat.le_trans (Nat.min_le_right _ _) (Nat.le_trans (Nat.sub_le _ _) hsz)
 have hj:sIx items.size items.size hi≤items.size:=sIx_le _ _ (Nat.le_refl _) hi
 obtain ⟨os,hos,hcs,hds⟩:=id hs
 have hTs:s.TypeIs (.ref sl) "slice":=⟨os,hos,hcs⟩
 unfold getItem
 try with_reducible refine wpAny_holding ?_
 first|refine wpAny_bind (wpAny_pure ?_)|skip
 refine wpAny_bind (wpAny_sequenceKey ht.typeIs (by decide) ?_)
 refine wpAny_bind (wpAny_callSpecial?_slot (name:=Str.ofString "__getitem__") ht.typeIs PyProof.Rows.slot_tuple_getitem
  (wpAny_call_entry PyProof.Rows.slot_tuple_getitem ht.typeIs entry_tuple_getitem ?_ (args_tuple_getitem _ _)))
 show wpAny _ _ (Builtin.Tuple.tupleItemsOf (.ref t) >>= _) _ _ s
 refine wpAny_bind (tupleItemsOf_ ht ?_)
 refine wpAny_bind (wpAny_typeOf hTs ?_)
 rw [if_pos (by decide)]
 refine wpAny_bind (sliceApplied_gen hs pl pu ?_)
 have hno:¬ ((((sIx items.size 0 lo:Nat):Int) == 0 && (1:Int) == 1 && (sIx items.size items.size hi - sIx items.size 0 lo) == items.size)=true):=by
  intro q
  rw [Bool.and_eq_true,Bool.and_eq_true] at q
  have q1:((sIx items.size 0 lo:Nat):Int)=0:=eq_of_beq q.1.1
  have q2:sIx items.size items.size hi - sIx items.size 0 lo=items.size:=eq_of_beq q.2
  exact hw ⟨by lia,by lia⟩
 show wpAny _ _ (if (((sIx items.size 0 lo:Nat):Int) == 0 && (1:Int) == 1 && (sIx items.size items.size hi - sIx items.size 0 lo) == items.size)=true then _ else _) _ _ s
 rw [if_neg hno,pick_gen]
 first
  | exact wpAny_bind (m:=Builtin.Tuple.tupleExact _) (wpAny_newObj_type (wpAny_pure ⟨_,rfl,wpAny_pure h⟩) htake)
  | exact wpAny_bind (m:=Builtin.Tuple.tupleExact _) (wpAny_newObj_type (wpAny_bind (wpAny_pure (wpAny_pure ⟨_,rfl,wpAny_pure h⟩))) htake)
  | exact wpAny_bind (wpAny_bind (m:=Builtin.Tuple.tupleExact _) (wpAny_newObj_type (wpAny_pure (wpAny_pure ⟨_,rfl,wpAny_pure h⟩)) htake))
  | exact wpAny_bind (wpAny_bind (m:=Builtin.Tuple.tupleExact _) (wpAny_newObj_type (wpAny_pure ⟨_,rfl,wpAny_pure h⟩) htake))
end
end HT
namespace L2
open PySem PySem.Spec PyProof.Rows
noncomputable abbrev TO:=St→Hp→(Option Int→Hp→Prop)→Prop
noncomputable def PO (X:Cx) (e:Option Expr) (t:TO):Prop :=
 ∀ (pins:List (Addr×Obj)) (s:Shared) (σ:St) (H:Hp) (Q:Option Int→Hp→Prop),Inv X pins σ H s→t σ H Q →
  wpAny (model X.prog X.w) X.A (evalPart e X.env) (fun u s'=>∃ o H',Inv X pins σ H' s'∧IsPart u o∧Q o H') X.xe s
noncomputable def tNoPart:TO:=fun _ H Q=>Q none H
noncomputable def tPart (t:TE):TO:=fun σ H Q=>t σ H fun x H1=>∃ i,x=.int i∧Q (some i) H1
theorem intsAre_of {ns:List Int}:∀ {us:List Value},Vals (ns.map V.int) us→IntsAre us ns:=by
 induction ns with
 | nil=>intro us r;rw [List.map_nil] at r;cases r;exact .nil
 | cons n ns ih =>
  intro us r
  rw [List.map_cons] at r
  cases r with
  | cons r1 r2 =>
   obtain ⟨t,e⟩:=r1
   subst e
   exact .cons n t (ih r2)
section
variable {X:Cx} {e:Expr} {te:TE} {lo hi:Option Expr} {tl th:TO} {pos p2:Pos}
theorem po_none:PO X none tNoPart:=by
 intro pins s σ H Q I h
 rw [evalPart_none]
 exact wpAny_pure ⟨none,H,I,.none,h⟩
theorem po_some (h:PE X e te):PO X (some e) (tPart te):=by
 intro pins s σ H Q I hw
 rw [evalPart_some]
 refine thn (h pins s σ H _ I hw) fun u s1 ⟨x,H1,I1,r1,q1⟩=>?_
 obtain ⟨i,rfl,q⟩:=q1
 obtain ⟨t,rfl⟩:=r1
 exact⟨some i,H1,I1,.int i t,q⟩
noncomputable def SlR (X:Cx) (r:V→Option Int→Option Int→Hp→VK→Prop):Prop :=
 ∀ (pins:List (Addr×Obj)) (s:Shared) (σ:St) (H:Hp) (x:V) (v vl vu:Value) (lo hi:Option Int) (sl:Addr) (Q:VK),Inv X pins σ H s→RelV x v→s.heap.IsSliceOf sl vl vu .none→IsPart vl lo→IsPart vu hi→r x lo hi H Q →
  ∃ T id,typeLookup (.type T) "__getitem__"=pure (some (.builtin id))∧s.TypeIs v T∧wpAny (model X.prog X.w) X.A (getItem v (.ref sl)) (EP X pins σ Q) X.xe s
noncomputable def tSl (r:V→Option Int→Option Int→Hp→VK→Prop) (te:TE) (tl th:TO):TE:=fun σ H Q=>te σ H fun x H1=>tl σ H1 fun l H2=>th σ H2 fun u H3=>r x l u H3 Q
theorem pe_slice {r:V→Option Int→Option Int→Hp→VK→Prop} (hr:SlR X r) (he:PE X e te) (hl:PO X lo tl) (hu:PO X hi th):PE X (.Subscript e (.Slice lo hi none p2) pos) (tSl r te tl th):=by
 intro pins s σ H Q I h
 refine Subscript_ (thn (he pins s σ H _ I h) fun v s1 ⟨x,H1,I1,r1,q1⟩=>?_)
 refine wpAny_Slice (thn (hl pins s1 σ H1 _ I1 q1) fun vl s2 ⟨l,H2,I2,pl,q2⟩=>thn (hu pins s2 σ H2 _ I2 q2) fun vu s3 ⟨u,H3,I3,pu,q3⟩=>?_)
 rw [evalPart_none]
 refine wpAny_pure ?_
 have I4:Inv X pins σ H3 { s3 with heap:=s3.heap.push { cls:=.type "slice",data:=.fields #[vl,vu,.none] } }:=I3.kept (t':=s3.toks) fun b ob q=>Heap.get?_push_of_some _ q
 obtain ⟨T,id,hT,ht,hg⟩:=hr pins { s3 with heap:=s3.heap.push { cls:=.type "slice",data:=.fields #[vl,vu,.none] } } σ H3 x v vl vu l u s3.heap.objs.size Q I4 r1 (Heap.IsSliceOf.new ..) pl pu q3
 show wpAny (model X.prog X.w) X.A (subscriptTail e (.Slice lo hi none p2) v (.ref s3.heap.objs.size)) (EP X pins σ Q) X.xe { s3 with heap:=s3.heap.push { cls:=.type "slice",data:=.fields #[vl,vu,.none] } }
 exact tail_any (ops:=[.ref s3.heap.objs.size,v]) ht hT hg (by with_unfolding_all rfl)
noncomputable def cutV (xs:List V) (lo hi:Option Int):List V:=(xs.drop (HT.sIx xs.length 0 lo)).take (HT.sIx xs.length xs.length hi - HT.sIx xs.length 0 lo)
theorem cutV_length (xs:List V) (lo hi:Option Int):(cutV xs lo hi).length≤xs.length:=by
 unfold cutV
 rw [List.length_take,List.length_drop]
 lia
noncomputable def rSlT (K:PySem.W.Frag):V→Option Int→Option Int→Hp→VK→Prop:=fun x lo hi H Q=>∃ a xs,x=.ref a∧SqT K H a xs ∧
 ¬ (HT.sIx xs.length 0 lo=0∧HT.sIx xs.length xs.length hi=xs.length)∧∀ p,H p=none→Q (.ref p) (upd H p (.tup (cutV xs lo hi)))
theorem sl_tup:SlR X (rSlT X.K):=by
 intro pins s σ H x v vl vu lo hi sl Q I rx hs pl pu h
 obtain ⟨a,xs,rfl,hx,hw,q⟩:=h
 cases rx
 obtain ⟨its,r,ht,hz⟩:=I.tuple hx
 have hlen:its.toArray.size=xs.length:=by rw [List.size_toArray];exact r.length.symm
 refine⟨"tuple",_,PyProof.Rows.slot_tuple_getitem.lookup,ht.typeIs,?_⟩
 refine HT.getItem_tuple_cut ht hs pl pu (by rw [hlen];exact hw) ?_ (by rw [hlen];exact hz)
 rw [hlen]
 refine⟨.ref s.heap.objs.size,_,I.laid (t':=s.toks) (o:=.tup (cutV xs lo hi)) (fun b ob q=>Heap.get?_push_of_some _ q) (Nat.le_refl _) ?_,rfl,q _ (I.hok.fresh (Nat.le_refl _))⟩
 exact⟨Nat.le_trans (cutV_length xs lo hi) hz,_,(r.drop (HT.sIx xs.length 0 lo)).take (HT.sIx xs.length xs.length hi - HT.sIx xs.length 0 lo),IsTup.new _ _⟩
noncomputable def rCatT (K:PySem.W.Frag):R2:=fun x y H Q=>∃ a b xs ys,x=.ref a∧y=.ref b∧SqT K H a xs∧SqT K H b ys∧xs≠[]∧xs.length+ys.length≤sizeLine ∧
 (ys=[]→Q (.ref a) H)∧(ys≠[]→∀ p,H p=none→Q (.ref p) (upd H p (.tup (xs++ys))))
theorem Vals.nil_iff {xs:List V} {us:List Value} (r:Vals xs us):us=[]↔xs=[]:=by
 cases r with
 | nil=>simp
 | cons _ _=>simp
theorem op_catT:OpR X (binaryOp .Add) (rCatT X.K):=by
 intro pins s σ H x y v u Q I rx ry h
 obtain ⟨a,b,xs,ys,rfl,rfl,ha,hb,hx,hz,q1,q2⟩:=h
 cases rx
 cases ry
 obtain ⟨its,r1,p1,_⟩:=I.tuple ha
 obtain ⟨its2,r2,p2,_⟩:=I.tuple hb
 refine HT.cat_tup p1 p2 (fun z=>hx (r1.nil_iff.mp z)) (fun z=>⟨.ref a,H,I,rfl,q1 (r2.nil_iff.mp z)⟩) (fun z=>?_) (by rw [← r1.length,← r2.length];exact hz)
 refine⟨.ref s.heap.objs.size,_,I.laid (t':=s.toks) (o:=.tup (xs++ys)) (fun b ob q=>Heap.get?_push_of_some _ q) (Nat.le_refl _) ?_,rfl,q2 (fun w=>z (r2.nil_iff.mpr w)) _ (I.hok.fresh (Nat.le_refl _))⟩
 exact⟨by rw [List.length_append];exact hz,_,r1.append r2,IsTup.new _ _⟩
end
end L2
namespace L2
open PySem PySem.Spec PyProof.Rows
noncomputable def ixN (n:Nat) (i:Int):Option Nat:=if 0≤i then (if i<n then some i.toNat else none) else if -(n:Int)≤i then some (i+n).toNat else none
noncomputable def atI {α:Type} (xs:List α) (i:Int):Option α:=(ixN xs.length i).bind fun j=>xs[j]?
theorem ixN_seq {n:Nat} {i:Int} {j:Nat} (h:ixN n i=some j):seqIndex? i n=some j∧j<n∧-(n:Int)≤i∧i<n:=by
 unfold ixN at h
 by_cases h0:0≤i
 ·rw [if_pos h0] at h
  by_cases h1:i<n
  ·rw [if_pos h1] at h
   have e:i.toNat=j:=Option.some.inj h
   exact⟨by rw [seqIndex_of h0 h1,e],by lia,by lia,h1⟩
  ·rw [if_neg h1] at h;cases h
 ·rw [if_neg h0] at h
  by_cases h1:-(n:Int)≤i
  ·rw [if_pos h1] at h
   have e:(i+n).toNat=j:=Option.some.inj h
   exact⟨by rw [seqIndex_neg (by lia) h1,e],by lia,h1,by lia⟩
  ·rw [if_neg h1] at h;cases h
theorem atI_get {α:Type} {xs:List α} {i:Int} {v:α} (h:atI xs i=some v):∃ j,seqIndex? i xs.length=some j∧xs[j]?=some v∧j<xs.length∧-(xs.length:Int)≤i∧i<xs.length:=by
 unfold atI at h
 cases e:ixN xs.length i with
 | none=>rw [e] at h;cases h
 | some j =>
  rw [e] at h
  obtain ⟨h1,h2,h3,h4⟩:=ixN_seq e
  exact⟨j,h1,h,h2,h3,h4⟩
theorem atI_nat {α:Type} {xs:List α} {j:Nat} {v:α} (h:xs[j]?=some v):atI xs (j:Int)=some v:=by
 have hj:j<xs.length:=(List.getElem?_eq_some_iff.mp h).1
 have e:ixN xs.length (j:Int)=some j:=by
  unfold ixN
  rw [if_pos (by lia),if_pos (by lia)];simp
 unfold atI;rw [e];exact h
noncomputable def PlainIx (b:Expr):Prop:=∀ o i,subscripted b false o i=operate [o,i] (getItem o i)
noncomputable def IxR (X:Cx) (r:R2):Prop :=
 ∀ (value slice:Expr) (pins:List (Addr×Obj)) (s:Shared) (σ:St) (H:Hp) (x y:V) (v u:Value) (Q:VK),Inv X pins σ H s→RelV x v→RelV y u→r x y H Q →
  subscripted slice false v u=operate [v,u] (getItem v u)→wpAny (model X.prog X.w) X.A (subscriptTail value slice v u) (EP X pins σ Q) X.xe s
noncomputable def MtR (X:Cx) (id:String) (r:V→List V→Hp→VK→Prop):Prop :=
 ∀ (pins:List (Addr×Obj)) (s:Shared) (σ:St) (H:Hp) (x:V) (xs:List V) (v:Value) (us:List Value) (Q:VK),Inv X pins σ H s→RelV x v→Vals xs us→r x xs H Q →
  wpAny (model X.prog X.w) X.A (call (.builtin id) (v::us)) (EP X pins σ Q) X.xe s
section
variable {X:Cx} {a b:Expr} {ta tb:TE} {pos:Pos}
theorem IxR.or {r r':R2} (h:IxR X r) (h':IxR X r'):IxR X (fun x y H Q=>r x y H Q∨r' x y H Q):=by
 intro value slice pins s σ H x y v u Q I rx ry q hs
 rcases q with q|q
 ·exact h value slice pins s σ H x y v u Q I rx ry q hs
 ·exact h' value slice pins s σ H x y v u Q I rx ry q hs
theorem pe_ix {r:R2} (hr:IxR X r) (ha:PE X a ta) (hb:PE X b tb) (hs:PlainIx b):PE X (.Subscript a b pos) (tOp r ta tb):=by
 intro pins s σ H Q I h
 exact Subscript_ (binT ha hb I h fun v u s2 x y H2 I2 rx ry q=>hr a b pins s2 σ H2 x y v u Q I2 rx ry q (hs _ _))
noncomputable def rIxL (K:PySem.W.Frag):R2:=fun x y H Q=>∃ p xs i v,x=.ref p∧y=.int i∧SqL K H p xs∧atI xs i=some v∧Q v H
noncomputable def rIxT (K:PySem.W.Frag):R2:=fun x y H Q=>∃ p xs i v,x=.ref p∧y=.int i∧SqT K H p xs∧atI xs i=some v∧Q v H
noncomputable def rIxS:R2:=fun x y H Q=>∃ z i c,x=.str z∧y=.int i∧z.length≤sizeLine∧atI z.cps.toList i=some c∧Q (.str ⟨#[c]⟩) H
theorem ix_list:IxR X (rIxL X.K):=by
 intro value slice pins s σ H x y v u Q I rx ry h hs
 obtain ⟨p,xs,i,z,rfl,rfl,hq,he,q⟩:=h
 cases rx
 obtain ⟨t,rfl⟩:=ry
 obtain ⟨its,r,pl,hz⟩:=I.list hq
 obtain ⟨j,h1,h2,h3,h4,h5⟩:=atI_get he
 obtain ⟨w,ew,rw'⟩:=r.get h2
 have hl:=r.length
 have hn:=line63
 have fin:EP X pins σ Q w s:=⟨z,H,I,rw',q⟩
 by_cases h0:0≤i
 ·have hj:i.toNat=j:=by
   rw [seqIndex_of h0 h5] at h1
   exact Option.some.inj h1
  exact item_listR pl.isList h0 (by lia) (by rw [hj];simpa using ew) fin hs
 ·have hj:(i+(its.toArray.size:Int)).toNat=j:=by
   rw [seqIndex_neg (by lia) h4] at h1
   rw [List.size_toArray,← hl]
   exact Option.some.inj h1
  exact subscriptTail_builtinR (x:=w) pl.isList.typeIs slot_list_getitem.lookup
   (wpAny_getItem_list_neg (Q:=fun r s'=>r=w∧EP X pins σ Q r s') pl.isList (by lia) (by rw [List.size_toArray] <;> lia) (by lia) (by rw [hj];simpa using ew) ⟨rfl,fin⟩) hs
theorem ix_tup:IxR X (rIxT X.K):=by
 intro value slice pins s σ H x y v u Q I rx ry h hs
 obtain ⟨p,xs,i,z,rfl,rfl,hq,he,q⟩:=h
 cases rx
 obtain ⟨t,rfl⟩:=ry
 obtain ⟨its,r,pl,hz⟩:=I.tuple hq
 obtain ⟨j,h1,h2,h3,h4,h5⟩:=atI_get he
 obtain ⟨w,ew,rw'⟩:=r.get h2
 have hl:=r.length
 have hn:=line63
 have fin:EP X pins σ Q w s:=⟨z,H,I,rw',q⟩
 exact subscriptTail_builtinR (x:=w) pl.typeIs slot_tuple_getitem.lookup
  (getItem_tuple (j:=j) (Q:=fun r s'=>r=w∧EP X pins σ Q r s') pl (by lia) (by lia) (by rw [List.size_toArray,← hl];exact h1) (by simpa using ew) ⟨rfl,fin⟩) hs
theorem ix_str:IxR X rIxS:=by
 intro value slice pins s σ H x y v u Q I rx ry h hs
 obtain ⟨z,i,c,rfl,rfl,hz,he,q⟩:=h
 obtain ⟨t,rfl⟩:=rx
 obtain ⟨t',rfl⟩:=ry
 obtain ⟨j,h1,h2,h3,h4,h5⟩:=atI_get he
 have hl:z.cps.toList.length=z.length:=by simp [Str.length]
 rw [hl] at h1 h4 h5
 have hn:=line63
 exact tail_any (typeIs_str s z t) slot_str_getitem.lookup (getItem_str (c:=c) (by
  have e1:decide (i < -(2 ^ 63:Int))=false:=decide_eq_false (by lia)
  have e2:decide (i ≥ 2 ^ 63)=false:=decide_eq_false (by lia)
  rw [e1,e2,Bool.or_false]) (by rw [h1];simpa using h2) ⟨.str ⟨#[c]⟩,H,I.tok _,⟨_,rfl⟩,q⟩) hs
noncomputable def rIx (K:PySem.W.Frag):R2:=fun x y H Q=>rIxL K x y H Q∨rIxT K x y H Q∨rIxS x y H Q
theorem ix_seq:IxR X (rIx X.K):=ix_list.or (ix_tup.or ix_str)
theorem mapSeq_set (its:List Value) (n j:Nat) (u:Value):Obj.mapSeq (·.setIfInBounds j u) { cls:=.type "list",data:=.seq its.toArray n }={ cls:=.type "list",data:=.seq (its.set j u).toArray n }:=by
 simp [Obj.mapSeq]
theorem Inv.lst {pins:List (Addr×Obj)} {σ:St} {H:Hp} {s:Shared} {p:Addr} {xs:List V} (I:Inv X pins σ H s) (h:H p=some (.lst xs)) :
  ∃ (its:List Value) (n:Nat),Vals xs its∧s.heap.get? p=some { cls:=.type "list",data:=.seq its.toArray n }∧xs.length≤sizeLine:=by
 obtain ⟨z,its,n,r,e⟩:=I.hok p _ h
 exact⟨its,n,r,e,z⟩
theorem Inv.lstUpd {pins:List (Addr×Obj)} {σ:St} {H:Hp} {s:Shared} {p:Addr} {xs ys:List V} {its its':List Value} {n n':Nat} {f:Obj→Obj} (I:Inv X pins σ H s) (h:H p=some (.lst xs))
  (ho:s.heap.get? p=some { cls:=.type "list",data:=.seq its.toArray n }) (hf:f { cls:=.type "list",data:=.seq its.toArray n }={ cls:=.type "list",data:=.seq its'.toArray n' }) (r:Vals ys its') (hz:ys.length≤sizeLine) (t:Nat) :
  Inv X pins σ (upd H p (.lst ys)) { s with heap:=s.heap.update p f,toks:=t }:=by
 have e:(s.heap.update p f).get? p=some { cls:=.type "list",data:=.seq its'.toArray n' }:=by
  rw [Heap.get?_update_self f ho (by rw [hf] <;> rfl),hf]
 refine I.write (x:=p) (e:=p) (by rw [h];trivial) (.inl rfl) (fun b u hb q=>(Heap.get?_update_other _ _ (Ne.symm hb)).trans q) ⟨_,e⟩ ?_
 exact⟨hz,its',n',r,e⟩
noncomputable def rSetL:V→V→V→Hp→(Hp→Prop)→Prop:=fun o i v H Q=>∃ p xs k j,o=.ref p∧i=.int k∧H p=some (.lst xs)∧ixN xs.length k=some j∧Q (upd H p (.lst (xs.set j v)))
theorem set_list:PSet X rSetL:=by
 intro pins s σ H o i v ov iv u Q I ro ri rv h
 obtain ⟨p,xs,k,j,rfl,rfl,hp,hj,q⟩:=h
 cases ro
 obtain ⟨t,rfl⟩:=ri
 obtain ⟨its,n,r,ho,hz⟩:=I.lst hp
 obtain ⟨h1,h2,h3,h4⟩:=ixN_seq hj
 have hl:=r.length
 have hn:=line63
 have I':Inv X pins σ (upd H p (.lst (xs.set j v))) { s with heap:=s.heap.update p (Obj.mapSeq (·.setIfInBounds j u)) } :=
  I.lstUpd hp ho (mapSeq_set its n j u) (r.set rv j) (by rw [List.length_set];exact hz) s.toks
 by_cases h0:0≤k
 ·have hk:k.toNat=j:=by
   rw [seqIndex_of h0 h4] at h1
   exact Option.some.inj h1
  exact PySem.W.ki_setAt ho h0 (by lia) (by rw [List.size_toArray,← hl];exact h4) (by rw [hk];exact⟨_,I',q⟩)
 ·have hk:(k+(its.toArray.size:Int)).toNat=j:=by
   rw [seqIndex_neg (by lia) h3] at h1
   rw [List.size_toArray,← hl]
   exact Option.some.inj h1
  exact PySem.W.ki_setBack ho (by lia) (by rw [List.size_toArray,← hl];exact h3) (by lia) (by rw [hk];exact⟨_,I',q⟩)
theorem slice_bounds (lo hi:Option Int) (n:Nat):(sliceBounds lo hi none n).1=((HT.sIx n 0 lo:Nat):Int)∧(sliceBounds lo hi none n).2.1=((HT.sIx n n hi:Nat):Int)∧(sliceBounds lo hi none n).2.2=1:=by
 refine⟨?_,?_,rfl⟩
 ·cases lo with
  | none=>simp [sliceBounds,HT.sIx]
  | some i =>
   simp only [sliceBounds,HT.sIx,Option.getD_none,show (1:Int) > 0 by decide,if_true]
   by_cases h:i<0
   ·simp only [h,if_true] <;> lia
   ·simp only [h,if_false] <;> lia
 ·cases hi with
  | none=>simp [sliceBounds,HT.sIx]
  | some i =>
   simp only [sliceBounds,HT.sIx,Option.getD_none,show (1:Int) > 0 by decide,if_true]
   by_cases h:i<0
   ·simp only [h,if_true] <;> lia
   ·simp only [h,if_false] <;> lia
theorem slicePick_cut (its:List Value) (lo hi:Option Int):slicePick its.toArray lo hi none=((its.drop (HT.sIx its.length 0 lo)).take (HT.sIx its.length its.length hi - HT.sIx its.length 0 lo)).toArray:=by
 obtain ⟨h1,h2,h3⟩:=slice_bounds lo hi its.toArray.size
 unfold slicePick
 rw [h1,h2,h3]
 simp only [sliceRange_one,pick_run,List.size_toArray] <;> rfl
noncomputable def rSlL (K:PySem.W.Frag):V→Option Int→Option Int→Hp→VK→Prop:=fun x lo hi H Q=>∃ a xs,x=.ref a∧SqL K H a xs∧∀ p,H p=none→Q (.ref p) (upd H p (.lst (cutV xs lo hi)))
theorem sl_list:SlR X (rSlL X.K):=by
 intro pins s σ H x v vl vu lo hi sl Q I rx hs pl pu h
 obtain ⟨a,xs,rfl,hx,q⟩:=h
 cases rx
 obtain ⟨its,r,ht,hz⟩:=I.list hx
 have hlen:=r.length
 refine⟨"list",_,slot_list_getitem.lookup,ht.isList.typeIs,?_⟩
 refine wpAny_getItem_list_slice ht.isList hs pl pu .none (by simp) ?_ (by rw [List.size_toArray] <;> lia)
 rw [slicePick_cut,← hlen]
 refine⟨.ref s.heap.objs.size,_,I.laid (t':=s.toks) (o:=.lst (cutV xs lo hi)) (fun b ob q=>Heap.get?_push_of_some _ q) (Nat.le_refl _) ?_,rfl,q _ (I.hok.fresh (Nat.le_refl _))⟩
 exact⟨Nat.le_trans (cutV_length xs lo hi) hz,_,0,(r.drop (HT.sIx xs.length 0 lo)).take (HT.sIx xs.length xs.length hi - HT.sIx xs.length 0 lo),Heap.get?_push_size _ rfl⟩
theorem call_len_seq:CallR X (.builtin "len") (fun xs H Q=>∃ p ys,xs=[.ref p]∧(SqL X.K H p ys∨SqT X.K H p ys)∧Q (.int ys.length) H):=by
 intro pins s σ H xs us Q I r h
 obtain ⟨p,ys,rfl,hq,q⟩:=h
 obtain ⟨u,rfl,rx⟩:=vals1 r
 cases rx
 have hn:=line63
 rcases hq with hq|hq
 ·obtain ⟨its,r',pl,hz⟩:=I.list hq
  have hlen:=r'.length
  exact Calls.call_len_list pl.isList (by simp only [List.size_toArray] <;> lia) ⟨.int ys.length,H,I.tok _,⟨s.toks+1,by rw [List.size_toArray,hlen]⟩,q⟩
 ·obtain ⟨its,r',pl,hz⟩:=I.tuple hq
  have hlen:=r'.length
  exact len_tuple pl (by simp only [List.size_toArray] <;> lia) ⟨.int ys.length,H,I.tok _,⟨s.toks+1,by rw [List.size_toArray,hlen]⟩,q⟩
theorem call_list_of:CallR X (.type "list") (fun xs H Q=>∃ p ys,xs=[.ref p]∧(SqL X.K H p ys∨SqT X.K H p ys)∧∀ l,H l=none→Q (.ref l) (upd H l (.lst ys))):=by
 intro pins s σ H xs us Q I r h
 obtain ⟨p,ys,rfl,hq,q⟩:=h
 obtain ⟨u,rfl,rx⟩:=vals1 r
 cases rx
 have fin:∀ (its:List Value),Vals ys its→ys.length≤sizeLine→∀ (h':Heap) (c':Nat),(∀ b o',s.heap.get? b=some o'→h'.get? b=some o') →
   h'.get? s.heap.objs.size=some { cls:=.type "list",dict:=none,data:=.seq its.toArray c',slots:=#[] }→EP X pins σ Q (.ref s.heap.objs.size) { s with heap:=h' }:=fun its r' hz h' c' kp e =>
  ⟨.ref s.heap.objs.size,_,I.laid (t':=s.toks) kp (Nat.le_refl _) (show ObjOk X.prog X.w _ h' _ (.lst ys) from ⟨hz,its,c',r',e⟩),rfl,q _ (I.hok.fresh (Nat.le_refl _))⟩
 rcases hq with hq|hq
 ·obtain ⟨its,r',pl,hz⟩:=I.list hq
  have hlen:=r'.length
  obtain ⟨o,ho,hc,n,hd⟩:=pl.isList
  exact call_list_seq p (.inl rfl) ho hc hd (fun h' c' kp e=>fin its r' hz h' c' kp e) (by simp only [List.size_toArray] <;> lia)
 ·obtain ⟨its,r',pl,hz⟩:=I.tuple hq
  have hlen:=r'.length
  obtain ⟨o,ho,hc,n,hd⟩:=pl
  exact call_list_seq p (.inr rfl) ho hc hd (fun h' c' kp e=>fin its r' hz h' c' kp e) (by simp only [List.size_toArray] <;> lia)
theorem call_tuple_of:CallR X (.type "tuple") (fun xs H Q=>∃ p ys,xs=[.ref p]∧((SqL X.K H p ys∧∀ l,H l=none→Q (.ref l) (upd H l (.tup ys)))∨(SqT X.K H p ys∧Q (.ref p) H))):=by
 intro pins s σ H xs us Q I r h
 obtain ⟨p,ys,rfl,h⟩:=h
 obtain ⟨u,rfl,rx⟩:=vals1 r
 cases rx
 rcases h with ⟨hq,q⟩|⟨hq,q⟩
 ·obtain ⟨its,r',pl,hz⟩:=I.list hq
  have hlen:=r'.length
  refine call_tuple_list pl.isList (fun h' kp=>?_) (by simp only [List.size_toArray] <;> lia)
  have I1:Inv X pins σ H { s with heap:=h' }:=I.kept (t':=s.toks) kp
  have I2:Inv X pins σ (upd H h'.objs.size (.tup ys)) { s with heap:=h'.push { cls:=.type "tuple",data:=.seq its.toArray } } :=
   I1.laid (t':=s.toks) (fun b o e=>Heap.get?_push_of_some _ e) (Nat.le_refl _) (show ObjOk X.prog X.w _ _ _ (.tup ys) from ⟨hz,its,r',IsTup.new _ _⟩)
  exact⟨.ref h'.objs.size,_,I2,rfl,q _ (I1.hok.fresh (Nat.le_refl _))⟩
 ·obtain ⟨its,r',pl,hz⟩:=I.tuple hq
  exact call_tuple_same pl ⟨.ref p,H,I,rfl,q⟩
noncomputable def tyV (K:PySem.W.Frag) (T:String) (x:V) (H:Hp):Prop:=match x with
 | .str _=>T = "str"
 | .int _=>T = "int"
 | .ref p=>(T = "list"∧∃ xs,SqL K H p xs)∨(T = "tuple"∧∃ o,K.lookup p=some o∧o.cls=.type "tuple"∧o.dict=none) ∨
   (T = "dict"∧((∃ kvs,H p=some (.dK kvs))∨∃ kvs,H p=some (.dT kvs)))∨(T = "set"∧∃ S n,H p=some (.set S n))
 | _=>False
theorem tyV_is {pins:List (Addr×Obj)} {σ:St} {H:Hp} {s:Shared} {T:String} {x:V} {v:Value} (I:Inv X pins σ H s) (r:RelV x v) (ty:tyV X.K T x H) :
  s.TypeIs v T∧∀ a,v=.ref a→∃ ob,s.heap.get? a=some ob∧ob.dict=none:=by
 cases x with
 | str z =>
  obtain ⟨t,rfl⟩:=r
  cases (show T = "str" from ty)
  exact⟨typeIs_str s z t,fun _ e=>nomatch e⟩
 | int i =>
  obtain ⟨t,rfl⟩:=r
  cases (show T = "int" from ty)
  exact⟨typeIs_int s i t,fun _ e=>nomatch e⟩
 | ref p =>
  cases r
  rcases ty with ⟨rfl,xs,hq⟩|⟨rfl,o,hk,hc,hd⟩|⟨rfl,hk⟩|⟨rfl,S,n,hk⟩
  ·obtain ⟨its,_,pl,_⟩:=I.list hq
   refine⟨pl.isList.typeIs,fun a e=>?_⟩
   cases e
   obtain ⟨o,n,e,c,hd,_⟩:=pl
   exact⟨o,e,hd⟩
  ·refine⟨⟨o,I.kIn p o hk,hc⟩,fun a e=>?_⟩
   cases e
   exact⟨o,I.kIn _ o hk,hd⟩
  ·have z:∃ o,s.heap.get? p=some o∧o.ExactDict:=by
    rcases hk with ⟨kvs,hk⟩|⟨kvs,hk⟩
    ·obtain ⟨_,_,_,_,o,_,_,e,ex,_⟩:=I.hok p _ hk
     exact⟨o,e,ex⟩
    ·obtain ⟨_,_,_,_,o,_,_,e,ex,_⟩:=I.hok p _ hk
     exact⟨o,e,ex⟩
   obtain ⟨o,e,ex⟩:=z
   refine⟨⟨o,e,ex.1⟩,fun a e2=>?_⟩
   cases e2
   exact⟨o,e,ex.2.1⟩
  ·obtain ⟨o,_,_,_,e,ex,_⟩:=I.hok p _ hk
   refine⟨⟨o,e,ex.1⟩,fun a e2=>?_⟩
   cases e2
   exact⟨o,e,ex.2.1⟩
 | _=>exact False.elim ty
noncomputable def tBM (K:PySem.W.Frag) (T:String) (r:V→List V→Hp→VK→Prop) (to:TE) (t:TA):TE:=fun σ H Q=>to σ H fun x H1=>tyV K T x H1∧t σ H1 fun xs H2=>r x xs H2 Q
variable {o e:Expr} {es:List Expr} {to:TE} {t:TA} {name:Str} {apos cpos:Pos} {T id:String} {r:V→List V→Hp→VK→Prop}
theorem pe_bm (pa:PlainAttrs T) (slot:Slot T name id) (hty:typeOf (.builtin id)=pure (.type "method_descriptor")) (hm:MtR X id r) (ho:PE X o to) (ha:PA X (e::es) t)
  (hbase:attributeBase o name X.env (eval o X.env)=eval o X.env:=by rfl)
  (hfew:((backTo cpos (starEach (e::es) X.env)).all (fun x=>!x.1) && (backToKw cpos (keywordEach [] X.env)).all (fun x=>x.1.isSome)
   && decide ((e::es).length+([]:List Keyword).length+(if ([]:List Keyword).isEmpty then 0 else 1)<30))=true:=by rfl)
  (hline:(apos.endLine == cpos.line)=true:=by rfl) (hs:starEach (e::es) X.env=(false,eval e X.env)::starEach es X.env:=by rfl) (hplain:(backTo cpos (starEach es X.env)).any (·.1)=false:=by rfl) :
  PE X (.Call (.Attribute o name apos) (e::es) [] cpos) (tBM X.K T r to t):=by
 intro pins s σ H Q I h
 refine wpAny_Call_method_late hbase hfew hline rfl (thn (ho pins s σ H _ I h) fun v s1 ⟨x,H1,I1,r1,ty,q1⟩=>?_)
 obtain ⟨h1,h2⟩:=tyV_is I1 r1 ty
 refine⟨T,id,pa,slot,hty,h1,h2,?_⟩
 have hA:=ha cpos pins s1 σ H1 _ I1 q1
 rw [hs] at hA ⊢
 refine Calls.callWith_builtin (by show (false || (backTo cpos (starEach es X.env)).any (·.1))=false;rw [hplain] <;> rfl) (Calls.evalArgs_plain ?_)
 exact thn hA fun us s2 ⟨vs,H2,I2,r2,q2⟩=>hm pins s2 σ H2 x vs v us Q I2 r1 r2 q2
/- xs.append(e),list.index on a module's tuple .. are MtR facts of 06m -/
end
end L2
namespace L2
open PySem PySem.Spec PyProof.Rows
noncomputable def MtM (X:Cx) (id:String) (r:V→List V→Hp→VK→Prop):Prop :=
 ∀ (pins:List (Addr×Obj)) (s:Shared) (σ:St) (H:Hp) (x:V) (xs:List V) (v:Value) (us:List Value) (Q:VK),Inv X pins σ H s→RelV x v→Vals xs us→r x xs H Q →
  wpAny (model X.prog X.w) X.A (call (.builtin id) (v::us)) (EP X pins σ Q) X.xe s
theorem Vals.one:∀ {x:V} {us:List Value},Vals [x] us→∃ u,us=[u]∧RelV x u
 | _,_,.cons r .nil=>⟨_,rfl,r⟩
theorem Vals.reverse {xs:List V} {us:List Value} (h:Vals xs us):Vals xs.reverse us.reverse:=by
 induction h with
 | nil=>exact .nil
 | cons r t ih=>rw [List.reverse_cons,List.reverse_cons];exact Vals.append ih (.cons r .nil)
section
variable {X:Cx} {pins:List (Addr×Obj)} {σ:St} {H:Hp} {s:Shared} {l b:Addr} {xs ys zs:List V}
theorem Inv.lset {its its':List Value} {n:Nat} {f:Array Value→Array Value} {t':Nat} (I:Inv X pins σ H s) (hH:H l=some (.lst xs))
  (e:s.heap.get? l=some { cls:=.type "list",data:=.seq its.toArray n }) (hf:f its.toArray=its'.toArray) (hv:Vals ys its') (hz:ys.length≤sizeLine) :
  Inv X pins σ (upd H l (.lst ys)) { s with heap:=s.heap.update l (Obj.mapSeq f),toks:=t' }:=by
 have q:=PySem.IsL.update e f
 rw [hf] at q
 refine I.write (x:=l) (e:=l) (by rw [hH];exact trivial) (.inl rfl) (fun b' u hb hu=>(Heap.get?_update_other s.heap (Obj.mapSeq f) (Ne.symm hb)).trans hu) ⟨_,q⟩ ?_
 exact⟨hz,its',_,hv,q⟩
theorem Inv.lnew {its:List Value} {t':Nat} (I:Inv X pins σ H s) (hv:Vals ys its) (hz:ys.length≤sizeLine) :
  Inv X pins σ (upd H s.heap.objs.size (.lst ys)) { s with heap:=s.heap.push { cls:=.type "list",data:=.seq its.toArray },toks:=t' } :=
 I.laid (fun _ _ q=>Heap.get?_push_of_some _ q) (Nat.le_refl _) ⟨hz,its,0,hv,Heap.get?_push_size _ rfl⟩
theorem Inv.fresh (I:Inv X pins σ H s):H s.heap.objs.size=none:=I.hok.fresh (Nat.le_refl _)
theorem Inv.lstM (I:Inv X pins σ H s) (hH:H l=some (.lst xs)):xs.length≤sizeLine∧∃ (its:List Value) (n:Nat),Vals xs its∧xs.length=its.length∧s.heap.get? l=some { cls:=.type "list",data:=.seq its.toArray n }:=by
 obtain ⟨z,its,n,r,e⟩:=I.hok l _ hH
 exact⟨z,its,n,r,r.length,e⟩
theorem notLongL {n:Nat} (h:n≤sizeLine):Builtin.List.listTooLong n=false:=by
 unfold Builtin.List.listTooLong
 exact decide_eq_false (by lia)
end
section
variable {X:Cx}
noncomputable def rAppend:V→List V→Hp→VK→Prop:=fun x vs H Q=>∃ l xs y,x=.ref l∧vs=[y]∧H l=some (.lst xs)∧xs.length<sizeLine∧Q .non (upd H l (.lst (xs++[y])))
theorem mt_append:MtM X "list.append" rAppend:=by
 intro pins s σ H x vs v us Q I rx rv h
 obtain ⟨l,xs,y,rfl,rfl,hH,hz,q⟩:=h
 cases rx
 obtain ⟨u,rfl,ru⟩:=rv.one
 obtain ⟨z,its,n,r,hl,e⟩:=I.lstM hH
 refine call_meets F.slot_list_append ⟨_,e,rfl⟩ F.entry_list_append (F.args_list_append_2 _ _) (PySem.list_append l its.toArray n u (by rw [List.size_toArray];lia)) ⟨e,?_⟩
 refine⟨.non,_,I.lset (its':=its++[u]) hH e (by simp) (r.append (.cons ru .nil)) ?_,rfl,q⟩
 rw [List.length_append,List.length_singleton]
 lia
noncomputable def rExtend:V→List V→Hp→VK→Prop:=fun x vs H Q=>∃ l b xs zs,x=.ref l∧vs=[.ref b]∧H l=some (.lst xs)∧H b=some (.lst zs)∧xs.length+zs.length≤sizeLine∧Q .non (upd H l (.lst (xs++zs)))
theorem mt_extend:MtM X "list.extend" rExtend:=by
 intro pins s σ H x vs v us Q I rx rv h
 obtain ⟨l,b,xs,zs,rfl,rfl,hH,hB,hz,q⟩:=h
 cases rx
 obtain ⟨u,rfl,ru⟩:=rv.one
 cases ru
 obtain ⟨z,its,n,r,hl,e⟩:=I.lstM hH
 obtain ⟨z2,its2,n2,r2,hl2,e2⟩:=I.lstM hB
 have hsz:its.toArray.size+its2.toArray.size≤sizeLine:=by rw [List.size_toArray,List.size_toArray];lia
 have hlong:¬ (!its.toArray.isEmpty && Builtin.List.listTooLong (its.toArray.size+its2.toArray.size))=true:=by
  rw [notLongL hsz,Bool.and_false]
  exact Bool.false_ne_true
 refine call_meets F.slot_list_extend ⟨_,e,rfl⟩ F.entry_list_extend (F.args_list_extend_2 _ _)
  (AutoSeq1.list_extend_list_list_0 l its.toArray n b its2.toArray n2 hlong (by rw [List.size_toArray];lia) (by lia)) ⟨e,e2,?_⟩
 refine⟨.non,_,I.lset (its':=its++its2) hH e (by simp) (r.append r2) ?_,rfl,q⟩
 rw [List.length_append]
 lia
noncomputable def rCat:R2:=fun x y H Q=>∃ l b xs zs,x=.ref l∧y=.ref b∧H l=some (.lst xs)∧H b=some (.lst zs)∧xs.length+zs.length≤sizeLine∧∀ p,H p=none→Q (.ref p) (upd H p (.lst (xs++zs)))
theorem op_cat:OpR X (binaryOp .Add) rCat:=by
 intro pins s σ H x y v u Q I rx ry h
 obtain ⟨l,b,xs,zs,rfl,rfl,hH,hB,hz,q⟩:=h
 cases rx
 cases ry
 obtain ⟨z,its,n,r,hl,e⟩:=I.lstM hH
 obtain ⟨z2,its2,n2,r2,hl2,e2⟩:=I.lstM hB
 refine PySem.P.add_list e e2 ?_ (by rw [List.size_toArray,List.size_toArray];lia)
 have ea:its.toArray++its2.toArray=(its++its2).toArray:=by simp
 rw [ea]
 exact⟨.ref _,_,I.lnew (t':=s.toks) (r.append r2) (by rw [List.length_append];lia),rfl,q _ I.fresh⟩
end
end L2
namespace Att
open PySem PySem.W PySem.Calls PyProof.Rows
theorem ints_of_wellAll {P:Params} {h:Heap}:∀ (ns:List Int) (vs:List Value),WellAll P h vs (ns.map WData.int)→IntsAre vs ns:=by
 intro ns
 induction ns with
 | nil =>
  intro vs w
  rw [List.map_nil] at w
  cases w
  exact .nil
 | cons n ns ih =>
  intro vs w
  rw [List.map_cons] at w
  cases w with
  | cons a b =>
   cases a
   exact .cons _ _ (ih _ b)
theorem script_of {l:OpenLaw} {n:Nat} (hn:l.most=some n) {P:Params} {h:Heap} {args:List WData} {vals:List Value}
  (hpre:l.row.toRowW.claim.pre args=true) (hwl:WellAll P h vals args) :
  ∃ a vs ns,vals=[Value.ref a]∧args=[WData.list (ns.map WData.int)]∧h.get? a=some { cls:=.type "list",data:=.seq vs.toArray }∧IntsAre vs ns∧ns.length≤n:=by
 have hsh:WShape.hasAll [] args [.list .int]=true:=(pre_splitW hpre).1
 have hc:l.pre.holds [] { args:=args }=true:=(pre_splitW hpre).2
 obtain ⟨d,r,rfl,h1,h2⟩:=hasAllW_cons hsh
 obtain rfl:=hasAllW_nil h2
 obtain ⟨xs,rfl,h3⟩:=hasW_list h1
 obtain ⟨ns,rfl⟩:=items_int h3
 have hlen:ns.length≤n:=by
  unfold OpenLaw.pre at hc
  have h4:(WTm.not (.lt (.lit (.int (n:Int))) (.len (.arg 0)))).holds [] { args:=[.list (ns.map .int)] }=true:=by
   have h4:=(holds_andW hc).1
   rw [hn] at h4
   exact h4
  have h5:=condW_of h4 (w_not (w_lt w_lit (w_len_list (w_arg rfl))))
  rw [List.length_map] at h5
  refine Nat.le_of_not_lt fun q=>?_
  have q':(n:Int)<((ns.length:Nat):Int):=by lia
  first
   | (rw [decide_eq_true q'] at h5;exact absurd h5 (by decide))
   | (simp at h5;lia)
 cases hwl with
 | cons w1 w2 =>
  cases w2
  cases w1 with
  | list ho hall=>exact⟨_,_,ns,rfl,rfl,ho,ints_of_wellAll ns _ hall,hlen⟩
theorem post_true (l:OpenLaw) (args:List WData):l.row.toRowW.claim.post args (.bool true) args=true :=
 postW_of (r:=l.row.toRowW) (X:=(true == true))
  (show WShape.has [] (.bool true) .bool=true by first|rfl|decide|simp [WShape.has,WShape.arms,WShape.armsAll])
  (show (WTm.eq .res (.lit (.bool true))).value [] { args:=args,res:=some (.bool true),after:=args }=some (.bool (true == true)) from w_eq_bool (w_res rfl) w_lit) rfl
theorem attach_call {l:OpenLaw} {n:Nat} {q:Program} {loose:List Str} {XP:(Str→Option Value)→Heap→Prop} {YP:World→Heap→Prop} {d:DefRec}
  (hn:l.most=some n) (hdf:d.params.defaults=[])
  (call:∀ (w:World) (s₀ s₁:Shared) (mg mb:Str→Option Value) (fa:Addr) (o:Obj) (pm cd doc:Value) (a:Addr) (vs:List Value) (ns:List Int),
   Ground q loose [] XP w s₀ mg mb s₁.heap→YP w s₁.heap →
   s₁.heap.get? fa=some o→o.data=.func (docDef d.name d.params d.body d.scope pm cd doc)→s₁.heap.CodeRec cd d.name→mg d.name=some (.ref fa) →
   s₁.heap.get? a=some { cls:=.type "list",data:=.seq vs.toArray }→IntsAre vs ns→ns.length≤n→s₁.gens=#[] →
   codeAny (model l.prog w) callerA (.call (.ref fa) ⟨[.ref a],[]⟩) (fun r s'=>r=.ok (.ret (.bool true))∧OldK s₁.heap s'.heap∧s'.os=s₁.os∧AllBare s'.gens) s₁) :
  WalkO q loose XP YP l.row.toRowW d [] (fun f vs=>PySem.call f vs):=by
 intro w s₀ s₁ mg mb G Y fa o pm cd doc dV kV ho hd hcd hD hmg hg args vals as hpre hlay hrd hwl hlo
 obtain rfl:dV=.none:=Dflts.none hD hdf
 obtain rfl:kV=.none:=Dflts.noKw hD
 obtain ⟨a,vs,ns,rfl,rfl,hobj,hints,hlen⟩:=script_of hn hpre hwl
 refine enter_call (codeAny_mono (call w s₀ s₁ mg mb fa o pm cd doc a vs ns G Y ho (fd_plain hd) hcd hmg hobj hints hlen hg) fun r s' hq=>?_)
 obtain ⟨rfl,h2,h3,h4⟩:=hq
 exact⟨.inl ⟨.bool true,.bool true,[],rfl,fun _=>rfl,.bool true,post_true l _,fun _=>⟨List.Pairwise.nil,fun _ hm=>(nomatch hm)⟩⟩,h2,h3,h4⟩
section
variable {prog:Program} {w:World} {A:Around} {E:Value→Shared→Prop} {s:Shared} {K:Frag}
noncomputable def noObjs (h:Heap):Heap:={ h with objs:=#[] }
theorem noObjs_get (h:Heap) (b:Addr):(noObjs h).get? b=none:=by
 cases e:(noObjs h).get? b with
 | none=>rfl
 | some o=>exact absurd (Heap.lt_size e) (Nat.not_lt_zero _)
noncomputable def ledger (h:Heap) (L d:Addr):List (Addr×Obj):=(List.range h.objs.size).filterMap fun a=>if a=L∨a=d then none else (h.get? a).map fun o=>(a,o)
theorem mem_ledger {h:Heap} {L d a:Addr} {o:Obj}:(a,o)∈ledger h L d↔a≠L∧a≠d∧h.get? a=some o:=by
 unfold ledger
 rw [List.mem_filterMap]
 constructor
 ·rintro ⟨b,_,e⟩
  split at e
  ·cases e
  ·rename_i hb
   obtain ⟨o',ho,e'⟩:=Option.map_eq_some_iff.mp e
   cases e'
   exact⟨fun q=>hb (.inl q),fun q=>hb (.inr q),ho⟩
 ·rintro ⟨n1,n2,ho⟩
  refine⟨a,List.mem_range.mpr (Heap.lt_size ho),?_⟩
  rw [if_neg (show ¬ (a=L∨a=d) from fun q=>q.elim n1 n2),ho] <;> rfl
theorem news_ledger {h:Heap} {L d:Addr} {od:Obj} (hne:d≠L) (ho:h.get? d=some od):News (noObjs h) L h ([]++(d,od)::ledger h L d):=by
 rintro ⟨a,o⟩ hp
 rcases List.mem_cons.mp hp with e|hp
 ·cases e
  exact⟨ho,hne,noObjs_get _ _⟩
 ·obtain ⟨n1,n2,e⟩:=mem_ledger.mp hp
  exact⟨e,n1,noObjs_get _ _⟩
theorem fr_all {h:Heap} {L:Addr} {m:Str→Option Value} (n:h.Ns L m):Fr (noObjs h) L h m :=
 ⟨n,fun b o e=>(by rw [noObjs_get] at e;cases e),Nat.zero_le _⟩
end
end Att
namespace L2
open PySem PySem.Spec PyProof.Rows
theorem vals_ints:∀ {vs:List Value} {ns:List Int},IntsAre vs ns→Vals (ns.map V.int) vs
 | _,_,.nil=>.nil
 | _,_,.cons n t h=>.cons ⟨t,rfl⟩ (vals_ints h)
end L2
namespace L2
open PySem PySem.Spec PyProof.Rows
noncomputable def defArgs (s:Stmt):Arguments:=match s with
 | .FunctionDef _ a _ _ _ _ _ _ _ _=>a
 | _=>{ posonlyargs:=[],args:=[],vararg:=none,kwonlyargs:=[],kw_defaults:=[],kwarg:=none,defaults:=[] }
noncomputable def defBody (s:Stmt):List Stmt:=match s with
 | .FunctionDef _ _ b _ _ _ _ _ _ _=>b
 | _=>[]
noncomputable def defScope (s:Stmt):Scope:=match s with
 | .FunctionDef _ _ _ _ _ _ sc _ _ _=>sc
 | _=>{ kind:=.function,names:=[],isGenerator:=false,isCoroutine:=false }
noncomputable abbrev CX0:CXT:=fun _ _ _ _ _ _=>False
noncomputable abbrev E0:XK:=fun _ _ _=>False
theorem pass0 {X:Cx}:Passes CX0 X E0:=fun _ _ _ _ _ _ _ h=>h.elim
structure Fun (K:PySem.W.Frag) (x qual:Str) (st:Stmt) (f:Addr) (fd:FuncData):Prop where
 ex:∃ (oc:Value) (od:Option Addr) (kV doc pm:Value) (an:Option Addr) (cdv ct:Value) (osl:Array (Option Value)),
  fd=PySem.W.fnOf x qual (defArgs st) (defBody st) (defScope st) .none kV doc pm an cdv ct∧K.lookup f=some ⟨oc,od,.func fd,osl⟩∧PySem.W.codeIn K cdv qual=true
 kp:PySem.W.keepIn K (.ref f)=true
section
variable {P:Program} {w:World} {K:PySem.W.Frag} {mg:Str→Option Value} {base:Heap}
theorem Fun.ok {x qual:Str} {st:Stmt} {f:Addr} {fd:FuncData} {N ps:List Str} {k:Nat} {sp:Sp} (F:Fun K x qual st f fd) (S:FnScope N ps (defScope st)) (len:∀ vs H Q E,sp vs H Q E→vs.length=ps.length)
  (hbody:∀ (cdv:Value) (A:Around) (outer:List Env) (s:Shared) (H:Hp) (vs:List V) (Q:VK) (E:XK),Room k (A.deeper (envOfC qual (defScope st) s.heap.objs.size f cdv))→sp vs H Q E →
   ∃ t,PSs (cxOf CX0 P w K mg base N qual (defScope st) f cdv A outer s H E).nox (defBody st) t∧t { nx:=fun _ H'=>Q .non H',rt:=Q } (start N vs) H):FnOk P w K mg base CX0 (k+1) f fd ps sp:=by
 obtain ⟨oc,od,kV,doc,pm,an,cdv,ct,osl,rfl,lk,hcd⟩:=F.ex
 refine fn_of lk hcd S len fun A outer s H vs Q E hr hsp=>?_
 obtain ⟨t,h,q⟩:=hbody cdv A outer s H vs Q E hr hsp
 exact⟨t,h.nox,q⟩
theorem Fun.binds {x qual:Str} {st:Stmt} {f:Addr} {fd:FuncData} {ps:List Str} (F:Fun K x qual st f fd)
  (h:∀ (kV doc pm:Value) (an:Option Addr) (cdv ct:Value) (us:List Value),us.length=ps.length→bindArgs (PySem.W.fnOf x qual (defArgs st) (defBody st) (defScope st) .none kV doc pm an cdv ct) ⟨us,[]⟩=pure (ps.zip us)):Binds K fd ps []:=by
 obtain ⟨oc,od,kV,doc,pm,an,cdv,ct,osl,rfl,lk,hcd⟩:=F.ex
 exact .all (h kV doc pm an cdv ct)
theorem fun_mk {x qual:Str} {st:Stmt} {f:Addr} {oc:Value} {od an:Option Addr} {osl:Array (Option Value)} {kV doc pm cdv ct:Value} (l:K.lookup f=some ⟨oc,od,.func (PySem.W.fnOf x qual (defArgs st) (defBody st) (defScope st) .none kV doc pm an cdv ct),osl⟩)
  (c:PySem.W.codeIn K cdv qual=true) (k:PySem.W.keepIn K (.ref f)=true):Fun K x qual st f (PySem.W.fnOf x qual (defArgs st) (defBody st) (defScope st) .none kV doc pm an cdv ct):=⟨⟨oc,od,kV,doc,pm,an,cdv,ct,osl,rfl,l,c⟩,k⟩
end
theorem hu_of {A:Around} {k:Nat} (hr:Room k A):A.units+1<cLine:=Nat.lt_of_le_of_lt (Nat.add_le_add_left (by decide:1≤64) _) hr.units
theorem small1000 {n:Nat} (h:n≤1000):n<sizeLine:=Nat.lt_of_le_of_lt h (by decide)
section
variable {X:Cx}
theorem pv (i:Nat) {x:Str} {pos:Pos} (hN:X.N[i]?=some x:=by rfl) (hv:Vis X.env.scope x:=by first|exact Or.inl rfl|exact Or.inr (Or.inl rfl)|exact Or.inr (Or.inr rfl)) (hd:(x == ("__debug__":Str))=false:=by decide)
  (hcd:(x == ("__classdict__":Str))=false:=by decide):PE X (.Name x pos) (tVar i):=pe_var hN hv hd hcd
end
theorem iteF {A B:Prop} (h:B):if false=true then A else B:=by
 rw [if_neg Bool.false_ne_true]
 exact h
theorem iteT {A B:Prop} (h:A):if true=true then A else B:=by
 rw [if_pos rfl]
 exact h
noncomputable def Same (H H':Hp):Prop:=∀ b o,H b=some o→H' b=some o
theorem Same.refl (H:Hp):Same H H:=fun _ _ h=>h
theorem Same.trans {H H1 H2:Hp} (a:Same H H1) (b:Same H1 H2):Same H H2:=fun c o h=>b c o (a c o h)
theorem Same.seq {K:PySem.W.Frag} {H H':Hp} {a:Addr} {xs:List V} (e:Same H H') (h:SqL K H a xs):SqL K H' a xs:=by
 rcases h with (h|⟨o,h⟩)|h
 ·exact .inl (.inl (e _ _ h))
 ·exact .inl (.inr ⟨o,e _ _ h⟩)
 ·exact .inr h
end L2
namespace L2
open PySem
noncomputable def clOf (cells:List (Str×Addr)):List (Str×NameKind)→List (Str×Addr)→List (Str×Addr)
 | [],acc=>acc
 | (n,k)::r,acc=>clOf cells r (if k == .free then (match cells.lookup n with|some c=>(n,c)::acc|none=>acc) else acc)
theorem closure_eq {scope:Scope} {env:Env} (h:∀ p∈scope.names,p.2=.free→∃ c,env.cells.lookup p.1=some c):closureFor scope env=pure (clOf env.cells scope.names []):=by
 have key:∀ (names:List (Str×NameKind)) (acc:List (Str×Addr)),(∀ p∈names,p.2=.free→∃ c,env.cells.lookup p.1=some c) →
   (forIn names acc (fun (x:Str×NameKind) (cs:List (Str×Addr))=>if (x.2 == NameKind.free)=true then (do let c ← cellOf env x.1;pure (ForInStep.yield ((x.1,c)::cs))) else pure (ForInStep.yield cs)):Sem (List (Str×Addr)))=pure (clOf env.cells names acc):=by
  intro names
  induction names with
  | nil=>intro acc _;rfl
  | cons p r ih =>
   intro acc hp
   obtain ⟨n,k⟩:=p
   rw [List.forIn_cons]
   by_cases hk:k=.free
   ·subst hk
    obtain ⟨c,hc⟩:=hp (n,.free) List.mem_cons_self rfl
    have e:cellOf env n=pure c:=by unfold cellOf;rw [show env.cells.lookup n=some c from hc]
    show (if (NameKind.free == NameKind.free)=true then _ else _) >>= _=_
    rw [if_pos (by rfl)]
    dsimp only
    rw [e]
    show (forIn r ((n,c)::acc) _:Sem _)=_
    rw [ih _ fun q hq=>hp q (List.mem_cons_of_mem _ hq)]
    simp [clOf,show env.cells.lookup n=some c from hc]
   ·have hk':(k == NameKind.free)=false:=by simpa using hk
    show (if (k == NameKind.free)=true then _ else _) >>= _=_
    rw [if_neg (by rw [hk'];exact Bool.false_ne_true)]
    show (forIn r acc _:Sem _)=_
    rw [ih _ fun q hq=>hp q (List.mem_cons_of_mem _ hq)]
    simp [clOf,hk']
 unfold closureFor
 have k:=key scope.names [] h
 exact (congrArg (fun m:Sem (List (Str×Addr))=>m >>= fun cs=>pure cs) k).trans rfl
theorem clOf_sub {cells:List (Str×Addr)}:∀ {names:List (Str×NameKind)} {acc:List (Str×Addr)},(∀ x c,acc.lookup x=some c→cells.lookup x=some c)→∀ x c,(clOf cells names acc).lookup x=some c→cells.lookup x=some c
 | [],acc,h,x,c,e=>h x c e
 | (n,k)::r,acc,h,x,c,e=>by
  refine clOf_sub (names:=r) (fun y d q=>?_) x c e
  split at q
  ·split at q
   ·rename_i c0 hc0
    rw [List.lookup_cons] at q
    split at q
    ·rename_i hy
     have hy':y=n:=by simpa using hy
     subst hy'
     rw [hc0];exact q
    ·exact h y d q
   ·exact h y d q
  ·exact h y d q
theorem clOf_has {cells:List (Str×Addr)}:∀ {names:List (Str×NameKind)} {acc:List (Str×Addr)} {x:Str},(acc.lookup x).isSome=true∨((x,NameKind.free)∈names∧(cells.lookup x).isSome=true)→((clOf cells names acc).lookup x).isSome=true
 | [],acc,x,h=>by
  rcases h with h|h
  ·exact h
  ·exact absurd h.1 (by simp)
 | (n,k)::r,acc,x,h=>by
  refine clOf_has (names:=r) ?_
  rcases h with h|⟨hm,hc⟩
  ·left
   split
   ·split
    ·rw [List.lookup_cons];split
     ·rfl
     ·exact h
    ·exact h
   ·exact h
  ·rcases List.mem_cons.mp hm with e|hm
   ·injection e with e1 e2
    subst e1;subst e2
    left
    rw [if_pos (by rfl)]
    cases hq:cells.lookup x with
    | none=>rw [hq] at hc;cases hc
    | some c=>simp
   ·exact .inr ⟨hm,hc⟩
section
variable {prog:Program} {w:World} {A:Around}
theorem comp_loop {R:Result→Shared→Prop} {s:Shared} {elt target iter:Expr} {ifs:List Expr} {scope:Scope} {pos:Pos} {it acc:Value} {env:Env} {E:Value→Shared→Prop} (hE:∀ e s',E e s'→notedBy (model prog w) A env (fun e s'=>R (.error e) s') e s') (I:Nat→Shared→Prop)
  (turn:∀ n s,I n s→wpAny (model prog w) A (pyNext it) (fun r s₁=>match r with
   | none=>R (.ok .next) s₁
   | some v=>wpAny (model prog w) A (letOwnedTupleGo target it v) (fun _ s₁'=>wpAny (model prog w) A (assign target env v) (fun _ s₂ =>
     wpAny (model prog w) A (forIn ifs true fun c r=>if r=true then do let ok ← isTrue c env (eval c env);pure (ForInStep.yield ok) else pure (ForInStep.yield r)) (fun ok s₃ =>
      if ok=true then wpAny (model prog w) A (eval elt env) (fun x s₄ =>
       wpAny (model prog w) A (call (.builtin "list.append") [acc,x]) (fun _ s₅=>∃ m,m<n∧I m s₅) E s₄) E s₃
      else ∃ m,m<n∧I m s₃) E s₂) E s₁') E s₁) E s)
  (n:Nat) (h:I n s) :
  codeAny (model prog w) A (.compLoop (.ListComp elt [⟨target,iter,ifs,0⟩] scope pos) 0 it acc env) R s:=by
 have noted:∀ {α:Type} {t:Sem α} {Q:α→Shared→Prop} {s:Shared},wpAny (model prog w) A t Q E s→wpAny (model prog w) A t Q (notedBy (model prog w) A env fun e s'=>R (.error e) s') s:=fun q=>wpAny_mono q (fun _ _ z=>z) hE
 refine codeAny_loop rfl I (fun n s hI=>?_) n h
 show wpAny _ A ((compTurn (.ListComp elt [⟨target,iter,ifs,0⟩] scope pos) 0 it acc env).onRaise (fun x=>do noteFrame x env;theTreesLotGoes x)) _ _ s
 refine wpAny_noted ?_
 rw [compTurn_list]
 refine wpAny_bind (wpAny_standAt (wpAny_bind (wpAny_mono (noted (turn n s hI)) (fun r s₁ h₁=>?_) fun _ _ h'=>h')))
 cases r with
 | none=>exact wpAny_pure h₁
 | some v =>
  refine wpAny_bind (wpAny_mono (noted h₁) (fun _ s₁' h₁'=>?_) fun _ _ h'=>h')
  refine wpAny_bind (wpAny_mono (noted h₁') (fun _ s₂ h₂=>wpAny_bind (wpAny_mono (noted h₂) (fun ok s₃ h₃=>?_) fun _ _ h'=>h')) fun _ _ h'=>h')
  cases ok with
  | false=>exact wpAny_pure ⟨rfl,h₃⟩
  | true =>
   simp only [if_true] at h₃ ⊢
   exact wpAny_bind (wpAny_bind (wpAny_mono (noted h₃) (fun x s₄ h₄=>wpAny_bind (wpAny_mono (noted h₄) (fun _ s₅ h₅=>wpAny_pure (wpAny_pure ⟨rfl,h₅⟩)) fun _ _ h'=>h')) fun _ _ h'=>h'))
end
end L2
namespace L2
open PySem PySem.Spec PyProof.Rows
noncomputable abbrev compCx (X:Cx) (pins:List (Addr×Obj)) (N:List Str) (scope:Scope) (C:Addr) (s:Shared) (H:Hp) (fp:List Addr):Cx :=
 { X with N:=N,s₀:=s,H₀:=H,env:=compEnvC scope (clOf X.env.cells scope.names []) C X.env,outer:=X.stack,stack:=X.stack,ex:=fp,fn:=fun _=>false,pn:=X.pn++pins,xe:=fun _ _=>False }
noncomputable def pick (ix:List (Option Nat)) (σ:St):St:=ix.map fun o=>o.bind fun j=>(σ[j]?).join
noncomputable def IxOk (X:Cx) (scope:Scope):List Str→List (Option Nat)→Prop
 | [],[]=>True
 | _::N,none::ix=>IxOk X scope N ix
 | x::N,some j::ix=>(X.N[j]?=some x∧Vis X.env.scope x∧(X.env.scope.names.lookup x == some .local)=false∧scope.names.lookup x=some .free)∧IxOk X scope N ix
 | _,_=>False
theorem IxOk.len {X:Cx} {scope:Scope}:∀ {N:List Str} {ix:List (Option Nat)},IxOk X scope N ix→ix.length=N.length
 | [],[],_=>rfl
 | [],none::_,h=>h.elim
 | [],some _::_,h=>h.elim
 | _::_,[],h=>h.elim
 | _::N,none::ix,h=>by simp only [List.length_cons];rw [IxOk.len (N:=N) (ix:=ix) h]
 | _::N,some _::ix,h=>by simp only [List.length_cons];rw [IxOk.len (N:=N) (ix:=ix) h.2]
theorem IxOk.get {X:Cx} {scope:Scope}:∀ {N:List Str} {ix:List (Option Nat)} {i j:Nat} {x:Str},IxOk X scope N ix→N[i]?=some x→ix[i]?=some (some j) →
  X.N[j]?=some x∧Vis X.env.scope x∧(X.env.scope.names.lookup x == some .local)=false∧scope.names.lookup x=some .free
 | [],[],_,_,_,_,h,_=>by simp at h
 | [],none::_,_,_,_,h,_,_=>h.elim
 | [],some _::_,_,_,_,h,_,_=>h.elim
 | _::_,[],_,_,_,h,_,_=>h.elim
 | _::N,none::ix,0,_,_,_,_,e=>by simp at e
 | _::N,none::ix,i+1,_,_,h,h1,e=>IxOk.get (N:=N) (ix:=ix) (i:=i) h (by simpa using h1) (by simpa using e)
 | y::N,some k::ix,0,j,x,h,h1,e=>by
  simp at h1 e
  subst h1;subst e
  exact h.1
 | _::N,some _::ix,i+1,_,_,h,h1,e=>IxOk.get (N:=N) (ix:=ix) (i:=i) h.2 (by simpa using h1) (by simpa using e)
theorem pick_get {ix:List (Option Nat)} {σ:St} {i:Nat} {v:V} (h:(pick ix σ)[i]?=some (some v)):∃ j,ix[i]?=some (some j)∧σ[j]?=some (some v):=by
 unfold pick at h
 rw [List.getElem?_map] at h
 cases e:ix[i]? with
 | none=>rw [e] at h;cases h
 | some o =>
  rw [e] at h
  cases o with
  | none=>cases h
  | some j =>
   refine⟨j,rfl,?_⟩
   have h':(σ[j]?).join=some v:=Option.some.inj h
   cases q:σ[j]? with
   | none=>rw [q] at h';cases h'
   | some z=>rw [q] at h';have h2:z=some v:=h';rw [h2]
theorem relabel_not_local {env : Env} : ∀ {names : List (Str × NameKind)} {x : Str}, (∀ y ∈ names, y.2 ≠ .cell) →
    ((names.map fun (n, k) => if (k == NameKind.free && env.scope.kind == .function && env.kindOf n == some .cell) then (n, NameKind.cell) else (n, k)).lookup x=some .cell ∨
     (names.map fun (n, k) => if (k == NameKind.free && env.scope.kind == .function && env.kindOf n == some .cell) then (n, NameKind.cell) else (n, k)).lookup x=some .free) → names.lookup x=some .free
  | [], _, _, h => by simp at h
  | (n, k)::r, x, hc, h => by
    have ih := @relabel_not_local env r x fun y hy => hc y (List.mem_cons_of_mem _ hy)
    have hk : k ≠ .cell := hc (n, k) List.mem_cons_self
    rw [List.map_cons] at h
    cases hx : x == n with
    | true =>
      rw [List.lookup_cons, hx]
      by_cases hcnd : (k == NameKind.free && env.scope.kind == .function && env.kindOf n == some .cell)=true
      · have : k=.free := by
          simp only [Bool.and_eq_true, beq_iff_eq] at hcnd
          exact hcnd.1.1
        rw [this]
      · simp only [hcnd, Bool.false_eq_true, if_false, List.lookup_cons, hx] at h
        rcases h with h|h
        · exact absurd (Option.some.inj h) hk
        · exact h
    | false =>
      rw [List.lookup_cons, hx]
      refine ih ?_
      by_cases hcnd : (k == NameKind.free && env.scope.kind == .function && env.kindOf n == some .cell)=true
      · simp only [hcnd, if_true, List.lookup_cons, hx] at h
        exact h
      · simp only [hcnd, Bool.false_eq_true, if_false, List.lookup_cons, hx] at h
        exact h
theorem relabel_free {env : Env} : ∀ {names : List (Str × NameKind)} {x : Str}, names.lookup x=some .free →
    ((names.map fun (n, k) => if (k == NameKind.free && env.scope.kind == .function && env.kindOf n == some .cell) then (n, NameKind.cell) else (n, k)).lookup x=some .cell ∨
     (names.map fun (n, k) => if (k == NameKind.free && env.scope.kind == .function && env.kindOf n == some .cell) then (n, NameKind.cell) else (n, k)).lookup x=some .free)
  | [], _, h => by simp at h
  | (n, k)::r, x, h => by
    have ih := @relabel_free env r x
    rw [List.map_cons]
    cases hx : x == n with
    | true =>
      rw [List.lookup_cons, hx] at h
      have hk : k=.free := Option.some.inj h
      subst hk
      by_cases hcnd : (NameKind.free == NameKind.free && env.scope.kind == .function && env.kindOf n == some .cell)=true
      · simp only [hcnd, if_true, List.lookup_cons, hx];exact .inl trivial
      · simp only [hcnd, Bool.false_eq_true, if_false, List.lookup_cons, hx];exact .inr trivial
    | false =>
      rw [List.lookup_cons, hx] at h
      by_cases hcnd : (k == NameKind.free && env.scope.kind == .function && env.kindOf n == some .cell)=true
      · simp only [hcnd, if_true, List.lookup_cons, hx];exact ih h
      · simp only [hcnd, Bool.false_eq_true, if_false, List.lookup_cons, hx];exact ih h
noncomputable def PTs (Y:Cx):List Expr→TT→Prop
 | [],t=>t=fun _ H Q=>Q true H
 | [c],t=>PT Y c t
 | _,_=>False
noncomputable def CompGoal (ix:List (Option Nat)) (g:TG) (tt:TT) (te:TE) (σ:St) (Q:VK) (J:It) (H1:Hp):Prop:=∀ l,H1 l=none→∃ W:Nat→Nat→St→List V→Hp→Prop,
 (∃ m,W 0 m (pick ix σ) [] (upd H1 l (.lst [])))∧∀ i m σ1 ys H',W i m σ1 ys H'→H' l=some (.lst ys)∧((J.stop i H'∧Q (.ref l) H') ∨
  (J.go i H'∧∃ m',m'<m∧∀ x H2,J.yld i H' x H2→g x σ1 H2 fun σ2 H3=>tt σ2 H3 fun b H4=>if b=true then te σ2 H4 fun y H5=>H5 l=some (.lst ys)∧ys.length<sizeLine∧W (i+1) m' σ2 (ys++[y]) (upd H5 l (.lst (ys++[y]))) else W (i+1) m' σ2 ys H4))
noncomputable def tComp (ix:List (Option Nat)) (wi:TI) (g:TG) (tt:TT) (te:TE):TE:=fun σ H Q=>wi σ H fun J H1=>CompGoal ix g tt te σ Q J H1
theorem Un.letGo {fs ex:List Addr} {H H':Hp} {h h1 h2:Heap} {C:Addr} (u:Un fs ex H H' h h1) (hC:h.objs.size≤C) (sb:Heap.SameBut C h1 h2):Un fs ex H H' h h2:=by
 have ne:∀ b o,h.get? b=some o→b≠C:=fun b o e=>Nat.ne_of_lt (Nat.lt_of_lt_of_le (Heap.lt_size e) hC)
 refine⟨fun b o e n hb hx=>(sb.2 b (ne b o e)).trans (u.keep b o e n hb hx),fun b o e n hb hx=>?_,u.free,fun b o e hx=>?_,u.tups,u.frzs,u.tbls⟩
 ·obtain ⟨sl,q⟩:=u.slot b o e n hb hx
  exact⟨sl,(sb.2 b (ne b o e)).trans q⟩
 ·obtain ⟨o',q⟩:=u.there b o e hx
  exact⟨o',(sb.2 b (ne b o e)).trans q⟩
theorem HOk.letGo {P:Program} {w:World} {H:Hp} {h h':Heap} {C:Addr} (x:HOk P w H h) (hC:H C=none) (sb:Heap.SameBut C h h'):HOk P w H h':=fun a o e=>by
 have na:∀ b u,H b=some u→b≠C:=fun b u q z=>by rw [z,hC] at q;cases q
 refine (x a o e).stay (fun b u hb q=>(sb.2 b ?_).trans q) (fun _ q=>q) fun _ _ q=>q
 rcases hb with rfl|hb
 ·exact na _ _ e
 ·exact na _ _ hb
section
variable {X:Cx}
theorem wp_tests {Y:Cx} {ifs:List Expr} {tt:TT} (ht:PTs Y ifs tt) {pins:List (Addr×Obj)} {s:Shared} {σ:St} {H:Hp} {Q:Bool→Hp→Prop} (I:Inv Y pins σ H s) (h:tt σ H Q) :
  wpAny (model Y.prog Y.w) Y.A (forIn ifs true fun c r=>if r=true then do let ok ← isTrue c Y.env (eval c Y.env);pure (ForInStep.yield ok) else pure (ForInStep.yield r)) (TP Y pins σ Q) Y.xe s:=by
 match ifs,ht with
 | [],ht =>
  have e:tt=fun _ H Q=>Q true H:=ht
  subst e
  exact wpAny_tests_nil ⟨H,I,h⟩
 | [c],ht=>exact wpAny_tests_one ((show PT Y c tt from ht) pins s σ H Q I h)
 | _::_::_,ht=>exact False.elim ht
theorem pe_comp {tg iter elt:Expr} {ifs:List Expr} {scope:Scope} {pos:Pos} {N:List Str} {ix:List (Option Nat)} {wi:TI} {g:TG} {tt:TT} {te:TE}
  (hc:X.calm=true) (hi:PI X tg iter wi)
  (hg:∀ pins C s H fp,PG (compCx X pins N scope C s H fp) tg g)
  (ht:∀ pins C s H fp,PTs (compCx X pins N scope C s H fp) ifs tt)
  (he:∀ pins C s H fp,PE (compCx X pins N scope C s H fp) elt te)
  (hk:scope.kind=.function) (hcell:∀ y∈scope.names,y.2≠.cell) (hnames:∀ y∈scope.names,y.2=.local→scope.names.lookup y.1=some .local)
  (hfr0:(scope.names.all fun y=>!(y.2 == NameKind.free) || (X.env.cells.lookup y.1).isSome)=true) (hix:IxOk X scope N ix)
  (hs:∀ x,foldedSetIterable iter X.env x=pure x:=by intro _;rfl) :
  PE X (.ListComp elt [⟨tg,iter,ifs,0⟩] scope pos) (tComp ix wi g tt te):=by
 intro pins s σ H Q I h
 have hfr:∀ y∈scope.names,y.2=.free→(X.env.cells.lookup y.1).isSome=true:=fun y hy e=>by
  have z:=List.all_eq_true.mp hfr0 y hy
  rw [e] at z
  simpa using z
 have hfr':∀ p∈scope.names,p.2=.free→∃ c,X.env.cells.lookup p.1=some c:=fun p hp e=>Option.isSome_iff_exists.mp (hfr p hp e)
 have clsub:∀ x c,(clOf X.env.cells scope.names []).lookup x=some c→X.env.cells.lookup x=some c:=clOf_sub (fun x c q=>by simp at q)
 have clhas:∀ x,scope.names.lookup x=some .free→∃ c,(clOf X.env.cells scope.names []).lookup x=some c:=fun x hx=>by
  have hm:=PySem.mem_of_lookup hx
  exact Option.isSome_iff_exists.mp (clOf_has (.inr ⟨hm,hfr _ hm rfl⟩))
 rw [eval_ListComp]
 refine wpAny_comprehension_free (use:=none) rfl hs (closure_eq hfr') hk hnames (thn (hi pins s σ H _ I h) fun v s1 h1=>thn h1 fun itv s2 h2=>?_)
 obtain ⟨it,fp,tn,J,H2,e,I2,T,st2,f2,hW⟩:=h2
 subst e
 have hfree2:H2 s2.heap.objs.size=none:=I2.hok.fresh (Nat.le_refl _)
 obtain ⟨W,⟨m0,w0⟩,turn⟩:=hW s2.heap.objs.size hfree2
 refine wpAny_newObj_type ?_
 have I3:Inv X pins σ (upd H2 s2.heap.objs.size (.lst [])) { s2 with heap:=s2.heap.push { cls:=.type "list",data:=.seq ([]:List Value).toArray } }:=I2.lnew (its:=[]) (t':=s2.toks) .nil (Nat.zero_le _)
 have f3:∀ b∈fp,FpOk X pins (upd H2 s2.heap.objs.size (.lst [])) b:=fun b hb=>by
  refine⟨?_,(f2 b hb).2⟩
  obtain ⟨o,eo,_⟩:=T.obj _ _ st2 b hb
  rw [upd_ne (Nat.ne_of_lt (Heap.lt_size eo))]
  exact (f2 b hb).1
 have st3:tn 0 (s2.heap.push { cls:=.type "list",data:=.seq ([]:List Value).toArray }):=T.keep _ _ _ st2 fun b _ o e=>Heap.get?_push_of_some _ e
 generalize hs3:({ s2 with heap:=s2.heap.push { cls:=.type "list",data:=.seq ([]:List Value).toArray } }:Shared)=s3 at I3
 have st3:tn 0 s3.heap:=by rw [← hs3];exact st3
 generalize hH3:upd H2 s2.heap.objs.size (.lst [])=H3 at I3 f3 w0
 generalize hacc:s2.heap.objs.size=acc at *
 refine wpAny_newFunctionEnv hcell (by intro y hy;simp at hy) (fun h₁ hns₁ hsb₁=>?_) hk
 have old:∀ b o,s3.heap.get? b=some o→h₁.get? b=some o:=fun b o q=>hsb₁.extBut b o (Nat.ne_of_lt (Heap.lt_size q)) (Heap.get?_push_of_some _ q)
 have hCfree:H3 s3.heap.objs.size=none:=I3.hok.fresh (Nat.le_refl _)
 have fpl:∀ b∈fp,b<s3.heap.objs.size:=fun b hb=>by
  obtain ⟨o,eo,_⟩:=T.obj _ _ st3 b hb
  exact Heap.lt_size eo
 have nstk:∀ b,b≠X.env.locals→b∉X.fs→b∉frs X.stack:=fun b h1 h2 z=>by
  rcases List.mem_cons.mp (I3.stkSub b z) with q|q
  ·exact h1 q
  ·exact h2 q
 have clt:∀ x c,X.env.cells.lookup x=some c→c<s3.heap.objs.size:=fun x c q=>by
  obtain ⟨v,z⟩:=I3.cell x c q
  exact z.lt
 have YI:∀ (h':Heap) (m:Str→Option Value),(∀ b o,s3.heap.get? b=some o→h'.get? b=some o)→h'.Ns s3.heap.objs.size m →
   Inv (compCx X pins N scope s3.heap.objs.size s3 H3 fp) [] (pick ix σ) H3 { s3 with heap:=h',toks:=s3.toks+([]:List (Str×Value)).length }:=by
  intro h' m hk' hn
  refine⟨⟨I3.ok.mod,hk,I3.ok.glob,I3.ok.blt,Nat.le_refl _,fun x y c q1 q2=>I3.ok.inj x y c (clsub x c q1) (clsub y c q2),fun x hx=>clhas x (relabel_not_local hcell hx),fun x c hf _=>absurd hf Bool.false_ne_true,
   I3.ok.hd,I3.ok.frames,.inl rfl,fun b hb=>⟨Nat.ne_of_lt (fpl b hb),fun x c q=>(f3 b hb).2.2.2.2.1 x c (clsub x c q)⟩,I3.bs,Nat.le_trans I3.ok.bsz I3.sz,fun b o e hb=>?_,fun b hb=>nstk b (f3 b hb).2.1 (f3 b hb).2.2.1,I3.stack,I3.stkFree⟩,
   rfl,I3.bare,Un.kept hk',⟨m,hn,fun i x v h1 h2 h3=>?_⟩,fun x c q=>?_,hCfree,fun x c q=>I3.freeC x c (clsub x c q),fun p hp=>?_,I3.hok.kept hk',?_⟩
  ·have q:=(I3.bs b o e).2
   rcases (f3 b hb).2.2.2.1 with z|z
   ·exact I3.ok.noex b o e z
   ·exact absurd (Nat.lt_of_lt_of_le (Heap.lt_size e) (Nat.le_trans I3.ok.bsz z)) (Nat.lt_irrefl _)
  ·obtain ⟨j,e1,e2⟩:=pick_get h2
   obtain ⟨a1,a2,a3,a4⟩:=hix.get h1 e1
   obtain ⟨mX,hnX,hlX⟩:=I3.loc
   obtain ⟨u,ru,l⟩:=hlX j x v a1 e2 a2
   refine⟨u,ru,?_⟩
   rcases l with ⟨l1,_⟩|⟨_,c,lc,z⟩
   ·have l1':X.env.scope.names.lookup x=some .local:=l1
    rw [l1'] at a3
    exact absurd a3 (by decide)
   ·obtain ⟨c',hc'⟩:=clhas x a4
    have ec:=clsub x c' hc'
    rw [lc] at ec
    have ec':c=c':=Option.some.inj ec
    subst ec'
    exact .inr ⟨relabel_free a4,c,hc',z.keeps hk'⟩
  ·obtain ⟨v,z⟩:=I3.cell x c (clsub x c q)
   exact⟨v,z.keeps hk'⟩
  ·have hp':p∈X.pn++pins:=by simpa using hp
   obtain ⟨a1,a2,a3,a4,a5⟩:=I3.pin p hp'
   exact⟨hk' _ _ a1,a2,Nat.ne_of_lt (Heap.lt_size a1),nstk p.1 a3 a4,a5⟩
  ·show (pick ix σ).length=N.length
   unfold pick
   rw [List.length_map]
   exact hix.len
 have fpY:∀ {pl:List (Addr×Obj)} {H':Hp},pl=[]→(∀ b∈fp,H' b=none)→∀ b∈fp,FpOk (compCx X pins N scope s3.heap.objs.size s3 H3 fp) pl H' b:=fun {pl H'} epl hn b hb=>by
  obtain ⟨f0,f1,f2',f3',f4,f5⟩:=f3 b hb
  subst epl
  exact⟨hn b hb,Nat.ne_of_lt (fpl b hb),nstk b f1 f2',.inl hb,fun x c q=>f4 x c (clsub x c q),fun p hp=>f5 p (by simpa using hp)⟩
 have loop:∀ s4:Shared,(∃ m,s4={ s3 with heap:=h₁,toks:=s3.toks+([]:List (Str×Value)).length }∧h₁.Ns s3.heap.objs.size m) →
   codeAny (model X.prog X.w) X.A (.compLoop (.ListComp elt [⟨tg,iter,ifs,0⟩] scope pos) 0 (.ref it) (.ref acc) (compEnvC scope (clOf X.env.cells scope.names []) s3.heap.objs.size X.env))
    (compPost (model X.prog X.w) X.A X.xe none (EP X pins σ Q) (.ref acc) s3.heap.objs.size) s4:=by
  rintro s4 ⟨m4,rfl,hn4⟩
  refine comp_loop (E:=fun _ _=>False) (fun _ _ z=>z.elim)
   (fun n s'=>∃ i σ' ys H',Inv (compCx X pins N scope s3.heap.objs.size s3 H3 fp) [] σ' H' s'∧tn i s'.heap∧(∀ b∈fp,H' b=none)∧W i n σ' ys H') ?_ m0
   ⟨0,pick ix σ,[],H3,YI h₁ m4 old hn4,T.keep _ _ _ st3 fun b _ o q=>old b o q,fun b hb=>(f3 b hb).1,w0⟩
  rintro n s5 ⟨i,σ5,ys,H5,I5,st5,fr5,w5⟩
  obtain ⟨hl5,hstep⟩:=turn i n σ5 ys H5 w5
  rcases hstep with ⟨stop,q⟩|⟨go,m',hm',step⟩
  ·refine thn (T.done (compCx X pins N scope s3.heap.objs.size s3 H3 fp) rfl rfl rfl hc i [] s5 σ5 H5 (fun _ _=>False) I5 (fpY rfl fr5) st5 stop) fun r s6 ⟨hr,I6⟩=>?_
   subst hr
   obtain ⟨m6,hn6,_⟩:=I6.loc
   refine⟨m6,hn6,fun h' sb=>?_⟩
   refine⟨.ref acc,H5,I3.call' (ch:=fp) I6.os (I6.base.letGo (Nat.le_refl _) sb) (I6.hok.letGo I6.free sb) I6.bare fun b hb=>?_,rfl,q⟩
   obtain ⟨f0,f1,f2',f3',f4,f5⟩:=f3 b hb
   exact⟨f3',f1,f4,f5⟩
  ·refine thn (T.item (compCx X pins N scope s3.heap.objs.size s3 H3 fp) rfl rfl rfl hc i [] s5 σ5 H5 (fun _ _=>False) I5 (fpY rfl fr5) st5 go) fun r s6 ⟨u,hr,h6⟩=>?_
   subst hr
   refine thn h6 fun _ s7 ⟨x,H7,I7,r7,y7,st7,fr7⟩=>?_
   have I7':=I7.pinned (fpY rfl fr7) (T.obj _ _ st7)
   refine thn (hg pins s3.heap.objs.size s3 H3 fp _ s7 σ5 H7 x u _ I7' r7 (step x H7 y7)) fun _ s8 ⟨σ8,H8,I8,q8⟩=>?_
   refine thn (wp_tests (ht pins s3.heap.objs.size s3 H3 fp) I8 q8) fun b s9 ⟨H9,I9,q9⟩=>?_
   have back:∀ {σz:St} {Hz:Hp} {sz:Shared} {yz:List V},Inv (compCx X pins N scope s3.heap.objs.size s3 H3 fp) ([]++pinsAt fp s7.heap) σz Hz sz→W (i+1) m' σz yz Hz →
     ∃ m,m<n∧∃ i σ' ys H',Inv (compCx X pins N scope s3.heap.objs.size s3 H3 fp) [] σ' H' sz∧tn i sz.heap∧(∀ b∈fp,H' b=none)∧W i m σ' ys H':=fun {σz Hz sz yz} Iz wz=>by
    refine⟨m',hm',i+1,σz,yz,Hz,Iz.unpinned,T.keep _ _ _ st7 fun b hb o e=>(Iz.pin (b,o) (List.mem_append_right _ (List.mem_append_right _ (mem_pinsAt hb e)))).1,fun b hb=>?_,wz⟩
    obtain ⟨o,e,d⟩:=T.obj _ _ st7 b hb
    exact (Iz.pin (b,o) (List.mem_append_right _ (List.mem_append_right _ (mem_pinsAt hb e)))).2.1
   cases b with
   | false=>exact back I9 q9
   | true =>
    refine thn (he pins s3.heap.objs.size s3 H3 fp _ s9 σ8 H9 _ I9 q9) fun v s10 ⟨y,H10,I10,r10,hl10,hz10,w10⟩=>?_
    refine thn (mt_append _ s10 σ8 H10 (.ref acc) [y] (.ref acc) [v] (fun _ H'=>H'=upd H10 acc (.lst (ys++[y]))) I10 rfl (.cons r10 .nil) ⟨acc,ys,y,rfl,rfl,hl10,hz10,rfl⟩) fun _ s11 ⟨_,H11,I11,_,e11⟩=>?_
    subst e11
    exact back I11 w10
 have hn4:∃ m,h₁.Ns s3.heap.objs.size m:=⟨_,hns₁⟩
 obtain ⟨m4,hn4⟩:=hn4
 have L:=loop _ ⟨m4,rfl,hn4⟩
 exact codeAny_compStart_list L (T.self _ 0 _ _ _ (T.keep _ _ _ st3 fun b _ o q=>old b o q) L)
end
end L2
namespace L2
open PySem
theorem nne {a b:Nat} (h:@Ne Nat a b):@Ne Addr a b:=h
noncomputable def SrcOf (k:Bool) (h:Heap) (a:Addr) (xs:Array Value):Prop:=match k with|true=>h.IsTuple a xs|false=>h.IsList a xs
noncomputable def ItAt (k:Bool) (h:Heap) (it a:Addr) (i:Nat):Prop:=match k with|true=>h.IsTupleIter it a i|false=>h.IsListIter it a i
noncomputable def itObj (k:Bool) (a:Addr):Obj:=match k with|true=>{ cls:=.type "tuple_iterator",data:=.fields #[.ref a,.int 0 0] }|false=>{ cls:=.type "list_iterator",data:=.fields #[.ref a,.int 0 0] }
noncomputable abbrev IsT (h:Heap) (T:Addr) (vs:Array Value):Prop:=h.get? T=some { cls:=.type "tuple",data:=.seq vs }
theorem SrcOf.keep {k:Bool} {h h':Heap} {a:Addr} {xs:Array Value} (x:SrcOf k h a xs) (hk:∀ o,h.get? a=some o→h'.get? a=some o):SrcOf k h' a xs:=by
 cases k with
 | true=>obtain ⟨o,e,r⟩:=x;exact⟨o,hk o e,r⟩
 | false=>obtain ⟨o,e,r⟩:=x;exact⟨o,hk o e,r⟩
theorem ItAt.keep {k:Bool} {h h':Heap} {it a:Addr} {i:Nat} (x:ItAt k h it a i) (hk:∀ o,h.get? it=some o→h'.get? it=some o):ItAt k h' it a i:=by
 cases k with
 | true=>obtain ⟨o,e,r⟩:=x;exact⟨o,hk o e,r⟩
 | false=>obtain ⟨o,e,r⟩:=x;exact⟨o,hk o e,r⟩
theorem ItAt.obj {k:Bool} {h:Heap} {it a:Addr} {i:Nat} (x:ItAt k h it a i):∃ o,h.get? it=some o∧∀ v,o.data≠.cell v:=by
 cases k with
 | true=>obtain ⟨o,e,_,d⟩:=x;exact⟨o,e,fun v z=>by rw [d] at z;cases z⟩
 | false=>obtain ⟨o,e,_,d⟩:=x;exact⟨o,e,fun v z=>by rw [d] at z;cases z⟩
theorem SrcOf.lt {k:Bool} {h:Heap} {a:Addr} {xs:Array Value} (x:SrcOf k h a xs):a<h.objs.size:=by
 cases k with
 | true=>obtain ⟨o,e,_⟩:=x;exact Heap.lt_size e
 | false=>obtain ⟨o,e,_⟩:=x;exact Heap.lt_size e
theorem itObj_at {k:Bool} {h:Heap} {it a:Addr} (e:h.get? it=some (itObj k a)):ItAt k h it a 0:=by
 cases k with
 | true=>exact⟨_,e,rfl,rfl⟩
 | false=>exact⟨_,e,rfl,rfl⟩
section
variable {prog:Program} {w:World} {A:Around} {E:Value→Shared→Prop} {s:Shared}
theorem src_iter {k:Bool} {a:Addr} {xs:Array Value} {Q:Value→Shared→Prop} (h:SrcOf k s.heap a xs) (hQ:Q (.ref s.heap.objs.size) { s with heap:=s.heap.push (itObj k a) }):wpAny (model prog w) A (pyIter (.ref a)) Q E s:=by
 cases k with
 | true=>exact wpAny_pyIter_tuple h hQ
 | false=>exact wpAny_pyIter_list h hQ
theorem nextOf_tuple_item {it t:Addr} {i:Nat} {items} {x:Value} {Q:Value→Shared→Prop} (hit:s.heap.IsTupleIter it t i)
  (ht:s.heap.IsTuple t items) (hx:items[i]?=some x)
  (hQ:∀ h',h'.IsTupleIter it t (i+1)→Heap.SameBut it s.heap h'→Q x { s with heap:=h' }) :
  wpAny (model prog w) A (Builtin.SmallTypes.nextOf (.ref it)) Q E s:=by
 obtain ⟨o,ho,hc,hd⟩:=id hit
 obtain ⟨ol,hol,_,nl,hdl⟩:=ht
 unfold Builtin.SmallTypes.nextOf
 refine wpAny_bind (wpAny_callSpecial?_slot (name:=Str.ofString "__next__") hit.typeIs F.slot_tuple_iterator_next
  (wpAny_call_entry F.slot_tuple_iterator_next hit.typeIs F.entry_tuple_iterator_next ?_ (F.args_tuple_iterator_next_1 _)))
 show wpAny _ _ (field (.ref it) 0 >>= _) _ _ s
 refine wpAny_bind (wpAny_field ho hd (x:=.ref t) rfl ?_)
 show wpAny _ _ (if (Value.ref t == Value.none)=true then _ else _) _ _ s
 rw [if_neg (show ¬ ((Value.ref t == Value.none)=true) from Bool.false_ne_true)]
 show wpAny _ _ (field (.ref it) 1 >>= _) _ _ s
 refine wpAny_bind (wpAny_field ho hd (x:=.int i 0) rfl ?_)
 show wpAny _ _ (seqItems? (.ref t) >>= _) _ _ s
 refine wpAny_bind (wpAny_seqItems hol hdl ?_)
 simp only [Int.toNat_natCast,hx]
 refine wpAny_bind (wpAny_setField ho hd (by simp) (wpAny_pure ⟨x,rfl,wpAny_pure (hQ _ ?_ (Heap.SameBut.update ..))⟩))
 exact⟨_,Heap.get?_update_self _ ho (Obj.isFreed_of_fields (Obj.data_mapFields hd _)),(Obj.cls_mapFields ..).trans hc,by
  rw [Obj.data_mapFields hd];simp [rawInt]⟩
theorem nextOf_tuple_end {it t:Addr} {i:Nat} {items} {Q:Value→Shared→Prop} (hh:A.handled=none)
  (hit:s.heap.IsTupleIter it t i) (ht:s.heap.IsTuple t items) (hx:items[i]?=none)
  (hE:∀ h' e,Heap.ExtBut it s.heap h'→(∃ o,h'.get? e=some o∧o.cls=.type "StopIteration")→E (.ref e) { s with heap:=h' }) :
  wpAny (model prog w) A (Builtin.SmallTypes.nextOf (.ref it)) Q E s:=by
 obtain ⟨o,ho,hc,hd⟩:=id hit
 obtain ⟨ol,hol,_,nl,hdl⟩:=ht
 unfold Builtin.SmallTypes.nextOf
 refine wpAny_bind (wpAny_callSpecial?_slot (name:=Str.ofString "__next__") hit.typeIs F.slot_tuple_iterator_next
  (wpAny_call_entry F.slot_tuple_iterator_next hit.typeIs F.entry_tuple_iterator_next ?_ (F.args_tuple_iterator_next_1 _)))
 show wpAny _ _ (field (.ref it) 0 >>= _) _ _ s
 refine wpAny_bind (wpAny_field ho hd (x:=.ref t) rfl ?_)
 show wpAny _ _ (if (Value.ref t == Value.none)=true then _ else _) _ _ s
 rw [if_neg (show ¬ ((Value.ref t == Value.none)=true) from Bool.false_ne_true)]
 show wpAny _ _ (field (.ref it) 1 >>= _) _ _ s
 refine wpAny_bind (wpAny_field ho hd (x:=.int i 0) rfl ?_)
 show wpAny _ _ (seqItems? (.ref t) >>= _) _ _ s
 refine wpAny_bind (wpAny_seqItems hol hdl ?_)
 simp only [Int.toNat_natCast,hx]
 refine wpAny_bind (wpAny_rule (wpAny_bind (wpAny_setField ho hd (by simp) ?_)))
 show wpAny _ _ (newExc (.type "StopIteration") [] >>= _) _ _ _
 refine wpAny_bind ?_
 simp only [newExc,newTuple]
 refine wpAny_bind (wpAny_newObj_type ?_ (by size_fits))
 refine wpAny_bind (m:=firstArgMember _ _) (wpAny_of_eq (a:=Value.none) (by first|rfl|(simp only [firstArgMember];rfl)) ?_)
 refine wpAny_newObj_type ?_ (by size_fits)
 simp only [raiseNew]
 refine wpAny_bind (wpAny_handled ?_)
 first|rw [show A.in1.handled=none from hh]|rw [hh]
 refine wpAny_bind (wpAny_pure (wpAny_throw ?_))
 exact hE _ _ (((Heap.SameBut.update ..).extBut.push _).push _) ⟨_,Heap.get?_push_size _ rfl,rfl⟩
theorem sub_item {k:Bool} {it a:Addr} {i:Nat} {xs:Array Value} {x:Value} {Q:Value→Shared→Prop} (hit:ItAt k s.heap it a i) (hs:SrcOf k s.heap a xs) (hx:xs[i]?=some x)
  (hQ:∀ h',ItAt k h' it a (i+1)→Heap.SameBut it s.heap h'→Q x { s with heap:=h' }):wpAny (model prog w) A (Builtin.SmallTypes.nextOf (.ref it)) Q E s:=by
 cases k with
 | true=>exact nextOf_tuple_item hit hs hx hQ
 | false=>exact wpAny_nextOf_list_item hit hs hx hQ
theorem sub_end {k:Bool} {it a:Addr} {i:Nat} {xs:Array Value} {Q:Value→Shared→Prop} (hh:A.handled=none) (hit:ItAt k s.heap it a i) (hs:SrcOf k s.heap a xs) (hx:xs[i]?=none)
  (hE:∀ h' e,Heap.ExtBut it s.heap h'→(∃ o,h'.get? e=some o∧o.cls=.type "StopIteration")→E (.ref e) { s with heap:=h' }):wpAny (model prog w) A (Builtin.SmallTypes.nextOf (.ref it)) Q E s:=by
 cases k with
 | true=>exact nextOf_tuple_end hh hit hs hx hE
 | false=>exact wpAny_nextOf_list_end hh hit hs hx hE
theorem upd_tup {T:Addr} {vs:Array Value} {x:Value} {k:Nat} {Q:Unit→Shared→Prop} (hT:IsT s.heap T vs) (hz:vs.size≤8)
  (h:∀ h',IsT h' T (vs.setIfInBounds k x)→Heap.SameBut T s.heap h'→Q () { s with heap:=h' }):wpAny (model prog w) A (updateSeq T (·.setIfInBounds k x)) Q E s:=by
 have hz2:vs.size≤sizeLine:=Nat.le_trans hz (by decide)
 refine wpAny_updateSeq (hz:=hz2) (_hz':=by simp only [Array.size_setIfInBounds];lia) hT rfl (h _ ?_ (Heap.SameBut.update ..))
 show (s.heap.update T _).get? T=_
 rw [Heap.get?_update_self _ hT rfl]
 simp [Obj.mapSeq]
structure Zip2 (k1 k2:Bool) (n a b:Nat) (i:Nat) (f0:Value) (h:Heap):Prop where
 z:IsZip h (n+4) (n+2) (n+3) f0
 ti:IsT h (n+2) #[.ref n,.ref (n+1)]
 to:∃ u v,IsT h (n+3) #[u,v]
 i1:ItAt k1 h n a i
 i2:ItAt k2 h (n+1) b i
noncomputable def Off (l:List Addr) (h h':Heap):Prop:=∀ c o,c∉l→h.get? c=some o→h'.get? c=some o
theorem Off.of {c:Addr} {l:List Addr} {h h':Heap} (s:Heap.SameBut c h h') (hc:c∈l):Off l h h':=fun b o hb e=>(s.2 b fun z=>hb (z ▸ hc)).trans e
theorem Off.trans {l:List Addr} {h h1 h2:Heap} (a:Off l h h1) (b:Off l h1 h2):Off l h h2:=fun c o hc e=>b c o hc (a c o hc e)
theorem zip2_next {k1 k2:Bool} {n a b:Nat} {i:Nat} {xs ys:Array Value} {x y:Value} {Q:Value→Shared→Prop} (Z:Zip2 k1 k2 n a b i .none s.heap) (ha:a<n) (hb:b<n)
  (h1:SrcOf k1 s.heap a xs) (h2:SrcOf k2 s.heap b ys) (hx:xs[i]?=some x) (hy:ys[i]?=some y)
  (hQ:∀ h',Zip2 k1 k2 n a b (i+1) (rawInt s.heap.objs.size) h'→IsT h' s.heap.objs.size #[x,y]→h'.objs.size=s.heap.objs.size+1→Off [n,n+1,n+3,n+4] s.heap h'→Q (.ref s.heap.objs.size) { s with heap:=h' }) :
  wpAny (model prog w) A (Builtin.«zip.__next__» ⟨[.ref (n+4)],[]⟩) (fun fin s'=>∃ v,fin=.done (.ret v)∧Q v s') E s:=by
 obtain ⟨hz,hTI,⟨u,v,hTO⟩,hi1,hi2⟩:=Z
 show wpAny _ _ (field (.ref (n+4)) 2 >>= _) _ _ _
 refine wpAny_bind (wpAny_field hz rfl (x:=.bool false) rfl ?_)
 show wpAny _ _ (field (.ref (n+4)) 3 >>= _) _ _ _
 refine wpAny_bind (wpAny_field hz rfl (x:=.ref (n+2)) rfl ?_)
 refine wpAny_bind (wpAny_seqItems hTI rfl ?_)
 show wpAny _ _ (Builtin.SmallTypes.ownedTupleIsFree (.ref (n+4)) >>= _) _ _ _
 refine wpAny_bind ?_
 unfold Builtin.SmallTypes.ownedTupleIsFree
 refine wpAny_bind (wpAny_field hz rfl (x:=.none) rfl (wpAny_pure ?_))
 simp only [if_true]
 refine wpAny_bind (wpAny_rule ?_)
 refine wpAny_bind (wpAny_field hz rfl (x:=.ref (n+3)) rfl ?_)
 refine wpAny_bind (wpAny_setField_rec hz (by simp) fun g1 hz1 hs1=>?_)
 replace hz1:IsZip g1 (n+4) (n+2) (n+3) .ellipsis:=hz1
 refine wpAny_bind ?_
 simp only [List.zipIdx_cons,List.zipIdx_nil,List.forIn_cons,List.forIn_nil]
 refine wpAny_bind (wpAny_bind (wpAny_onRaise ?_))
 show wpAny _ _ (Builtin.SmallTypes.nextOf (.ref n) >>= _) _ _ _
 refine wpAny_bind (sub_item (hi1.keep fun o e=>(hs1.2 _ (nne (by lia))).trans e) (h1.keep fun o e=>(hs1.2 _ (nne (by lia))).trans e) hx fun g2 hi1' hs2=>wpAny_pure ?_)
 have hTO2:IsT g2 (n+3) #[u,v]:=(hs2.2 _ (nne (by lia))).trans ((hs1.2 _ (nne (by lia))).trans hTO)
 refine wpAny_bind (wpAny_seqItems hTO2 rfl ?_)
 refine wpAny_bind (upd_tup hTO2 (by simp) fun g3 hTO3 hs3=>?_)
 replace hTO3:IsT g3 (n+3) #[x,v]:=hTO3
 refine wpAny_bind (wpAny_letGo (wpAny_pure ?_))
 refine wpAny_bind (wpAny_bind (wpAny_onRaise ?_))
 show wpAny _ _ (Builtin.SmallTypes.nextOf (.ref (n+1)) >>= _) _ _ _
 refine wpAny_bind (sub_item (hi2.keep fun o e=>(hs3.2 _ (nne (by lia))).trans ((hs2.2 _ (nne (by lia))).trans ((hs1.2 _ (nne (by lia))).trans e))) (h2.keep fun o e=>(hs3.2 _ (nne (by lia))).trans ((hs2.2 _ (nne (by lia))).trans ((hs1.2 _ (nne (by lia))).trans e))) hy fun g4 hi2' hs4=>wpAny_pure ?_)
 have hTO4:IsT g4 (n+3) #[x,v]:=(hs4.2 _ (nne (by lia))).trans hTO3
 refine wpAny_bind (wpAny_seqItems hTO4 rfl ?_)
 refine wpAny_bind (upd_tup hTO4 (by simp) fun g5 hTO5 hs5=>?_)
 replace hTO5:IsT g5 (n+3) #[x,y]:=hTO5
 refine wpAny_bind (wpAny_letGo (wpAny_pure (wpAny_pure ?_)))
 refine wpAny_bind (wpAny_seqItems hTO5 rfl ?_)
 refine wpAny_bind (wpAny_newTuple ?_)
 have hsz:g5.objs.size=s.heap.objs.size:=by rw [hs5.1,hs4.1,hs3.1,hs2.1,hs1.1]
 have hz5:IsZip g5 (n+4) (n+2) (n+3) .ellipsis:=(hs5.2 _ (nne (by lia))).trans ((hs4.2 _ (nne (by lia))).trans ((hs3.2 _ (nne (by lia))).trans ((hs2.2 _ (nne (by lia))).trans hz1)))
 have off5:Off [n,n+1,n+3,n+4] s.heap g5:=((((Off.of hs1 (by simp)).trans (Off.of hs2 (by simp))).trans (Off.of hs3 (by simp))).trans (Off.of hs4 (by simp))).trans (Off.of hs5 (by simp))
 have hzlt:n+4<g5.objs.size:=Heap.lt_size hz5
 show wpAny _ _ (Builtin.SmallTypes.ownedTupleHandOut (.ref (n+4)) (.ref g5.objs.size) >>= _) _ _ _
 refine wpAny_bind ?_
 unfold Builtin.SmallTypes.ownedTupleHandOut
 have hz6:IsZip (g5.push { cls:=.type "tuple",data:=.seq #[x,y] }) (n+4) (n+2) (n+3) .ellipsis:=Heap.get?_push_of_some _ hz5
 refine wpAny_bind (wpAny_setField_rec hz6 (by simp) fun g7 hz7 hs7=>?_)
 replace hz7:IsZip g7 (n+4) (n+2) (n+3) (rawInt g5.objs.size):=hz7
 refine wpAny_setField_rec hz7 (by simp) fun g8 hz8 hs8=>?_
 replace hz8:IsZip g8 (n+4) (n+2) (n+3) (rawInt g5.objs.size):=hz8
 have up:∀ c o,c≠n+4→g5.get? c=some o→g8.get? c=some o:=fun c o c1 e=>(hs8.2 _ c1).trans ((hs7.2 _ c1).trans (Heap.get?_push_of_some _ e))
 have hT8:IsT g8 g5.objs.size #[x,y]:=(hs8.2 _ (Nat.ne_of_gt hzlt)).trans ((hs7.2 _ (Nat.ne_of_gt hzlt)).trans (Heap.get?_push_size _ rfl))
 have hz8':g8.objs.size=g5.objs.size+1:=by rw [hs8.1,hs7.1,Heap.size_push]
 rw [hsz] at hz8 hT8 hz8'
 refine wpAny_pure ⟨_,rfl,?_⟩
 show Q (.ref g5.objs.size) _
 rw [hsz]
 refine hQ g8 ⟨hz8,up _ _ (nne (by lia)) (off5 _ _ (by simp) hTI),⟨x,y,up _ _ (nne (by lia)) hTO5⟩,?_,?_⟩ hT8 hz8' fun c o hc e=>?_
 ·exact hi1'.keep fun o e=>up _ o (nne (by lia)) ((hs5.2 _ (nne (by lia))).trans ((hs4.2 _ (nne (by lia))).trans ((hs3.2 _ (nne (by lia))).trans e)))
 ·exact hi2'.keep fun o e=>up _ o (nne (by lia)) ((hs5.2 _ (nne (by lia))).trans e)
 ·exact up c o (fun z=>hc (by simp [z])) (off5 c o hc e)
theorem zip2_stop {k1 k2:Bool} {n a b:Nat} {i:Nat} {xs ys:Array Value} {Q:Fin→Shared→Prop} (hh:A.handled=none) (Z:Zip2 k1 k2 n a b i .none s.heap) (ha:a<n) (hb:b<n)
  (h1:SrcOf k1 s.heap a xs) (h2:SrcOf k2 s.heap b ys) (hend:xs[i]?=none∨ys[i]?=none)
  (hE:∀ h' e,Off [n,n+1,n+3,n+4] s.heap h'→(∃ o,h'.get? e=some o∧o.cls=.type "StopIteration")→E (.ref e) { s with heap:=h' }) :
  wpAny (model prog w) A (Builtin.«zip.__next__» ⟨[.ref (n+4)],[]⟩) Q E s:=by
 obtain ⟨hz,hTI,⟨u,v,hTO⟩,hi1,hi2⟩:=Z
 show wpAny _ _ (field (.ref (n+4)) 2 >>= _) _ _ _
 refine wpAny_bind (wpAny_field hz rfl (x:=.bool false) rfl ?_)
 show wpAny _ _ (field (.ref (n+4)) 3 >>= _) _ _ _
 refine wpAny_bind (wpAny_field hz rfl (x:=.ref (n+2)) rfl ?_)
 refine wpAny_bind (wpAny_seqItems hTI rfl ?_)
 show wpAny _ _ (Builtin.SmallTypes.ownedTupleIsFree (.ref (n+4)) >>= _) _ _ _
 refine wpAny_bind ?_
 unfold Builtin.SmallTypes.ownedTupleIsFree
 refine wpAny_bind (wpAny_field hz rfl (x:=.none) rfl (wpAny_pure ?_))
 simp only [if_true]
 refine wpAny_bind (wpAny_rule ?_)
 refine wpAny_bind (wpAny_field hz rfl (x:=.ref (n+3)) rfl ?_)
 refine wpAny_bind (wpAny_setField_rec hz (by simp) fun g1 hz1 hs1=>?_)
 replace hz1:IsZip g1 (n+4) (n+2) (n+3) .ellipsis:=hz1
 refine wpAny_bind ?_
 simp only [List.zipIdx_cons,List.zipIdx_nil,List.forIn_cons,List.forIn_nil]
 refine wpAny_bind (wpAny_bind (wpAny_onRaise ?_))
 show wpAny _ _ (Builtin.SmallTypes.nextOf (.ref n) >>= _) _ _ _
 have fin:∀ {g h':Heap} {e:Addr},IsZip g (n+4) (n+2) (n+3) .ellipsis→(∃ o,g.get? e=some o∧o.cls=.type "StopIteration")→Off [n,n+1,n+3,n+4] s.heap g→∀ s':Shared,s'={ s with heap:=g } →
   wpAny (model prog w) A (setField (.ref (n+4)) 0 .none) (fun _ s'=>E (.ref e) s') E s':=by
  intro g h' e hzg ⟨oe,hoe,hce⟩ off s' es
  subst es
  have hez:e≠n+4:=fun z=>by subst z;rw [hzg] at hoe;cases hoe;simp at hce
  exact wpAny_setField_rec hzg (by simp) fun g9 _ hs9=>hE g9 e (off.trans (Off.of hs9 (by simp))) ⟨oe,(hs9.2 _ hez).trans hoe,hce⟩
 cases hx:xs[i]? with
 | none =>
  refine wpAny_bind (sub_end hh (hi1.keep fun o e=>(hs1.2 _ (nne (by lia))).trans e) (h1.keep fun o e=>(hs1.2 _ (nne (by lia))).trans e) hx fun g2 e hs2 he=>?_)
  exact fin (h':=g2) (hs2 _ _ (nne (by lia)) hz1) he ((Off.of hs1 (by simp)).trans fun c o hc q=>hs2 c o (fun z=>hc (by simp [z])) q) _ rfl
 | some x =>
  have hy:ys[i]?=none:=by rcases hend with h|h;rw [hx] at h;cases h;exact h
  refine wpAny_bind (sub_item (hi1.keep fun o e=>(hs1.2 _ (nne (by lia))).trans e) (h1.keep fun o e=>(hs1.2 _ (nne (by lia))).trans e) hx fun g2 hi1' hs2=>wpAny_pure ?_)
  have hTO2:IsT g2 (n+3) #[u,v]:=(hs2.2 _ (nne (by lia))).trans ((hs1.2 _ (nne (by lia))).trans hTO)
  refine wpAny_bind (wpAny_seqItems hTO2 rfl ?_)
  refine wpAny_bind (upd_tup hTO2 (by simp) fun g3 hTO3 hs3=>?_)
  refine wpAny_bind (wpAny_letGo (wpAny_pure ?_))
  refine wpAny_bind (wpAny_bind (wpAny_onRaise ?_))
  show wpAny _ _ (Builtin.SmallTypes.nextOf (.ref (n+1)) >>= _) _ _ _
  refine wpAny_bind (sub_end hh (hi2.keep fun o e=>(hs3.2 _ (nne (by lia))).trans ((hs2.2 _ (nne (by lia))).trans ((hs1.2 _ (nne (by lia))).trans e))) (h2.keep fun o e=>(hs3.2 _ (nne (by lia))).trans ((hs2.2 _ (nne (by lia))).trans ((hs1.2 _ (nne (by lia))).trans e))) hy fun g4 e hs4 he=>?_)
  exact fin (h':=g4) (hs4 _ _ (nne (by lia)) ((hs3.2 _ (nne (by lia))).trans ((hs2.2 _ (nne (by lia))).trans hz1))) he ((((Off.of hs1 (by simp)).trans (Off.of hs2 (by simp))).trans (Off.of hs3 (by simp))).trans fun c o hc q=>hs4 c o (fun z=>hc (by simp [z])) q) _ rfl
theorem pyNext_zip2 {k1 k2:Bool} {n a b:Nat} {i:Nat} {xs ys:Array Value} {x y:Value} {Q:Option Value→Shared→Prop} (Z:Zip2 k1 k2 n a b i .none s.heap) (ha:a<n) (hb:b<n)
  (h1:SrcOf k1 s.heap a xs) (h2:SrcOf k2 s.heap b ys) (hx:xs[i]?=some x) (hy:ys[i]?=some y)
  (hQ:∀ h',Zip2 k1 k2 n a b (i+1) (rawInt s.heap.objs.size) h'→IsT h' s.heap.objs.size #[x,y]→h'.objs.size=s.heap.objs.size+1→Off [n,n+1,n+3,n+4] s.heap h'→Q (some (.ref s.heap.objs.size)) { s with heap:=h' }) :
  wpAny (model prog w) A (pyNext (.ref (n+4))) Q E s:=by
 have hT:s.TypeIs (.ref (n+4)) "zip":=⟨_,Z.z,rfl⟩
 unfold pyNext
 exact wpAny_bind (wpAny_attempt (wpAny_callSpecial?_slot (name:=Str.ofString "__next__") hT F.slot_zip_next
  (wpAny_call_entry F.slot_zip_next hT F.entry_zip_next
   (zip2_next Z ha hb h1 h2 hx hy fun h' a1 a2 a3 a4=>wpAny_pure (hQ h' a1 a2 a3 a4)) (F.args_zip_next_1 _))))
theorem pyNext_zip2_end {k1 k2:Bool} {n a b:Nat} {i:Nat} {xs ys:Array Value} {Q:Option Value→Shared→Prop} (hh:A.handled=none) (Z:Zip2 k1 k2 n a b i .none s.heap) (ha:a<n) (hb:b<n)
  (h1:SrcOf k1 s.heap a xs) (h2:SrcOf k2 s.heap b ys) (hend:xs[i]?=none∨ys[i]?=none)
  (hQ:∀ h',Off [n,n+1,n+3,n+4] s.heap h'→Q none { s with heap:=h' }):wpAny (model prog w) A (pyNext (.ref (n+4))) Q E s:=by
 have hT:s.TypeIs (.ref (n+4)) "zip":=⟨_,Z.z,rfl⟩
 unfold pyNext
 refine wpAny_bind (wpAny_attempt (wpAny_callSpecial?_slot (name:=Str.ofString "__next__") hT F.slot_zip_next
  (wpAny_call_entry F.slot_zip_next hT F.entry_zip_next (zip2_stop (A:=A.in1) hh Z ha hb h1 h2 hend fun h' e hk he=>?_) (F.args_zip_next_1 _))))
 obtain ⟨o,ho,hc⟩:=he
 refine wpAny_bind (wpAny_isInstance (T:="StopIteration") (b:=true) ⟨o,ho,hc⟩ isSubtype_stop ?_)
 exact wpAny_pure (hQ _ hk)
end
noncomputable abbrev zh5 (k1 k2:Bool) (h:Heap) (a b:Addr):Heap:=((((h.push (itObj k1 a)).push (itObj k2 b)).push { cls:=.type "tuple",data:=.seq #[.ref h.objs.size,.ref (h.objs.size+1)] }).push { cls:=.type "tuple",data:=.seq #[.none,.none] }).push
 { cls:=.type "zip",data:=.fields #[.none,.bool false,.bool false,.ref (h.objs.size+2),.ref (h.objs.size+3)] }
theorem zip2_made (k1 k2:Bool) (a b:Addr) (xs ys:Array Value) :
  Meets (Builtin.«zip.__new__» ⟨[.type "zip",.ref a,.ref b],[]⟩) (fun _ R s=>SrcOf k1 s.heap a xs∧SrcOf k2 s.heap b ys ∧
   R (.ok (.ret (.ref (s.heap.objs.size+4)))) { s with heap:=zh5 k1 k2 s.heap a b }) :=
 .of_wp fun prog w A R s h=>by
  obtain ⟨hp,g,d,tk,os⟩:=s;obtain ⟨hl1,hl2,h⟩:=h
  have hsub:=sub_zip
  have hL1:SrcOf k1 (Shared.heap ⟨hp,g,d,tk,os⟩) a xs:=hl1
  have hL2:SrcOf k2 (Shared.heap ⟨hp.push (itObj k1 a),g,d,tk,os⟩) b ys:=SrcOf.keep hl2 fun o e=>Heap.get?_push_of_some _ e
  wp_walk using src_iter hL1,src_iter hL2
  refine⟨_,rfl,?_⟩
  simp only [Heap.size_push]
  exact h
end L2
namespace L2
open PySem PySem.Spec PyProof.Rows
noncomputable def Sq (k:Bool) (K:PySem.W.Frag) (H:Hp) (a:Addr) (xs:List V):Prop:=match k with|true=>SqT K H a xs|false=>SqL K H a xs
section
variable {X:Cx} {pins:List (Addr×Obj)} {σ:St} {H H':Hp} {s:Shared}
theorem Inv.sq {k:Bool} {a:Addr} {xs:List V} (I:Inv X pins σ H s) (h:Sq k X.K H a xs):∃ its:List Value,Vals xs its∧SrcOf k s.heap a its.toArray∧xs.length≤sizeLine:=by
 cases k with
 | true=>exact I.tuple h
 | false =>
  obtain ⟨its,r,p,z⟩:=I.list h
  exact⟨its,r,p.isList,z⟩
theorem Inv.sq_inj {k:Bool} {a:Addr} {xs ys:List V} (I:Inv X pins σ H s) (h:Sq k X.K H a xs) (h':Sq k X.K H a ys):xs=ys:=by
 cases k with
 | true=>exact I.tuple_inj h h'
 | false=>exact I.list_inj h h'
theorem Inv.off {h':Heap} {t':Nat} {ch:List Addr} (I:Inv X pins σ H s) (hf:∀ b∈ch,FpOk X pins H b) (off:Off ch s.heap h') (hok:HOk X.prog X.w H' h')
  (free:∀ b o,b∉ch→s.heap.get? b=some o→H b=none→H' b=none) (same:∀ b o,H b=some o→H' b=some o):Inv X pins σ H' { s with heap:=h',toks:=t' }:=by
 refine I.step (g':=s.gens) (d':=s.drawn) (ch:=ch) (fun b hb=>?_) (fun b o _ _ hc e _=>off b o hc e) (fun b o _ _ hc e _=>⟨o.slots,off b o hc e⟩) (fun b o hc e n=>free b o hc e n) (fun b o hc e=>⟨o,off b o hc e⟩)
  (fun b xs e=>same b _ e) (fun b o u e=>same b _ e) (fun b ps e=>⟨#[],by rw [same b _ e];simp⟩) (fun m hm=>?_) hok I.bare
 ·obtain ⟨f0,f1,f2,f3,f4,f5⟩:=hf b hb
  exact⟨f3,f1,f4,f5⟩
 ·obtain ⟨o,es,ep,ho,r⟩:=hm
  exact⟨o,es,ep,off _ o (fun z=>(hf _ z).2.1 rfl) ho,r⟩
theorem HOk.off {P:Program} {w:World} {h h':Heap} {ch:List Addr} (x:HOk P w H h) (hn:∀ b∈ch,H b=none) (off:Off ch h h'):HOk P w H h':=fun a o e=>by
 have na:∀ b u,H b=some u→b∉ch:=fun b u q z=>by rw [hn b z] at q;cases q
 refine (x a o e).stay (fun b u hb q=>off b u ?_ q) (fun _ q=>q) fun _ _ q=>q
 rcases hb with rfl|hb
 ·exact na _ _ e
 ·exact na _ _ hb
theorem HOk.offNew {P:Program} {w:World} {h h':Heap} {ch:List Addr} {T:Addr} {ob:HO} (x:HOk P w H h) (hn:∀ b∈ch,H b=none) (off:Off ch h h') (hT:h.objs.size≤T) (new:ObjOk P w (upd H T ob) h' T ob):HOk P w (upd H T ob) h':=fun a o e=>by
 have hTn:=x.fresh hT
 have na:∀ b u,H b=some u→b∉ch:=fun b u q z=>by rw [hn b z] at q;cases q
 by_cases ha:a=T
 ·subst ha;rw [upd_same] at e;cases e;exact new
 ·rw [upd_ne ha] at e
  refine (x a o e).stay (fun b u hb q=>off b u ?_ q) (fun c q=>by rw [upd_ne (ne_of_none q hTn)];exact q) fun c xs q=>by rw [upd_ne (ne_of_none q hTn)];exact q
  rcases hb with rfl|hb
  ·exact na _ _ e
  ·exact na _ _ hb
end
theorem off_mem {c:Addr} {n:Nat} (z:c∈([n,n+1,n+3,n+4]:List Addr)):c∈([n+4,n+2,n+3,n,n+1]:List Addr):=by
 simp only [List.mem_cons,List.not_mem_nil,or_false] at z ⊢
 rcases z with h|h|h|h <;> simp [h]
noncomputable def Itz (K : PySem.W.Frag) (k1 k2 : Bool) (a b : Addr) : It :=
  ⟨fun i H => ∃ xs ys x y, Sq k1 K H a xs ∧ Sq k2 K H b ys ∧ xs[i]?=some x ∧ ys[i]?=some y,
   fun i H v H' => ∃ p x y, v=.ref p ∧ H p=none ∧ (∀ xs, Sq k1 K H a xs → xs[i]?=some x) ∧ (∀ ys, Sq k2 K H b ys → ys[i]?=some y) ∧ H'=upd H p (.tup [x, y]),
   fun i H => ∃ xs ys, Sq k1 K H a xs ∧ Sq k2 K H b ys ∧ (xs.length ≤ i ∨ ys.length ≤ i)⟩
theorem turn_zip2 {P:Program} {w:World} {K:PySem.W.Frag} {es:List Expr} {kk:Nat} {pos:Pos} {k1 k2:Bool} (n a b:Nat) (ha:a<n) (hb:b<n) :
  Turn P w K (.Tuple es kk pos) (Itz K k1 k2 a b) [n+4,n+2,n+3,n,n+1] (n+4) (fun i h=>Zip2 k1 k2 n a b i .none h) where
 mem:=by simp
 obj:=fun i h st c hc=>by
  obtain ⟨hz,hTI,⟨u,v,hTO⟩,hi1,hi2⟩:=st
  simp only [List.mem_cons,List.not_mem_nil,or_false] at hc
  rcases hc with rfl|rfl|rfl|rfl|rfl
  ·exact⟨_,hz,fun v z=>nomatch z⟩
  ·exact⟨_,hTI,fun v z=>nomatch z⟩
  ·exact⟨_,hTO,fun v z=>nomatch z⟩
  ·exact hi1.obj
  ·exact hi2.obj
 keep:=fun i h h' st k=>by
  obtain ⟨hz,hTI,⟨u,v,hTO⟩,hi1,hi2⟩:=st
  exact⟨k _ (by simp) _ hz,k _ (by simp) _ hTI,⟨u,v,k _ (by simp) _ hTO⟩,hi1.keep fun o e=>k _ (by simp) o e,hi2.keep fun o e=>k _ (by simp) o e⟩
 item:=by
  intro X hP hw hK hc i pins s σ H E I hf st hg
  subst hP hw hK
  obtain ⟨xs,ys,x,y,qx,qy,ex,ey⟩:=hg
  obtain ⟨is1,r1,s1,_⟩:=I.sq qx
  obtain ⟨is2,r2,s2,_⟩:=I.sq qy
  obtain ⟨u,hu,ru⟩:=r1.get ex
  obtain ⟨v,hv,rv⟩:=r2.get ey
  refine pyNext_zip2 st ha hb s1 s2 (x:=u) (y:=v) (by simpa using hu) (by simpa using hv) fun h' Z hT hsz off=>⟨_,rfl,?_⟩
  have hTn:H s.heap.objs.size=none:=I.hok.fresh (Nat.le_refl _)
  have zlt:n+4<s.heap.objs.size:=Heap.lt_size st.z
  refine wpAny_letOwnedTupleGo_zip Z.z fun h2 hz2 hs2=>?_
  have off2:Off [n+4,n+2,n+3,n,n+1] s.heap h2:=fun c o hc e=>(hs2.2 c fun z=>hc (by simp [z])).trans (off c o (fun z=>hc (off_mem z)) e)
  have hT2:IsT h2 s.heap.objs.size #[u,v]:=(hs2.2 _ (Nat.ne_of_gt zlt)).trans hT
  refine⟨.ref s.heap.objs.size,upd H s.heap.objs.size (.tup [x,y]),?_,rfl,⟨_,x,y,rfl,hTn,fun zs hzs=>by rw [I.sq_inj hzs qx];exact ex,fun zs hzs=>by rw [I.sq_inj hzs qy];exact ey,rfl⟩,?_,fun c hc=>?_⟩
  ·refine Inv.off (s:=s) (h':=h2) (t':=s.toks) (ch:=[n+4,n+2,n+3,n,n+1]) I hf off2 (I.hok.offNew (fun c hc=>(hf c hc).1) off2 (Nat.le_refl _) ?_) (fun c o _ e hn=>?_) fun c o e=>?_
   ·exact⟨by show 2≤sizeLine;decide,[u,v],.cons ru (.cons rv .nil),⟨_,hT2,rfl,_,rfl⟩⟩
   ·rw [upd_ne (Nat.ne_of_lt (Heap.lt_size e))];exact hn
   ·rw [upd_ne (ne_of_none e hTn)];exact e
  ·obtain ⟨z1,z2,⟨a1,a2,z3⟩,z4,z5⟩:=Z
   exact⟨hz2,(hs2.2 _ (nne (by lia))).trans z2,⟨a1,a2,(hs2.2 _ (nne (by lia))).trans z3⟩,z4.keep fun o e=>(hs2.2 _ (nne (by lia))).trans e,z5.keep fun o e=>(hs2.2 _ (nne (by lia))).trans e⟩
  ·have cn:c≠s.heap.objs.size:=by
    simp only [List.mem_cons,List.not_mem_nil,or_false] at hc
    rcases hc with rfl|rfl|rfl|rfl|rfl <;> exact nne (by lia)
   rw [upd_ne cn];exact (hf c hc).1
 done:=by
  intro X hP hw hK hc i pins s σ H E I hf st hg
  subst hP hw hK
  obtain ⟨xs,ys,qx,qy,hend⟩:=hg
  obtain ⟨is1,r1,s1,_⟩:=I.sq qx
  obtain ⟨is2,r2,s2,_⟩:=I.sq qy
  have e1:=r1.length
  have e2:=r2.length
  refine pyNext_zip2_end (I.ok.hd hc) st ha hb s1 s2 ?_ fun h' off=>⟨rfl,?_⟩
  ·rcases hend with z|z
   ·exact .inl (by simp;lia)
   ·exact .inr (by simp;lia)
  ·have off2:Off [n+4,n+2,n+3,n,n+1] s.heap h':=fun c o hc e=>off c o (fun z=>hc (off_mem z)) e
   exact Inv.off (s:=s) (t':=s.toks) I hf off2 (I.hok.off (fun c hc=>(hf c hc).1) off2) (fun _ _ _ _ q=>q) fun _ _ q=>q
 self:=fun _ _ _ _ _ st h=>wpAny_pyIter_zip st.z h
section
variable {X:Cx}
noncomputable def iZip2 (K:PySem.W.Frag) (k1 k2:Bool) (ta:TA):TI:=fun σ H R=>ta σ H fun vs H1=>∃ a b,vs=[.ref a,.ref b]∧(∃ xs,Sq k1 K H1 a xs)∧(∃ ys,Sq k2 K H1 b ys)∧R (Itz K k1 k2 a b) H1
theorem pi_zip2 (k1 k2:Bool) {es:List Expr} {kk:Nat} {tpos:Pos} {a b:Expr} {ta:TA} {p pos:Pos} (hg:Gl X "zip") (hm:X.mg "zip"=none) (ha:PA X [a,b] ta) (hs:starEach [a,b] X.env=[(false,eval a X.env),(false,eval b X.env)]:=by rfl) (hs2:starEach [b] X.env=[(false,eval b X.env)]:=by rfl) :
  PI X (.Tuple es kk tpos) (.Call (.Name "zip" p) [a,b] [] pos) (iZip2 X.K k1 k2 ta):=by
 intro pins s σ H R I h
 refine Call_ (ld_blt I hg hm boot_zip (PyProof.Rows.callWith_type1 (thn (ha pos pins s σ H _ I h) fun us s1 ⟨vs,H1,I1,r1,q1⟩=>?_) (by rw [hs,hs2]) (by rw [hs2];rfl)))
 obtain ⟨a',b',e,⟨xs,qx⟩,⟨ys,qy⟩,q⟩:=q1
 subst e
 obtain ⟨u,v,rfl,ru,rv⟩:=vals2 r1
 cases ru
 cases rv
 obtain ⟨is1,r1,s1',_⟩:=I1.sq qx
 obtain ⟨is2,r2,s2',_⟩:=I1.sq qy
 refine callType_new PySem.F.called_zip (by decide) (PySem.F.typeCall_zip_2 _ _) (PySem.F.newCall_zip_2 _ _) (fun obj=>PySem.F.args_object_init_3 obj _ _) PySem.F.entry_zip_new (zip2_made k1 k2 a' b' is1.toArray is2.toArray) ⟨s1',s2',?_⟩
 have z1:(s1.heap.push (itObj k1 a')).objs.size=s1.heap.objs.size+1:=Heap.size_push ..
 have z2:((s1.heap.push (itObj k1 a')).push (itObj k2 b')).objs.size=s1.heap.objs.size+2:=by rw [Heap.size_push,z1]
 have z3:(((s1.heap.push (itObj k1 a')).push (itObj k2 b')).push { cls:=.type "tuple",data:=.seq #[.ref s1.heap.objs.size,.ref (s1.heap.objs.size+1)] }).objs.size=s1.heap.objs.size+3:=by rw [Heap.size_push,z2]
 have z4:((((s1.heap.push (itObj k1 a')).push (itObj k2 b')).push { cls:=.type "tuple",data:=.seq #[.ref s1.heap.objs.size,.ref (s1.heap.objs.size+1)] }).push { cls:=.type "tuple",data:=.seq #[.none,.none] }).objs.size=s1.heap.objs.size+4:=by rw [Heap.size_push,z3]
 have g5:(zh5 k1 k2 s1.heap a' b').get? (s1.heap.objs.size+4)=some { cls:=.type "zip",data:=.fields #[.none,.bool false,.bool false,.ref (s1.heap.objs.size+2),.ref (s1.heap.objs.size+3)] }:=by rw [← z4];exact Heap.get?_push_size _ rfl
 have g4:(zh5 k1 k2 s1.heap a' b').get? (s1.heap.objs.size+3)=some { cls:=.type "tuple",data:=.seq #[.none,.none] }:=by rw [← z3];exact Heap.get?_push_of_some _ (Heap.get?_push_size _ rfl)
 have g3:(zh5 k1 k2 s1.heap a' b').get? (s1.heap.objs.size+2)=some { cls:=.type "tuple",data:=.seq #[.ref s1.heap.objs.size,.ref (s1.heap.objs.size+1)] }:=by rw [← z2];exact Heap.get?_push_of_some _ (Heap.get?_push_of_some _ (Heap.get?_push_size _ rfl))
 have g2:(zh5 k1 k2 s1.heap a' b').get? (s1.heap.objs.size+1)=some (itObj k2 b'):=by rw [← z1];exact Heap.get?_push_of_some _ (Heap.get?_push_of_some _ (Heap.get?_push_of_some _ (Heap.get?_push_size _ (by cases k2 <;> rfl))))
 have g1:(zh5 k1 k2 s1.heap a' b').get? s1.heap.objs.size=some (itObj k1 a'):=Heap.get?_push_of_some _ (Heap.get?_push_of_some _ (Heap.get?_push_of_some _ (Heap.get?_push_of_some _ (Heap.get?_push_size _ (by cases k1 <;> rfl)))))
 have old:∀ c o,s1.heap.get? c=some o→(zh5 k1 k2 s1.heap a' b').get? c=some o:=fun c o x=>Heap.get?_push_of_some _ (Heap.get?_push_of_some _ (Heap.get?_push_of_some _ (Heap.get?_push_of_some _ (Heap.get?_push_of_some _ x))))
 have Z:Zip2 k1 k2 s1.heap.objs.size a' b' 0 .none (zh5 k1 k2 s1.heap a' b'):=⟨g5,g3,⟨_,_,g4⟩,itObj_at g1,itObj_at g2⟩
 show _∧_
 refine⟨⟨_,g5,rfl⟩,wpAny_pyIter_zip Z.z ?_⟩
 refine⟨_,_,_,_,H1,rfl,I1.kept (t':=s1.toks) old,turn_zip2 s1.heap.objs.size a' b' s1'.lt s2'.lt,Z,fun c hc=>?_,q⟩
 have hcl:s1.heap.objs.size≤c:=by
  simp only [List.mem_cons,List.not_mem_nil,or_false] at hc
  rcases hc with rfl|rfl|rfl|rfl|rfl <;> first|exact Nat.le_add_right _ _|exact Nat.le_refl _
 exact I1.fpOk hcl (I1.hok.fresh hcl)
end
end L2
namespace L2
open PySem PySem.Spec PyProof.Rows
noncomputable def bitsI (i:Int):Nat:=Builtin.Int.intBits i
noncomputable def CMulB (i j:Int):Prop:=bitsI i+bitsI j≤1000000
theorem CMulB.ok {i j:Int} (h:CMulB i j):IntMulOk i j:=by
 unfold IntMulOk
 intro z
 simp only [Bool.and_eq_true,decide_eq_true_eq] at z
 have z2:=z.2
 unfold Builtin.Int.intTooBig at z2
 have h':Builtin.Int.intBits i+Builtin.Int.intBits j≤1000000:=h
 have b:(1000000:Int)≤bitsLine:=by decide
 simp only [decide_eq_true_eq] at z2
 lia
noncomputable def CDivB (i j:Int):Prop:=0<j∧j.natAbs.log2<9000
section
variable {X:Cx}
theorem op_mulB:OpR X (binaryOp .Mult) (rI CMulB fun i j=>.int (i*j)):=opI fun _ _ _ _ _ _ _ hc q=>mul_int q hc.ok
theorem op_fdivB:OpR X (binaryOp .FloorDiv) (rI CDivB fun i j=>.int (i / j)):=opI fun i j _ _ _ _ _ hc q=>by
 have h1:(0:Int)<j:=hc.1
 exact floordiv_int (by lia) (by rw [Int.fdiv_eq_ediv_of_nonneg i (by lia)];exact q) (.inl (PyProof.noPylong_of_log2 hc.2))
noncomputable def TyR (K:PySem.W.Frag) (H:Hp) (x:V) (t:Value):Prop:=TyOf K H x t∨(∃ a xs,x=.ref a∧SqT K H a xs∧t=.type "tuple")∨(∃ a xs,x=.ref a∧SqL K H a xs∧t=.type "list")
theorem call_isinst:CallR X (.builtin "isinstance") (fun xs H Q=>∃ x n t b,xs=[x,.ty n]∧TyR X.K H x t∧PySem.W.kitOne X.K t (.type n)=some b∧Q (.bl b) H):=by
 intro pins s σ H xs us Q I r h
 obtain ⟨x,n,t,b,rfl,ty,e,q⟩:=h
 obtain ⟨u,c,rfl,ru,rc⟩:=vals2 r
 obtain rfl:c=Value.type n:=rc
 have fin:∀ tk,EP X pins σ Q (.bool b) { s with toks:=tk }:=fun tk=>⟨.bl b,H,I.tok tk,rfl,q⟩
 rcases ty with ty|⟨a,ys,rfl,hs,rfl⟩|⟨a,ys,rfl,hs,rfl⟩
 ·exact isinst_ok I ru ty e fin
 ·obtain rfl:u=Value.ref a:=ru
  obtain ⟨its,_,p,_⟩:=I.tuple hs
  obtain ⟨o,h1,h2,_⟩:=p
  exact PySem.W.kia_one PySem.W.kitx_tuple I.kIn ⟨o,h1,h2⟩ e (fun z=>nomatch z) fin
 ·obtain rfl:u=Value.ref a:=ru
  obtain ⟨its,_,p,_⟩:=I.list hs
  obtain ⟨o,n',h1,h2,_⟩:=p
  exact PySem.W.kia_one PySem.W.kitx_list I.kIn ⟨o,h1,h2⟩ e (fun z=>nomatch z) fin
end
theorem kit_same (K:PySem.W.Frag) (t:Value):PySem.W.kitOne K t t=some true:=by
 unfold PySem.W.kitOne
 rw [if_pos (by simp)]
end L2
namespace L2
open PySem PySem.Spec PyProof.Rows
noncomputable def Def (K:PySem.W.Frag) (mg:Str→Option Value) (x:Str) (st:Stmt) (ps:List Str):Prop:=∃ f fd,Fun K x x st f fd∧mg x=some (.ref f)∧Binds K fd ps []
noncomputable def Ok (P:Program) (w:World) (K:PySem.W.Frag) (mg:Str→Option Value) (base:Heap) (k:Nat) (x:Str) (ps:List Str) (sp:Sp):Prop :=
 ∃ f fd,FnOk P w K mg base CX0 k f fd ps sp∧mg x=some (.ref f)∧PySem.W.keepIn K (.ref f)=true∧Binds K fd ps []
section
variable {P:Program} {w:World} {K:PySem.W.Frag} {mg:Str→Option Value} {base:Heap}
theorem Def.ok {x:Str} {st:Stmt} {N ps:List Str} {k:Nat} {sp:Sp} (D:Def K mg x st ps) (S:FnScope N ps (defScope st)) (len:∀ vs H Q E,sp vs H Q E→vs.length=ps.length)
  (hbody:∀ (f:Addr) (cdv:Value) (A:Around) (outer:List Env) (s:Shared) (H:Hp) (vs:List V) (Q:VK) (E:XK),Room k (A.deeper (envOfC x (defScope st) s.heap.objs.size f cdv))→sp vs H Q E →
   ∃ t,PSs (cxOf CX0 P w K mg base N x (defScope st) f cdv A outer s H E).nox (defBody st) t∧t { nx:=fun _ H'=>Q .non H',rt:=Q } (start N vs) H):Ok P w K mg base (k+1) x ps sp:=by
 obtain ⟨f,fd,F,hm,hb⟩:=D
 exact⟨f,fd,F.ok S len fun cdv A outer s H vs Q E hr h=>hbody f cdv A outer s H vs Q E hr h,hm,F.kp,hb⟩
end
section
variable {X:Cx} {k:Nat} {x:Str} {ps:List Str} {sp:Sp} {p pos:Pos} {e:Expr} {es:List Expr} {t:TA}
theorem pcall (O:Ok X.prog X.w X.K X.mg X.base k x ps sp) (hr:Room k X.A) (ha:PA X (e::es) t) (hg:Gl X x:=by rfl)
  (hdb:(x == ("__debug__":Str))=false:=by decide) (he:starEach (e::es) X.env=(false,eval e X.env)::starEach es X.env:=by rfl) (hpl:(backTo pos (starEach es X.env)).any (·.1)=false:=by rfl) :
  PE X (.Call (.Name x p) (e::es) [] pos) (tCall sp [] E0 t):=by
 obtain ⟨f,fd,F,hm,hk,hb⟩:=O
 exact pe_call F hr hg hm hk hb .nil pass0 ha hdb he hpl
end
theorem Same.upd_new {H:Hp} {a:Addr} {o:HO} (h:H a=none):Same H (upd H a o):=fun b u e=>by rw [upd_ne (ne_of_none e h)];exact e
theorem Same.at {K:PySem.W.Frag} {H H':Hp} {a:Addr} {xs:List V} (e:Same H H') (h:SqT K H a xs):SqT K H' a xs:=by
 rcases h with (h|⟨o,h⟩)|h
 ·exact .inl (.inl (e _ _ h))
 ·exact .inl (.inr ⟨o,e _ _ h⟩)
 ·exact .inr h
theorem Same.sq {k:Bool} {K:PySem.W.Frag} {H H':Hp} {a:Addr} {xs:List V} (e:Same H H') (h:Sq k K H a xs):Sq k K H' a xs:=by
 cases k with
 | true=>exact Same.at e h
 | false=>exact Same.seq e h
noncomputable def CW (t:Nat) (l:Addr) (n:Nat) (f:Nat→V) (fr:St) (H1:Hp) (i m:Nat) (σ1:St) (ys:List V) (H':Hp):Prop :=
 m=n - i∧i≤n∧(∃ own:St,own.length=t∧σ1=own++fr)∧ys=(List.range i).map f∧Same H1 H'∧H' l=some (.lst ys)
theorem CW.next {t:Nat} {l:Addr} {n:Nat} {f:Nat→V} {fr:St} {H1 H' H5:Hp} {i:Nat} {y:V} (own:St) (ho:own.length=t) (hi:i<n) (hn:n≤1000000) (hl:H1 l=none) (hs:Same H1 H') (hl':H' l=some (.lst ((List.range i).map f))) (s5:Same H' H5) (ey:y=f i) :
  H5 l=some (.lst ((List.range i).map f))∧((List.range i).map f).length<sizeLine∧CW t l n f fr H1 (i+1) (n - (i+1)) (own++fr) ((List.range i).map f++[y]) (upd H5 l (.lst ((List.range i).map f++[y]))):=by
 subst ey
 refine⟨s5 _ _ hl',?_,rfl,hi,⟨own,ho,rfl⟩,?_,fun b o e=>?_,upd_same⟩
 ·rw [List.length_map,List.length_range]
  exact Nat.lt_of_lt_of_le (Nat.lt_of_lt_of_le hi hn) (by decide)
 ·rw [List.range_succ,List.map_append];rfl
 ·rw [upd_ne (ne_of_none e hl)]
  exact s5 _ _ (hs _ _ e)
theorem comp_by {J:It} {H1:Hp} {ix:List (Option Nat)} {σ:St} {g:TG} {tt:TT} {te:TE} {Q:VK} (t:Nat) (fr:St) (n:Nat) (f:Nat→V) (hpk:pick ix σ=List.replicate t none++fr)
  (hstop:∀ H',Same H1 H'→J.stop n H') (hgo:∀ i H',i<n→Same H1 H'→J.go i H')
  (step:∀ i x l H' H2 own,own.length=t→i<n→H1 l=none→Same H1 H'→H' l=some (.lst ((List.range i).map f))→J.yld i H' x H2 →
   g x (own++fr) H2 fun σ2 H3=>tt σ2 H3 fun b H4=>if b=true then te σ2 H4 fun y H5=>H5 l=some (.lst ((List.range i).map f))∧((List.range i).map f).length<sizeLine∧CW t l n f fr H1 (i+1) (n - (i+1)) σ2 ((List.range i).map f++[y]) (upd H5 l (.lst ((List.range i).map f++[y])))
    else CW t l n f fr H1 (i+1) (n - (i+1)) σ2 ((List.range i).map f) H4)
  (hQ:∀ l H',H1 l=none→Same H1 H'→H' l=some (.lst ((List.range n).map f))→Q (.ref l) H') :
  CompGoal ix g tt te σ Q J H1:=by
 intro l hl
 refine⟨CW t l n f fr H1,⟨n,by simp,Nat.zero_le _,⟨_,List.length_replicate,hpk⟩,rfl,Same.upd_new hl,upd_same⟩,?_⟩
 rintro i m σ1 ys H' ⟨rfl,hi,⟨own,ho,rfl⟩,rfl,hs,hl'⟩
 refine⟨hl',?_⟩
 by_cases hlt:i<n
 ·exact .inr ⟨hgo i H' hlt hs,n - (i+1),by lia,fun x H2 hy=>step i x l H' H2 own ho hlt hl hs hl' hy⟩
 ·obtain rfl:i=n:=by lia
  exact .inl ⟨hstop H' hs,hQ l H' hl hs hl'⟩
theorem rd_comp1 {J:It} {H1:Hp} {ix:List (Option Nat)} {σ:St} {te:TE} {Q:VK} (fr:St) (n:Nat) (f:Nat→V) (hpk:pick ix σ=none::fr) (hn:n≤1000000)
  (hstop:∀ H',Same H1 H'→J.stop n H') (hgo:∀ i H',i<n→Same H1 H'→J.go i H')
  (step:∀ i x H' H2 (Qc:VK),i<n→Same H1 H'→J.yld i H' x H2→(∀ H5,Same H' H5→Qc (f i) H5)→te (some x::fr) H2 Qc)
  (hQ:∀ l H',H1 l=none→Same H1 H'→H' l=some (.lst ((List.range n).map f))→Q (.ref l) H'):CompGoal ix (gName 0) (fun _ H Q=>Q true H) te σ Q J H1:=by
 refine comp_by 1 fr n f hpk hstop hgo (fun i x l H' H2 own ho hi hl hs hl' hy=>?_) hQ
 obtain ⟨o1,rfl⟩:∃ o1,own=[o1]:=by match own,ho with|[o1],_=>exact⟨o1,rfl⟩
 dsimp only [gName]
 rw [if_pos rfl]
 exact step i x H' H2 _ hi hs hy fun H5 s5=>CW.next (fr:=fr) [some x] rfl hi hn hl hs hl' s5 rfl
theorem rd_compZ {K:PySem.W.Frag} {k1 k2:Bool} {a b:Addr} {xs ys:List V} {H1:Hp} {ix:List (Option Nat)} {σ:St} {te:TE} {Q:VK} (fr:St) (f:Nat→V) (hpk:pick ix σ=none::none::fr) (ha:Sq k1 K H1 a xs) (hb:Sq k2 K H1 b ys) (hlen:xs.length=ys.length) (hn:xs.length≤1000000)
  (step:∀ i x y H' (Qc:VK),xs[i]?=some x→ys[i]?=some y→Same H1 H'→(∀ H5,Same H' H5→Qc (f i) H5)→te (some x::some y::fr) H' Qc)
  (hQ:∀ l H',H1 l=none→Same H1 H'→H' l=some (.lst ((List.range xs.length).map f))→Q (.ref l) H'):CompGoal ix (gTup K 2 (gCons (gName 0) (gCons (gName 1) gNil))) (fun _ H Q=>Q true H) te σ Q (Itz K k1 k2 a b) H1:=by
 refine comp_by 2 fr xs.length f hpk (fun H' s=>⟨_,_,s.sq ha,s.sq hb,.inl (Nat.le_refl _)⟩) (fun i H' hi s=>?_) (fun i x l H' H2 own ho hi hl hs hl' hy=>?_) hQ
 ·exact⟨_,_,xs[i],ys[i]'(hlen ▸ hi),s.sq ha,s.sq hb,List.getElem?_eq_getElem hi,List.getElem?_eq_getElem (hlen ▸ hi)⟩
 ·obtain ⟨o1,o2,rfl⟩:∃ o1 o2,own=[o1,o2]:=by match own,ho with|[o1,o2],_=>exact⟨o1,o2,rfl⟩
  obtain ⟨p,x',y',rfl,hp,e1,e2,rfl⟩:=hy
  have g1:=e1 _ (hs.sq ha)
  have g2:=e2 _ (hs.sq hb)
  refine⟨p,_,rfl,SqT.of upd_same,rfl,_,_,rfl,_,_,rfl,rfl,?_⟩
  show ite (true=true) _ _
  rw [if_pos rfl]
  exact step i x' y' _ _ g1 g2 (hs.trans (Same.upd_new hp)) fun H5 s5=>CW.next (fr:=fr) [some x',some y'] rfl hi hn hl hs hl' ((Same.upd_new hp).trans s5) rfl
theorem int_get {r:List Int} {i:Nat} {x:V} (h:(r.map V.int)[i]?=some x):x=.int (r.getD i 0)∧i<r.length:=by
 rw [List.getElem?_map] at h
 cases e:r[i]? with
 | none=>rw [e] at h;cases h
 | some z =>
  rw [e] at h
  have hl:=(List.getElem?_eq_some_iff.mp e).1
  refine⟨?_,hl⟩
  rw [← (Option.some.inj h),List.getD,e];rfl
theorem int_at {r:List Int} {i:Nat} (h:i<r.length):(r.map V.int)[i]?=some (.int (r.getD i 0)):=by
 rw [List.getElem?_map,List.getD,List.getElem?_eq_getElem h];rfl
theorem range_getD {α:Type} (f:Int→α) (r:List Int):(List.range r.length).map (fun i=>f (r.getD i 0))=r.map f:=by
 apply List.ext_getElem
 ·simp
 ·intro i h1 h2
  simp at h1 h2
  simp [List.getD,h1]
theorem range_zip {α:Type} (f:Int→Int→α) (r q:List Int) (h:r.length=q.length):(List.range r.length).map (fun i=>f (r.getD i 0) (q.getD i 0))=List.zipWith f r q:=by
 apply List.ext_getElem
 ·simp [h]
 ·intro i h1 h2
  simp at h1 h2
  have:i<q.length:=by lia
  simp [List.getD,h1,this]
theorem rd_zipRows {K:PySem.W.Frag} {a b:Addr} {r q:List Int} {H1:Hp} {ix:List (Option Nat)} {σ:St} {Q:VK} (op:Int→Int→Int) (hpk:pick ix σ=[none,none]) (ha:SqT K H1 a (r.map V.int)) (hb:SqT K H1 b (q.map V.int)) (hlen:r.length=q.length) (hn:r.length≤1000)
  (hQ:∀ l H',H1 l=none→Same H1 H'→H' l=some (.lst ((List.zipWith op r q).map V.int))→Q (.ref l) H') :
  CompGoal ix (gTup K 2 (gCons (gName 0) (gCons (gName 1) gNil))) (fun _ H Q=>Q true H) (tOp (rI0 fun i j=>.int (op i j)) (tVar 0) (tVar 1)) σ Q (Itz K true true a b) H1:=by
 refine rd_compZ (k1:=true) (k2:=true) [] (fun i=>.int (op (r.getD i 0) (q.getD i 0))) hpk ha hb (by simpa using hlen) (by rw [List.length_map];lia) (fun i x y H' Qc ex ey hs kc=>?_) fun l H' hl hs hl'=>hQ l H' hl hs ?_
 ·obtain ⟨rfl,_⟩:=int_get ex
  obtain ⟨rfl,_⟩:=int_get ey
  exact⟨_,rfl,_,rfl,_,_,rfl,rfl,kc _ (Same.refl _)⟩
 ·rw [hl',List.length_map,range_zip (fun x y=>V.int (op x y)) r q hlen,List.map_zipWith]
theorem rd_mapRow {K:PySem.W.Frag} {a:Addr} {r:List Int} {H1:Hp} {ix:List (Option Nat)} {σ:St} {te:TE} {Q:VK} (F:Int→V) (fr:St) (hpk:pick ix σ=none::fr) (ha:SqT K H1 a (r.map V.int)) (hn:r.length≤1000)
  (step:∀ x H' (Qc:VK),x∈r→Same H1 H'→(∀ H5,Same H' H5→Qc (F x) H5)→te (some (.int x)::fr) H' Qc)
  (hQ:∀ l H',H1 l=none→Same H1 H'→H' l=some (.lst (r.map F))→Q (.ref l) H'):CompGoal ix (gName 0) (fun _ H Q=>Q true H) te σ Q (Itt K a) H1:=by
 refine rd_comp1 fr r.length (fun i=>F (r.getD i 0)) hpk (by lia) (fun H' s=>⟨_,s.at ha,by simp⟩) (fun i H' hi s=>⟨_,_,s.at ha,int_at hi⟩) (fun i x H' H2 Qc hi hs hy kc=>?_) fun l H' hl hs hl'=>hQ l H' hl hs ?_
 ·obtain ⟨rfl,e1⟩:=hy
  obtain ⟨rfl,_⟩:=int_get (e1 _ (hs.at ha))
  exact step _ _ Qc (by rw [List.getD,List.getElem?_eq_getElem hi];exact List.getElem_mem hi) hs kc
 ·rw [hl',range_getD F r]
end L2
namespace Mth
noncomputable def prod5 (a b c d e:Nat):Int:=2 ^ a*3 ^ b*5 ^ c*7 ^ d*11 ^ e
noncomputable def numL (ps:List Int) (es:List Int):Int:=(List.zipWith (fun p e=>p ^ e.toNat) ps es).foldl (·*·) 1
noncomputable def primes:List Int:=[2,3,5,7,11]
noncomputable def num (es:List Int):Int:=numL primes es
noncomputable def P5 (p:Int):Prop:=p=2∨p=3∨p=5∨p=7∨p=11
noncomputable def Cop (m:Int):Prop:=∀ p,P5 p→m % p≠0
end Mth
namespace Mth
noncomputable def bl (x:Int):Nat:=if x == 0 then 0 else x.natAbs.log2+1
theorem bl_le {x:Int} {k:Nat} (h:x.natAbs<2 ^ k):bl x≤k:=by
 unfold bl
 split
 ·lia
 ·rename_i hx
  have hx':x.natAbs≠0:=by simpa using hx
  have:=(Nat.log2_lt hx').mpr h
  lia
end Mth
namespace Mth
noncomputable def F (m:Int) (x y:Int):Prop:=2 ^ (-m).toNat*y≤2 ^ m.toNat*x
noncomputable def rt (b c d e:Int):Int:=prod5 0 b.toNat c.toNat d.toNat e.toNat
noncomputable def rb (b c d e:Int):Int:=prod5 0 (-b).toNat (-c).toNat (-d).toNat (-e).toNat
end Mth
namespace Mth
section
variable (c0 c1 c2 c3 c4:Nat) {m:Int} (h:Cop m)
include h
end
end Mth
namespace Mth
noncomputable def sub (a b:List Int):List Int:=List.zipWith (· - ·) a b
noncomputable def mulv (r:List Int) (k:Int):List Int:=r.map (·*k)
noncomputable def low (v s:List Int) (q:Int):List Int:=sub v (mulv s q)
end Mth
namespace Mth
noncomputable def BdM (M:Nat) (r:List Int):Prop:=∀ i,(r.getD i 0).natAbs≤M
noncomputable def at' (p:Nat) (v:List Int):Nat:=(v.getD p 0).natAbs
structure PS (n p M m l:Nat) (led os:List (List Int)):Prop where
 len:∀ v∈led++os,v.length=n
 bd:∀ v∈led++os,BdM M v
 lo:∀ v∈led,l≤at' p v∧at' p v≤m
 pos:0<l
 big:∃ v∈led,at' p v=m
 low:∃ v∈led,at' p v=l
 one:(∀ v∈led,0<v.getD p 0)∨∀ v∈led,v.getD p 0<0
 zero:∀ v∈os,v.getD p 0=0
end Mth
namespace Mth
noncomputable def PI (n p M:Nat) (led os:List (List Int)):Prop :=
 (∀ v∈led++os,v.length=n)∧(∀ v∈led,v.getD p 0≠0)∧(∀ v∈os,v.getD p 0=0) ∧
  ((∀ v∈led++os,BdM M v)∨(∃ m l M',PS n p M' m l led os∧M'*m*m*l≤3*(M*M*M*M))∨(led.length≤1∧∀ v∈led++os,BdM (6*(M*M*M*M)) v))
end Mth
namespace Mth
noncomputable def r2 (p:Nat×Nat):List Int:=[(p.1:Int),(p.2:Int)]
noncomputable def prd:List (Nat×Nat)→Nat
 | []=>1
 | p::l=>p.2*prd l
noncomputable def tot:List (Nat×Nat)→Nat
 | []=>0
 | p::l=>p.1*prd l+p.2*tot l
end Mth
namespace Mth
noncomputable def gr (b:Nat):Nat→Nat
 | 0=>b
 | i+1=>4*gr b i+3
noncomputable def sb (b:Nat):Nat→Nat
 | 0=>0
 | i+1=>sb b i+gr b (i+1)+1
end Mth
namespace Mth
structure PT (p X m k:Nat) (led os:List (List Int)):Prop where
 bd:∀ v∈led++os,BdM X v
 hi:∀ v∈led,at' p v≤m
 one:(∀ v∈led,0<v.getD p 0)∨∀ v∈led,v.getD p 0<0
 low:∃ v∈led,at' p v+m≤k
end Mth
namespace Mth
noncomputable def gs (b:Nat):Nat→Nat
 | 0=>b
 | i+1=>3*gs b i+3
end Mth
namespace Mth
noncomputable def dotR (i:Nat):List (List Int)→List Int→Int
 | r::rs,p::ps=>p*r.getD i 0+dotR i rs ps
 | _,_=>0
noncomputable def Mk (w:Nat) (rs:List (List Int)) (v:List Int):Prop:=∀ i,i<w→v.getD i 0=dotR i rs (v.drop w)
end Mth
namespace Mth
noncomputable def lb (W:Nat):Nat→Nat
 | 0=>0
 | i+1=>3*lb W i+2*W+12
end Mth
namespace Sgn
open PySem PySem.Builtin PySem.Builtin.Str PySem.StrLaws PySem.NumText PySem.W.KIN PyProof.Rows
noncomputable def num (z:Str):Nat:=digitsVal z.cps.toList
end Sgn
namespace Mth
noncomputable def gens (ms:List Int) (rs:List (List Int)):List (List Int):=(List.range 5).map fun i=>mulv (rs.getD i []) (ms.getD i 0)
end Mth
namespace Gap
structure Sg (P:Int→Int→Prop):Prop where
 add:∀ {n j n' j':Int},P n j→P n' j'→P (n+n') (j+j')
 neg:∀ {n j:Int},P n j→P (-n) (-j)→False
 tot:∀ n j:Int,j≠0→P n j∨P (-n) (-j)
 oct:∀ {n:Int},P n 0→0<n
section
variable {P:Int→Int→Prop} {o:Int→Int} {N:Int}
structure Ch (P:Int→Int→Prop) (o:Int→Int) (N:Int):Prop where
 s:Sg P
 z:o 0=0
 f:∀ j,0<j→j<N→P (o j) j∧P (1 - o j) (-j)
variable (C:Ch P o N)
include C
variable {a b:Int} (a0:0<a) (a1:a<N) (mn:∀ j,0<j→j<N→j≠a→P (o j - o a) (j - a)) (b0:0<b) (b1:b<N) (mx:∀ j,0<j→j<N→j≠b→P (o b - o j) (b - j))
include a0 a1 mn in
include a0 a1 mn in
include b0 b1 mx in
include b0 b1 mx in
include a0 a1 mn b0 b1 mx in
include a0 a1 mn b0 b1 mx in
include a0 a1 mn b0 b1 mx in
end
end Gap
namespace Nam
open PySem
noncomputable def J (c:Nat):List (List Nat)→List Nat
 | []=>[]
 | [x]=>x
 | x::y::r=>x++c::J c (y::r)
end Nam
namespace L2
open PySem PySem.Spec PyProof.Rows
noncomputable def Fixed (K:PySem.W.Frag) (a:Addr) (xs:List V):Prop:=∀ H,SqT K H a xs
theorem Same.upd_old {H H2:Hp} {l:Addr} {o:HO} (s:Same H H2) (h:H l=none):Same H (upd H2 l o):=fun b u e=>by
 rw [upd_ne (ne_of_none e h)];exact s _ _ e
noncomputable def rBl:V→Hp→(Bool→Hp→Prop)→Prop:=fun x H R=>∃ c,x=.bl c∧R c H
noncomputable def rIn1:V→Hp→(Option Int→Hp→Prop)→Prop:=fun x H R=>∃ i,x=.int i∧R (some i) H
noncomputable def rNewT:List V→Hp→VK→Prop:=fun xs H Q=>xs.length≤sizeLine∧∀ p,H p=none→Q (.ref p) (upd H p (.tup xs))
noncomputable def rNewL:List V→Hp→VK→Prop:=fun xs H Q=>xs.length≤sizeLine∧∀ p,H p=none→Q (.ref p) (upd H p (.lst xs))
noncomputable def rLen (K:PySem.W.Frag):List V→Hp→VK→Prop:=fun xs H Q=>∃ p ys,xs=[.ref p]∧(SqL K H p ys∨SqT K H p ys)∧Q (.int ys.length) H
noncomputable def rTupleOf (K:PySem.W.Frag):List V→Hp→VK→Prop:=fun xs H Q=>∃ p ys,xs=[.ref p]∧((SqL K H p ys∧∀ l,H l=none→Q (.ref l) (upd H l (.tup ys)))∨(SqT K H p ys∧Q (.ref p) H))
noncomputable def rListOf (K:PySem.W.Frag):List V→Hp→VK→Prop:=fun xs H Q=>∃ p ys,xs=[.ref p]∧(SqL K H p ys∨SqT K H p ys)∧∀ l,H l=none→Q (.ref l) (upd H l (.lst ys))
noncomputable def rIsInst (K:PySem.W.Frag):List V→Hp→VK→Prop:=fun xs H Q=>∃ x n t b,xs=[x,.ty n]∧TyR K H x t∧PySem.W.kitOne K t (.type n)=some b∧Q (.bl b) H
noncomputable def rAbs:List V→Hp→VK→Prop:=fun xs H Q=>∃ i,xs=[.int i]∧Q (.int (if i<0 then -i else i)) H
noncomputable def rMin:List V→Hp→VK→Prop:=fun xs H Q=>∃ i j,xs=[.int i,.int j]∧Q (.int (if j<i then j else i)) H
noncomputable def rItL (K:PySem.W.Frag):V→Hp→(It→Hp→Prop)→Prop:=fun x H R=>∃ a,x=.ref a∧(∃ xs,SqL K H a xs)∧R (Itl K a) H
noncomputable def rItT (K:PySem.W.Frag):V→Hp→(It→Hp→Prop)→Prop:=fun x H R=>∃ a,x=.ref a∧(∃ xs,SqT K H a xs)∧R (Itt K a) H
noncomputable def rItR:List V→Hp→(It→Hp→Prop)→Prop:=fun vs H R=>∃ j:Int,vs=[.int j]∧-(2 ^ 62)≤j∧j<2 ^ 62∧R (Itr 0 j.toNat) H
noncomputable def rItZ (K:PySem.W.Frag) (k1 k2:Bool):List V→Hp→(It→Hp→Prop)→Prop:=fun vs H R=>∃ a b,vs=[.ref a,.ref b]∧(∃ xs,Sq k1 K H a xs)∧(∃ ys,Sq k2 K H b ys)∧R (Itz K k1 k2 a b) H
noncomputable def rTyped (K:PySem.W.Frag) (T:String) (ts:TA) (r:V→List V→Hp→VK→Prop) (σ:St) (Q:VK):V→Hp→Prop:=fun x H1=>tyV K T x H1∧ts σ H1 fun xs H2=>r x xs H2 Q
noncomputable def ForGoal (g:TG) (tb:TS) (D:Ends) (J:It) (σ:St) (H:Hp):Prop:=∃ W:Nat→Nat→St→Hp→Prop,(∃ m,W 0 m σ H)∧∀ i m σ H,W i m σ H →
 (J.stop i H∧D.nx σ H)∨(J.go i H∧∃ N:St→Hp→Prop,(∀ σ' H',N σ' H'→∃ m',m'<m∧W (i+1) m' σ' H')∧∀ x H',J.yld i H x H'→g x σ H' fun σ2 H2=>tb { D with nx:=N,ct:=N,bk:=D.nx } σ2 H2)
section
variable {X:Cx}
theorem callN_len:CallR X (.builtin "len") (rLen X.K):=call_len_seq
theorem callN_tuple:CallR X (.type "tuple") (rTupleOf X.K):=call_tuple_of
theorem callN_list:CallR X (.type "list") (rListOf X.K):=call_list_of
theorem callN_isinst:CallR X (.builtin "isinstance") (rIsInst X.K):=call_isinst
theorem callN_abs:CallR X (.builtin "abs") rAbs:=call_abs
theorem callN_min (hc:X.calm=true):CallR X (.builtin "min") rMin:=call_min2 hc
end
section
variable {t u:TS} {D:Ends} {σ:St} {H:Hp} {te ta tb:TE} {g:TG} {tt tu:TT} {Q:VK} {i j:Int} {x y v w:V} {K:PySem.W.Frag}
theorem r_seq (h:t { D with nx:=u D } σ H):tSeq t u D σ H:=h
theorem r_asg (h:te σ H fun x H1=>g x σ H1 D.nx):tAsg te g D σ H:=h
theorem r_gname {n:Nat} {R:St→Hp→Prop} (h:R (σ.set n (some v)) H):gName n v σ H R:=h
theorem r_ret (h:te σ H D.rt):tRet te D σ H:=h
theorem r_drop (h:te σ H fun _ H1=>D.nx σ H1):tDrop te D σ H:=h
theorem r_next (h:D.nx σ H):tNext D σ H:=h
theorem r_ifs {c:TT} (h:c σ H fun b H1=>if b=true then t D σ H1 else u D σ H1):tIfS c t u D σ H:=h
theorem r_var {n:Nat} (e:σ[n]?=some (some v)) (h:Q v H):tVar n σ H Q:=⟨v,e,h⟩
theorem r_c (h:Q v H):tC v σ H Q:=h
theorem r_op {r:R2} (h:ta σ H fun x H1=>tb σ H1 fun y H2=>r x y H2 Q):tOp r ta tb σ H Q:=h
theorem r_b {R:Bool→Hp→Prop} (h:te σ H fun x H1=>rBl x H1 R):tB te σ H R:=h
theorem r_test {R:Bool→Hp→Prop} (h:te σ H fun x H1=>rBl x H1 R):tTest te σ H R:=h
theorem r_isbl {b:Bool} {R:Bool→Hp→Prop} (h:R b H):rBl (.bl b) H R:=⟨b,rfl,h⟩
theorem r_and {R:Bool→Hp→Prop} (h:tt σ H fun c H1=>if c=true then tu σ H1 R else R false H1):tAnd tt tu σ H R:=h
theorem r_or {R:Bool→Hp→Prop} (h:tt σ H fun c H1=>if c=true then R true H1 else tu σ H1 R):tOr tt tu σ H R:=h
theorem r_not {R:Bool→Hp→Prop} (h:tt σ H fun c H1=>R (!c) H1):tNot tt σ H R:=h
theorem r_andV (h:ta σ H fun x H1=>rBl x H1 fun c H2=>if c=true then tb σ H2 Q else Q (.bl false) H2):tAndV ta tb σ H Q:=h
theorem r_notV (h:ta σ H fun x H1=>rBl x H1 fun c H2=>Q (.bl (!c)) H2):tNotV ta σ H Q:=h
theorem r_ife (h:tt σ H fun c H1=>if c=true then ta σ H1 Q else tb σ H1 Q):tIf tt ta tb σ H Q:=h
theorem r_I0 {f:Int→Int→V} (h:Q (f i j) H):rI0 f (.int i) (.int j) H Q:=⟨i,j,rfl,rfl,h⟩
theorem r_I {C:Int→Int→Prop} {f:Int→Int→V} (c:C i j) (h:Q (f i j) H):rI C f (.int i) (.int j) H Q:=⟨i,j,rfl,rfl,c,h⟩
theorem decI {i j:Int}:decide (V.int i=V.int j)=decide (i=j):=by
 by_cases e:i=j
 ·subst e;simp
 ·rw [decide_eq_false e];exact decide_eq_false fun z=>e (by injection z)
theorem decB {i j:Bool}:decide (V.bl i=V.bl j)=decide (i=j):=by
 by_cases e:i=j
 ·subst e;simp
 ·rw [decide_eq_false e];exact decide_eq_false fun z=>e (by injection z)
theorem r_eqI (h:Q (.bl (decide (i=j))) H):rEq (.int i) (.int j) H Q:=⟨rfl,by rw [decI];exact h⟩
theorem r_neI (h:Q (.bl (!decide (i=j))) H):rNe (.int i) (.int j) H Q:=⟨rfl,by rw [decI];exact h⟩
theorem r_neB {b c:Bool} (h:Q (.bl (!decide (b=c))) H):rNe (.bl b) (.bl c) H Q:=⟨rfl,by rw [decB];exact h⟩
theorem r_nil {R:List V→Hp→Prop} (h:R [] H):tNil σ H R:=h
theorem r_cons {ts:TA} {R:List V→Hp→Prop} (h:te σ H fun x H1=>ts σ H1 fun xs H2=>R (x::xs) H2):tCons te ts σ H R:=h
theorem r_tup {ts:TA} (h:ts σ H fun xs H1=>rNewT xs H1 Q):tTup ts σ H Q:=h
theorem r_lst {ts:TA} (h:ts σ H fun xs H1=>rNewL xs H1 Q):tLst ts σ H Q:=h
theorem r_newT {xs:List V} (hl:xs.length≤1000) (h:∀ p H2,Same H H2→H2 p=some (.tup xs)→Q (.ref p) H2):rNewT xs H Q :=
 ⟨Nat.le_of_lt (small1000 hl),fun p hp=>h p _ (Same.upd_new hp) upd_same⟩
theorem r_newL {xs:List V} (hl:xs.length≤1000) (h:∀ p H2,H p=none→Same H H2→H2 p=some (.lst xs)→Q (.ref p) H2):rNewL xs H Q :=
 ⟨Nat.le_of_lt (small1000 hl),fun p hp=>h p _ hp (Same.upd_new hp) upd_same⟩
theorem r_cb {r:List V→Hp→VK→Prop} {ts:TA} (h:ts σ H fun vs H1=>r vs H1 Q):tCB r ts σ H Q:=h
theorem r_comp {ix:List (Option Nat)} {wi:TI} (h:wi σ H fun J H1=>CompGoal ix g tt te σ Q J H1):tComp ix wi g tt te σ H Q:=h
theorem r_sl {r:V→Option Int→Option Int→Hp→VK→Prop} {tl th:TO} (h:te σ H fun x H1=>tl σ H1 fun l H2=>th σ H2 fun u H3=>r x l u H3 Q):tSl r te tl th σ H Q:=h
theorem r_nopart {R:Option Int→Hp→Prop} (h:R none H):tNoPart σ H R:=h
theorem r_part {R:Option Int→Hp→Prop} (h:te σ H fun x H1=>rIn1 x H1 R):tPart te σ H R:=h
theorem r_isint {R:Option Int→Hp→Prop} (h:R (some i) H):rIn1 (.int i) H R:=⟨i,rfl,h⟩
theorem r_bm {T:String} {r:V→List V→Hp→VK→Prop} {ts:TA} (h:te σ H fun x H1=>rTyped K T ts r σ Q x H1):tBM K T r te ts σ H Q:=h
theorem r_for {wi:TI} {tb:TS} (h:wi σ H fun J H1=>ForGoal g tb D J σ H1):tFor wi g tb D σ H:=h
theorem r_ilist {R:It→Hp→Prop} (h:te σ H fun x H1=>rItL K x H1 R):iList K te σ H R:=h
theorem r_itup {R:It→Hp→Prop} (h:te σ H fun x H1=>rItT K x H1 R):iTup K te σ H R:=h
theorem r_irng {ts:TA} {R:It→Hp→Prop} (h:ts σ H fun vs H1=>rItR vs H1 R):iRng1 ts σ H R:=h
theorem r_izip {k1 k2:Bool} {ts:TA} {R:It→Hp→Prop} (h:ts σ H fun vs H1=>rItZ K k1 k2 vs H1 R):iZip2 K k1 k2 ts σ H R:=h
theorem r_isl {a:Addr} {xs:List V} {R:It→Hp→Prop} (e:SqL K H a xs) (h:R (Itl K a) H):rItL K (.ref a) H R:=⟨a,rfl,⟨_,e⟩,h⟩
theorem r_ist {a:Addr} {xs:List V} {R:It→Hp→Prop} (e:SqT K H a xs) (h:R (Itt K a) H):rItT K (.ref a) H R:=⟨a,rfl,⟨_,e⟩,h⟩
theorem r_isr {R:It→Hp→Prop} (h1:-1000000≤j) (h2:j≤1000000) (h:R (Itr 0 j.toNat) H):rItR [.int j] H R:=⟨j,rfl,by lia,by lia,h⟩
theorem r_isz {k1 k2:Bool} {a b:Addr} {xs ys:List V} {R:It→Hp→Prop} (e1:Sq k1 K H a xs) (e2:Sq k2 K H b ys) (h:R (Itz K k1 k2 a b) H):rItZ K k1 k2 [.ref a,.ref b] H R:=⟨a,b,rfl,⟨_,e1⟩,⟨_,e2⟩,h⟩
theorem sqt_sq {a:Addr} {xs:List V} (h:SqT K H a xs):Sq true K H a xs:=h
theorem sql_sq {a:Addr} {xs:List V} (h:SqL K H a xs):Sq false K H a xs:=h
theorem r_ixT {a:Addr} {xs:List V} (e:SqT K H a xs) (n:atI xs i=some v) (h:Q v H):rIx K (.ref a) (.int i) H Q:=.inr (.inl ⟨a,xs,i,v,rfl,rfl,e,n,h⟩)
theorem r_ixL {a:Addr} {xs:List V} (e:SqL K H a xs) (n:atI xs i=some v) (h:Q v H):rIx K (.ref a) (.int i) H Q:=.inl ⟨a,xs,i,v,rfl,rfl,e,n,h⟩
theorem r_lenL {a:Addr} {xs:List V} (e:SqL K H a xs) (h:Q (.int xs.length) H):rLen K [.ref a] H Q:=⟨a,xs,rfl,.inl e,h⟩
theorem r_tupleL {a:Addr} {xs:List V} (e:SqL K H a xs) (h:∀ p H2,Same H H2→H2 p=some (.tup xs)→Q (.ref p) H2):rTupleOf K [.ref a] H Q :=
 ⟨a,xs,rfl,.inl ⟨e,fun p hp=>h p _ (Same.upd_new hp) upd_same⟩⟩
theorem r_listL {a:Addr} {xs:List V} (e:SqL K H a xs) (h:∀ p H2,H p=none→Same H H2→H2 p=some (.lst xs)→Q (.ref p) H2):rListOf K [.ref a] H Q:=⟨a,xs,rfl,.inl e,fun p hp=>h p _ hp (Same.upd_new hp) upd_same⟩
theorem r_abs (h:Q (.int (if i<0 then -i else i)) H):rAbs [.int i] H Q:=⟨i,rfl,h⟩
theorem r_min (h:Q (.int (if j<i then j else i)) H):rMin [.int i,.int j] H Q:=⟨i,j,rfl,h⟩
theorem r_typed {T:String} {ts:TA} {r:V→List V→Hp→VK→Prop} (e:tyV K T x H) (h:ts σ H fun xs H2=>r x xs H2 Q):rTyped K T ts r σ Q x H:=⟨e,h⟩
theorem r_append {l:Addr} {xs:List V} (e:H l=some (.lst xs)) (n:xs.length≤1000) (h:Q .non (upd H l (.lst (xs++[y])))):rAppend (.ref l) [y] H Q:=⟨l,xs,y,rfl,rfl,e,small1000 n,h⟩
theorem r_cat {a b:Addr} {xs ys:List V} (e1:H a=some (.lst xs)) (e2:H b=some (.lst ys)) (n:xs.length+ys.length≤1000) (h:∀ p H2,H p=none→Same H H2→H2 p=some (.lst (xs++ys))→Q (.ref p) H2):rCat (.ref a) (.ref b) H Q :=
 ⟨a,b,xs,ys,rfl,rfl,e1,e2,Nat.le_of_lt (small1000 n),fun p hp=>h p _ hp (Same.upd_new hp) upd_same⟩
theorem r_catT {a b:Addr} {xs ys:List V} (e1:SqT K H a xs) (e2:SqT K H b ys) (n1:xs≠[]) (n2:ys≠[]) (n:xs.length+ys.length≤1000) (h:∀ p H2,Same H H2→H2 p=some (.tup (xs++ys))→Q (.ref p) H2):rCatT K (.ref a) (.ref b) H Q :=
 ⟨a,b,xs,ys,rfl,rfl,e1,e2,n1,Nat.le_of_lt (small1000 n),fun z=>absurd z n2,fun _ p hp=>h p _ (Same.upd_new hp) upd_same⟩
theorem r_slT {a:Addr} {xs:List V} {lo hi:Option Int} (e:SqT K H a xs) (n:¬ (HT.sIx xs.length 0 lo=0∧HT.sIx xs.length xs.length hi=xs.length)) (h:∀ p H2,Same H H2→H2 p=some (.tup (cutV xs lo hi))→Q (.ref p) H2):rSlT K (.ref a) lo hi H Q :=
 ⟨a,xs,rfl,e,n,fun p hp=>h p _ (Same.upd_new hp) upd_same⟩
theorem r_slL {a:Addr} {xs:List V} {lo hi:Option Int} (e:SqL K H a xs) (h:∀ p H2,H p=none→Same H H2→H2 p=some (.lst (cutV xs lo hi))→Q (.ref p) H2):rSlL K (.ref a) lo hi H Q :=
 ⟨a,xs,rfl,e,fun p hp=>h p _ hp (Same.upd_new hp) upd_same⟩
theorem r_isiI {n:String} {b:Bool} (k:PySem.W.kitOne K (.type "int") (.type n)=some b) (h:Q (.bl b) H):rIsInst K [.int i,.ty n] H Q:=⟨_,n,_,b,rfl,.inl (.int _),k,h⟩
end
theorem if_ff {c:Bool} {A B:Prop} (e:c=false) (h:B):if c=true then A else B:=by rw [e];exact iteF h
theorem if_both {c:Bool} {A B:Prop} (h1:c=true→A) (h2:c=false→B):if c=true then A else B:=by
 cases c with
 | true=>exact iteT (h1 rfl)
 | false=>exact iteF (h2 rfl)
end L2
namespace L2
open PySem PySem.Spec PyProof.Rows
section
variable {t u:TS} {D:Ends} {σ:St} {H:Hp} {te ta tb:TE} {g:TG} {tt tu:TT} {Q:VK} {i j:Int} {x y v w:V} {K:PySem.W.Frag} {X:Cx}
theorem r_call0 {sp:Sp} {E:XK} {ts:TA} (h:ts σ H fun vs H1=>sp vs H1 Q E):tCall sp [] E ts σ H Q:=by
 unfold tCall
 simp only [List.append_nil]
 exact h
noncomputable def WGo (tb:TS) (D:Ends) (W:Nat→St→Hp→Prop) (m:Nat) (σ:St) (H1:Hp):Prop:=∃ N:St→Hp→Prop,(∀ σ' H',N σ' H'→∃ m',m'<m∧W m' σ' H')∧tb { D with nx:=N,ct:=N,bk:=D.nx } σ H1
theorem f_while {c:TT} {tb:TS} (W:Nat→St→Hp→Prop) (m:Nat) (h0:W m σ H) (hs:∀ m σ H,W m σ H→c σ H fun b H1=>if b=true then WGo tb D W m σ H1 else D.nx σ H1):tWhile c tb D σ H:=⟨W,⟨m,h0⟩,hs⟩
theorem w_go {tb:TS} {W:Nat→St→Hp→Prop} {m:Nat} (h:tb { D with nx:=fun σ' H'=>∃ m',m'<m∧W m' σ' H',ct:=fun σ' H'=>∃ m',m'<m∧W m' σ' H',bk:=D.nx } σ H):WGo tb D W m σ H:=⟨_,fun _ _ z=>z,h⟩
end
end L2
namespace L2
open PySem PySem.Spec PyProof.Rows
section
variable {X:Cx} (K:PySem.W.Frag) (hK:X.K=K)
include hK
theorem kN_len:CallR X (.builtin "len") (rLen K):=hK ▸ callN_len
theorem kN_tuple:CallR X (.type "tuple") (rTupleOf K):=hK ▸ callN_tuple
theorem kN_list:CallR X (.type "list") (rListOf K):=hK ▸ callN_list
theorem kN_isinst:CallR X (.builtin "isinstance") (rIsInst K):=hK ▸ callN_isinst
theorem kx_seq:IxR X (rIx K):=hK ▸ ix_seq
theorem ksl_tup:SlR X (rSlT K):=hK ▸ sl_tup
theorem ksl_list:SlR X (rSlL K):=hK ▸ sl_list
theorem kop_catT:OpR X (binaryOp .Add) (rCatT K):=hK ▸ op_catT
theorem kpi_list {tg l:Expr} {tl:TE} (hl:PE X l tl):PI X tg l (iList K tl):=hK ▸ pi_list hl
theorem kpi_tup {tg l:Expr} {tl:TE} (hl:PE X l tl):PI X tg l (iTup K tl):=hK ▸ pi_tup hl
theorem kpi_zip2 (k1 k2:Bool) {es:List Expr} {kk:Nat} {tpos:Pos} {a b:Expr} {ta:TA} {p pos:Pos} (hg:Gl X "zip") (hm:X.mg "zip"=none) (ha:PA X [a,b] ta) (hs:starEach [a,b] X.env=[(false,eval a X.env),(false,eval b X.env)]:=by rfl) (hs2:starEach [b] X.env=[(false,eval b X.env)]:=by rfl) :
  PI X (.Tuple es kk tpos) (.Call (.Name "zip" p) [a,b] [] pos) (iZip2 K k1 k2 ta):=hK ▸ pi_zip2 k1 k2 hg hm ha hs hs2
theorem kpg_tup {es:List Expr} {k:Nat} {t:TGs} {n:Nat} {pos:Pos} (hc:X.calm=true) (h:PGs X es t)
  (hn:(assignEach es X.env).length=n:=by rfl) (hst:(assignEach es X.env).findIdx? (·.1)=none:=by rfl):PG X (.Tuple es k pos) (gTup K n t):=hK ▸ pg_tup hc h hn hst
end
end L2
namespace Mth
theorem bits_bl (x:Int):L2.bitsI x=bl x:=rfl
end Mth
namespace L2
open PySem PySem.Spec PyProof.Rows
section
variable {H:Hp} {Q:VK} {K:PySem.W.Frag}
theorem cut_tail (x:V) (xs:List V):cutV (x::xs) (some 1) none=xs:=by
 have e:HT.sIx (x::xs).length 0 (some 1)=1:=by
  have h:=HT.sIx_nat (x::xs).length 0 1
  simp only [List.length_cons] at h ⊢
  have h2:min 1 (xs.length+1)=1:=by lia
  rw [h2] at h
  exact h
 unfold cutV
 rw [e,HT.sIx_none]
 simp
theorem r_slT1 {a:Addr} {x:V} {xs:List V} (e:SqT K H a (x::xs)) (h:∀ p H2,Same H H2→H2 p=some (.tup xs)→Q (.ref p) H2):rSlT K (.ref a) (some 1) none H Q :=
 r_slT e (fun z=>by
  have h2:=HT.sIx_nat (x::xs).length 0 1
  have h3:HT.sIx (x::xs).length 0 (some 1)=min 1 (x::xs).length:=h2
  rw [h3] at z
  have:=z.1
  simp only [List.length_cons] at this
  lia) fun p H2 s m=>h p H2 s (by rw [cut_tail] at m;exact m)
end
end L2
namespace L2
open PySem PySem.Spec PyProof.Rows
noncomputable def rm (H:Hp) (l:Addr):Hp:=fun b=>if b=l then none else H b
theorem rm_at {H:Hp} {l:Addr}:rm H l l=none:=by unfold rm;rw [if_pos rfl]
theorem rm_ne {H:Hp} {l b:Addr} (h:b≠l):rm H l b=H b:=by unfold rm;rw [if_neg h]
theorem rm_same {H:Hp} {l:Addr}:Same (rm H l) H:=fun b o e=>by
 by_cases h:b=l
 ·subst h;rw [rm_at] at e;cases e
 ·rw [rm_ne h] at e;exact e
theorem rm_sqT {K:PySem.W.Frag} {H:Hp} {l a:Addr} {xs ys:List V} (h:SqT K H a xs) (hl:H l=some (.lst ys)):SqT K (rm H l) a xs:=by
 have ne:∀ {o},H a=some o→(∀ zs,o≠.lst zs)→a≠l:=fun {o} e n z=>by subst z;rw [hl] at e;exact n _ (Option.some.inj e).symm
 rcases h with (h|⟨o,h⟩)|h
 ·exact .inl (.inl (by rw [rm_ne (ne h fun _ z=>nomatch z)];exact h))
 ·exact .inl (.inr ⟨o,by rw [rm_ne (ne h fun _ z=>nomatch z)];exact h⟩)
 ·exact .inr h
end L2
namespace L2
open PySem PySem.Spec PyProof.Rows PySem.W
section
variable {M:Model} {A:Around} {E:Value→Shared→Prop} {s:Shared}
noncomputable def HeadOk (h:Heap) (e:Addr) (vs:Array Value):Option Addr→Prop
 | none=>vs[1]?=some .none
 | some T=>vs[1]?=some (.ref T)∧T≠e∧∃ oT ts,h.get? T=some oT∧oT.data=.fields ts∧ts[3]?=some .none
end
end L2
namespace L2
open PySem PySem.Spec PyProof.Rows PySem.W
noncomputable def Exc (h:Heap) (H:Hp) (h0:Heap) (ps:List (Addr×Obj)) (a C:Addr):Prop:=∃ oe vs T0,h.get? a=some oe∧oe.cls=.ref C∧oe.dict=none∧oe.data=.fields vs∧1<vs.size∧HeadOk h a vs T0∧H a=none∧(h0.get? a=none∧∀ p∈ps,p.1≠a) ∧
 ∀ T,T0=some T→H T=none∧h0.get? T=none∧∀ p∈ps,p.1≠T
noncomputable abbrev EXT:=Addr→St→Hp→Prop
noncomputable def XW (X:Cx) (EX:EXT):Value→Shared→Prop:=fun e s'=>∃ a C σ' H',e=.ref a∧Inv X.nox [] σ' H' s'∧Exc s'.heap H' X.s₀.heap X.pn a C∧EX C σ' H'
end L2
namespace L2
open PySem PySem.Spec PyProof.Rows PySem.W
section
variable {X:Cx} {pins:List (Addr×Obj)} {σ:List (Option V)} {H H':Hp} {s:Shared} {h':Heap}
theorem Inv.step2 {t':Nat} {ch:List Addr} (I:Inv X pins σ H s)
  (hch:∀ b∈ch,X.s₀.heap.get? b=none∧b≠X.env.locals∧(∀ x c,X.env.cells.lookup x=some c→c≠b)∧∀ p∈X.pn++pins,p.1≠b)
  (keep:∀ b o,b≠X.env.locals→b∉X.fs→b∉ch→s.heap.get? b=some o→H b=none→h'.get? b=some o)
  (slot:∀ b o,b≠X.env.locals→b∈X.fs→b∉ch→s.heap.get? b=some o→H b=none→∃ sl,h'.get? b=some { o with slots:=sl }) (free:∀ b o,b∉ch→s.heap.get? b=some o→H b=none→H' b=none)
  (there:∀ b o,b∉ch→s.heap.get? b=some o→∃ o',h'.get? b=some o')
  (tups:∀ b xs,H b=some (.tup xs)→H' b=some (.tup xs)) (frzs:∀ b o u,H b=some (.frz o u)→H' b=some (.frz o u)) (tbls:∀ b ps,H b=some (.tbl ps)→∃ more,H' b=some (.tbl (ps++more)))
  (ns:∀ m,s.heap.Ns X.env.locals m→h'.Ns X.env.locals m) (hok:HOk X.prog X.w H' h') :
  Inv X pins σ H' { s with heap:=h',toks:=t' }:=by
 have neL:∀ b o,X.s₀.heap.get? b=some o→b≠X.env.locals:=fun b o e=>Nat.ne_of_lt (Nat.lt_of_lt_of_le (Heap.lt_size e) I.ok.above)
 have neC:∀ b o,X.s₀.heap.get? b=some o→b∉ch:=fun b o e hb=>by rw [(hch b hb).1] at e;cases e
 have cellK:∀ x c,X.env.cells.lookup x=some c→∀ v,s.heap.IsCell c v→h'.IsCell c v:=fun x c e v ⟨o,ho,hd⟩=>by
  have nch:c∉ch:=fun z=>(hch c z).2.2.1 x c e rfl
  by_cases hc:c∈X.fs
  ·obtain ⟨sl,q⟩:=slot c o (I.cne x c e) hc nch ho (I.freeC x c e)
   exact⟨_,q,hd⟩
  ·exact⟨o,keep c o (I.cne x c e) hc nch ho (I.freeC x c e),hd⟩
 refine⟨I.ok,I.os,I.bare,⟨fun b o e n hb hx=>?_,fun b o e n hb hx=>?_,fun b o e n hx=>?_,fun b o e hx=>?_,fun b xs e=>tups b xs (I.base.tups b xs e),fun b o xs e=>frzs b o xs (I.base.frzs b o xs e),fun b ps e=>?_⟩,?_,fun x c e=>?_,?_,fun x c e=>?_,fun p hp=>?_,hok,I.len⟩
 ·exact keep b o (neL b o e) hb (neC b o e) (I.base.keep b o e n hb hx) (I.base.free b o e n hx)
 ·obtain ⟨sl,e1⟩:=I.base.slot b o e n hb hx
  obtain ⟨sl',e2⟩:=slot b _ (neL b o e) hb (neC b o e) e1 (I.base.free b o e n hx)
  exact⟨sl',e2⟩
 ·obtain ⟨o',e1⟩:=I.base.there b o e hx
  exact free b o' (neC b o e) e1 (I.base.free b o e n hx)
 ·obtain ⟨o',e1⟩:=I.base.there b o e hx
  exact there b o' (neC b o e) e1
 ·obtain ⟨m1,e1⟩:=I.base.tbls b ps e
  obtain ⟨m2,e2⟩:=tbls b _ e1
  exact⟨m1++m2,by rw [e2,Array.append_assoc]⟩
 ·obtain ⟨m,hn,hl⟩:=I.loc
  refine⟨m,ns m hn,fun i x v e1 e2 e3=>?_⟩
  obtain ⟨u,r,l⟩:=hl i x v e1 e2 e3
  refine⟨u,r,?_⟩
  rcases l with l|⟨k,c,e,z⟩
  ·exact .inl l
  ·exact .inr ⟨k,c,e,cellK x c e _ z⟩
 ·obtain ⟨v,z⟩:=I.cell x c e
  exact⟨v,cellK x c e v z⟩
 ·obtain ⟨m,⟨o,_,_,ho,_⟩,_⟩:=I.loc
  exact free _ o (fun z=>(hch _ z).2.1 rfl) ho I.free
 ·obtain ⟨v,o,ho,hd⟩:=I.cell x c e
  exact free c o (fun z=>(hch c z).2.2.1 x c e rfl) ho (I.freeC x c e)
 ·obtain ⟨e,n,ne,nf,d⟩:=I.pin p hp
  have nch:p.1∉ch:=fun z=>(hch p.1 z).2.2.2 p hp rfl
  exact⟨keep p.1 p.2 ne nf nch e n,free p.1 p.2 nch e n,ne,nf,d⟩
end
end L2
namespace L2
open PySem PySem.Spec PyProof.Rows
section
variable {X:Cx}
theorem ps_setC {y:Str} {py spos:Pos} {k:Nat} {tg iter elt:Expr} {ifs:List Expr} {scope:Scope} {pos:Pos} {N:List Str} {ix:List (Option Nat)} {wi:TI} {g:TG} {tt:TT} {te:TE}
  (hN:X.N.Nodup) (hk0:X.N[k]?=some y) (hy:Loc X.env.scope y) (hc:X.calm=true) (hi:PI X tg iter wi)
  (hg:∀ pins C s H fp,PG (compCx X pins N scope C s H fp) tg g)
  (ht:∀ pins C s H fp,PTs (compCx X pins N scope C s H fp) ifs tt)
  (he:∀ pins C s H fp,PE (compCx X pins N scope C s H fp) elt te)
  (hk:scope.kind=.function) (hcell:∀ y∈scope.names,y.2≠.cell) (hnames:∀ y∈scope.names,y.2=.local→scope.names.lookup y.1=some .local)
  (hfr0:(scope.names.all fun y=>!(y.2 == NameKind.free) || (X.env.cells.lookup y.1).isSome)=true) (hix:IxOk X scope N ix)
  (hs:∀ x,foldedSetIterable iter X.env x=pure x:=by intro _;rfl)
  (hsw:swapsWith (.ListComp elt [⟨tg,iter,ifs,0⟩] scope pos) (some (.Name y py)) spos.line X.env=pure true:=by rfl)
  (hf:X.fn y=true∨X.env.scope.names.lookup y=some .local:=by first|exact .inl rfl|exact .inr rfl|assumption) :
  PS X (.Assign [.Name y py] (.ListComp elt [⟨tg,iter,ifs,0⟩] scope pos) spos) (tAsg (tComp ix wi g tt te) (gName k)):=by
 intro pins s σ H D I h
 replace h:wi σ H fun J H1=>CompGoal ix g tt te σ (fun x H1=>D.nx (σ.set k (some x)) H1) J H1:=h
 have hfr:∀ y∈scope.names,y.2=.free→(X.env.cells.lookup y.1).isSome=true:=fun y hy e=>by
  have z:=List.all_eq_true.mp hfr0 y hy
  rw [e] at z
  simpa using z
 have hfr':∀ p∈scope.names,p.2=.free→∃ c,X.env.cells.lookup p.1=some c:=fun p hp e=>Option.isSome_iff_exists.mp (hfr p hp e)
 have clsub:∀ x c,(clOf X.env.cells scope.names []).lookup x=some c→X.env.cells.lookup x=some c:=clOf_sub (fun x c q=>by simp at q)
 have clhas:∀ x,scope.names.lookup x=some .free→∃ c,(clOf X.env.cells scope.names []).lookup x=some c:=fun x hx=>by
  have hm:=PySem.mem_of_lookup hx
  exact Option.isSome_iff_exists.mp (clOf_has (.inr ⟨hm,hfr _ hm rfl⟩))
 rw [exec_Assign_Name_used _ _ _ _ hsw]
 refine wpAny_bind (wpAny_standAt (wpAny_bind ?_))
 show wpAny _ X.A (do let _ ← comprehension (.ListComp elt [⟨tg,iter,ifs,0⟩] scope pos) scope X.env _ (newList []) false (eval iter X.env) (some (assign (.Name y py) X.env))) _ _ s
 refine wpAny_bind (wpAny_mono (wpAny_comprehension_free (use:=some (assign (.Name y py) X.env)) (Q:=fun _ s'=>SP X pins D .next s') rfl hs (closure_eq hfr') hk hnames (thn (hi pins s σ H _ I h) fun v s1 h1=>thn h1 fun itv s2 h2=>?_)) (fun _ s' hq=>wpAny_pure (wpAny_pure hq)) fun _ _ e=>e)
 obtain ⟨it,fp,tn,J,H2,e,I2,T,st2,f2,hW⟩:=h2
 subst e
 have hfree2:H2 s2.heap.objs.size=none:=I2.hok.fresh (Nat.le_refl _)
 obtain ⟨W,⟨m0,w0⟩,turn⟩:=hW s2.heap.objs.size hfree2
 refine wpAny_newObj_type ?_
 have I3:Inv X pins σ (upd H2 s2.heap.objs.size (.lst [])) { s2 with heap:=s2.heap.push { cls:=.type "list",data:=.seq ([]:List Value).toArray } }:=I2.lnew (its:=[]) (t':=s2.toks) .nil (Nat.zero_le _)
 have f3:∀ b∈fp,FpOk X pins (upd H2 s2.heap.objs.size (.lst [])) b:=fun b hb=>by
  refine⟨?_,(f2 b hb).2⟩
  obtain ⟨o,eo,_⟩:=T.obj _ _ st2 b hb
  rw [upd_ne (Nat.ne_of_lt (Heap.lt_size eo))]
  exact (f2 b hb).1
 have st3:tn 0 (s2.heap.push { cls:=.type "list",data:=.seq ([]:List Value).toArray }):=T.keep _ _ _ st2 fun b _ o e=>Heap.get?_push_of_some _ e
 generalize hs3:({ s2 with heap:=s2.heap.push { cls:=.type "list",data:=.seq ([]:List Value).toArray } }:Shared)=s3 at I3
 have st3:tn 0 s3.heap:=by rw [← hs3];exact st3
 generalize hH3:upd H2 s2.heap.objs.size (.lst [])=H3 at I3 f3 w0
 generalize hacc:s2.heap.objs.size=acc at *
 refine wpAny_newFunctionEnv hcell (by intro y hy;simp at hy) (fun h₁ hns₁ hsb₁=>?_) hk
 have old:∀ b o,s3.heap.get? b=some o→h₁.get? b=some o:=fun b o q=>hsb₁.extBut b o (Nat.ne_of_lt (Heap.lt_size q)) (Heap.get?_push_of_some _ q)
 have hCfree:H3 s3.heap.objs.size=none:=I3.hok.fresh (Nat.le_refl _)
 have fpl:∀ b∈fp,b<s3.heap.objs.size:=fun b hb=>by
  obtain ⟨o,eo,_⟩:=T.obj _ _ st3 b hb
  exact Heap.lt_size eo
 have nstk:∀ b,b≠X.env.locals→b∉X.fs→b∉frs X.stack:=fun b h1 h2 z=>by
  rcases List.mem_cons.mp (I3.stkSub b z) with q|q
  ·exact h1 q
  ·exact h2 q
 have clt:∀ x c,X.env.cells.lookup x=some c→c<s3.heap.objs.size:=fun x c q=>by
  obtain ⟨v,z⟩:=I3.cell x c q
  exact z.lt
 have YI:∀ (h':Heap) (m:Str→Option Value),(∀ b o,s3.heap.get? b=some o→h'.get? b=some o)→h'.Ns s3.heap.objs.size m →
   Inv (compCx X pins N scope s3.heap.objs.size s3 H3 fp) [] (pick ix σ) H3 { s3 with heap:=h',toks:=s3.toks+([]:List (Str×Value)).length }:=by
  intro h' m hk' hn
  refine⟨⟨I3.ok.mod,hk,I3.ok.glob,I3.ok.blt,Nat.le_refl _,fun x y c q1 q2=>I3.ok.inj x y c (clsub x c q1) (clsub y c q2),fun x hx=>clhas x (relabel_not_local hcell hx),fun x c hf _=>absurd hf Bool.false_ne_true,
   I3.ok.hd,I3.ok.frames,.inl rfl,fun b hb=>⟨Nat.ne_of_lt (fpl b hb),fun x c q=>(f3 b hb).2.2.2.2.1 x c (clsub x c q)⟩,I3.bs,Nat.le_trans I3.ok.bsz I3.sz,fun b o e hb=>?_,fun b hb=>nstk b (f3 b hb).2.1 (f3 b hb).2.2.1,I3.stack,I3.stkFree⟩,
   rfl,I3.bare,Un.kept hk',⟨m,hn,fun i x v h1 h2 h3=>?_⟩,fun x c q=>?_,hCfree,fun x c q=>I3.freeC x c (clsub x c q),fun p hp=>?_,I3.hok.kept hk',?_⟩
  ·have q:=(I3.bs b o e).2
   rcases (f3 b hb).2.2.2.1 with z|z
   ·exact I3.ok.noex b o e z
   ·exact absurd (Nat.lt_of_lt_of_le (Heap.lt_size e) (Nat.le_trans I3.ok.bsz z)) (Nat.lt_irrefl _)
  ·obtain ⟨j,e1,e2⟩:=pick_get h2
   obtain ⟨a1,a2,a3,a4⟩:=hix.get h1 e1
   obtain ⟨mX,hnX,hlX⟩:=I3.loc
   obtain ⟨u,ru,l⟩:=hlX j x v a1 e2 a2
   refine⟨u,ru,?_⟩
   rcases l with ⟨l1,_⟩|⟨_,c,lc,z⟩
   ·have l1':X.env.scope.names.lookup x=some .local:=l1
    rw [l1'] at a3
    exact absurd a3 (by decide)
   ·obtain ⟨c',hc'⟩:=clhas x a4
    have ec:=clsub x c' hc'
    rw [lc] at ec
    have ec':c=c':=Option.some.inj ec
    subst ec'
    exact .inr ⟨relabel_free a4,c,hc',z.keeps hk'⟩
  ·obtain ⟨v,z⟩:=I3.cell x c (clsub x c q)
   exact⟨v,z.keeps hk'⟩
  ·have hp':p∈X.pn++pins:=by simpa using hp
   obtain ⟨a1,a2,a3,a4,a5⟩:=I3.pin p hp'
   exact⟨hk' _ _ a1,a2,Nat.ne_of_lt (Heap.lt_size a1),nstk p.1 a3 a4,a5⟩
  ·show (pick ix σ).length=N.length
   unfold pick
   rw [List.length_map]
   exact hix.len
 have fpY:∀ {pl:List (Addr×Obj)} {H':Hp},pl=[]→(∀ b∈fp,H' b=none)→∀ b∈fp,FpOk (compCx X pins N scope s3.heap.objs.size s3 H3 fp) pl H' b:=fun {pl H'} epl hn b hb=>by
  obtain ⟨f0,f1,f2',f3',f4,f5⟩:=f3 b hb
  subst epl
  exact⟨hn b hb,Nat.ne_of_lt (fpl b hb),nstk b f1 f2',.inl hb,fun x c q=>f4 x c (clsub x c q),fun p hp=>f5 p (by simpa using hp)⟩
 have loop:∀ s4:Shared,(∃ m,s4={ s3 with heap:=h₁,toks:=s3.toks+([]:List (Str×Value)).length }∧h₁.Ns s3.heap.objs.size m) →
   codeAny (model X.prog X.w) X.A (.compLoop (.ListComp elt [⟨tg,iter,ifs,0⟩] scope pos) 0 (.ref it) (.ref acc) (compEnvC scope (clOf X.env.cells scope.names []) s3.heap.objs.size X.env))
    (compPost (model X.prog X.w) X.A X.xe (some (assign (.Name y py) X.env)) (fun _ s'=>SP X pins D .next s') (.ref acc) s3.heap.objs.size) s4:=by
  rintro s4 ⟨m4,rfl,hn4⟩
  refine comp_loop (E:=fun _ _=>False) (fun _ _ z=>z.elim)
   (fun n s'=>∃ i σ' ys H',Inv (compCx X pins N scope s3.heap.objs.size s3 H3 fp) [] σ' H' s'∧tn i s'.heap∧(∀ b∈fp,H' b=none)∧W i n σ' ys H') ?_ m0
   ⟨0,pick ix σ,[],H3,YI h₁ m4 old hn4,T.keep _ _ _ st3 fun b _ o q=>old b o q,fun b hb=>(f3 b hb).1,w0⟩
  rintro n s5 ⟨i,σ5,ys,H5,I5,st5,fr5,w5⟩
  obtain ⟨hl5,hstep⟩:=turn i n σ5 ys H5 w5
  rcases hstep with ⟨stop,q⟩|⟨go,m',hm',step⟩
  ·refine thn (T.done (compCx X pins N scope s3.heap.objs.size s3 H3 fp) rfl rfl rfl hc i [] s5 σ5 H5 (fun _ _=>False) I5 (fpY rfl fr5) st5 stop) fun r s6 ⟨hr,I6⟩=>?_
   subst hr
   obtain ⟨m6,hn6,_⟩:=I6.loc
   have I6X:Inv X pins σ H5 s6:=I3.call' (ch:=fp) I6.os I6.base I6.hok I6.bare fun b hb=>by
    obtain ⟨f0,f1,f2',f3',f4,f5⟩:=f3 b hb
    exact⟨f3',f1,f4,f5⟩
   have neL:X.env.locals≠s3.heap.objs.size:=fun z=>by
    obtain ⟨m,⟨o,_,_,ho,_⟩,_⟩:=I3.loc
    exact Nat.lt_irrefl _ (z ▸ Heap.lt_size ho)
   have neCl:∀ x c,X.env.cells.lookup x=some c→c≠s3.heap.objs.size:=fun x c e=>Nat.ne_of_lt (clt x c e)
   refine wpAny_assign_Name (store_ok2 (u:=.ref acc) (v:=.ref acc) I6X hN hk0 hy rfl (fun s7 I7 ⟨a7,sb7,ha7⟩=>?_) hf)
   have na7:s3.heap.objs.size≠a7:=by
    rcases ha7 with z|z
    ·exact fun w=>neL (z ▸ w.symm)
    ·exact fun w=>neCl _ _ z w.symm
   refine⟨m6,hn6.sameBut sb7 na7,fun h' sb=>?_⟩
   refine⟨σ.set k (some (.ref acc)),H5,Inv.step2 (ch:=[s3.heap.objs.size]) I7 (fun b hb=>?_) (fun b o _ _ nb e _=>(sb.2 b (fun z=>nb (by rw [z];exact List.mem_singleton.mpr rfl))).trans e) (fun b o _ _ nb e _=>⟨o.slots,(sb.2 b (fun z=>nb (by rw [z];exact List.mem_singleton.mpr rfl))).trans e⟩)
    (fun _ _ _ _ e=>e) (fun b o nb e=>⟨o,(sb.2 b (fun z=>nb (by rw [z];exact List.mem_singleton.mpr rfl))).trans e⟩) (fun _ _ e=>e) (fun _ _ _ e=>e) (fun b ps e=>⟨#[],by simpa using e⟩) (fun m hm=>hm.sameBut sb neL) (I7.hok.letGo I6.free sb),q⟩
   have eb:b=s3.heap.objs.size:=List.mem_singleton.mp hb
   subst eb
   refine⟨?_,Ne.symm neL,neCl,fun p hp=>Nat.ne_of_lt (Heap.lt_size (I3.pin p hp).1)⟩
   cases q9:X.s₀.heap.get? s3.heap.objs.size with
   | none=>rfl
   | some o=>exact absurd (Nat.lt_of_lt_of_le (Heap.lt_size q9) I3.sz) (Nat.lt_irrefl _)
  ·refine thn (T.item (compCx X pins N scope s3.heap.objs.size s3 H3 fp) rfl rfl rfl hc i [] s5 σ5 H5 (fun _ _=>False) I5 (fpY rfl fr5) st5 go) fun r s6 ⟨u,hr,h6⟩=>?_
   subst hr
   refine thn h6 fun _ s7 ⟨x,H7,I7,r7,y7,st7,fr7⟩=>?_
   have I7':=I7.pinned (fpY rfl fr7) (T.obj _ _ st7)
   refine thn (hg pins s3.heap.objs.size s3 H3 fp _ s7 σ5 H7 x u _ I7' r7 (step x H7 y7)) fun _ s8 ⟨σ8,H8,I8,q8⟩=>?_
   refine thn (wp_tests (ht pins s3.heap.objs.size s3 H3 fp) I8 q8) fun b s9 ⟨H9,I9,q9⟩=>?_
   have back:∀ {σz:St} {Hz:Hp} {sz:Shared} {yz:List V},Inv (compCx X pins N scope s3.heap.objs.size s3 H3 fp) ([]++pinsAt fp s7.heap) σz Hz sz→W (i+1) m' σz yz Hz →
     ∃ m,m<n∧∃ i σ' ys H',Inv (compCx X pins N scope s3.heap.objs.size s3 H3 fp) [] σ' H' sz∧tn i sz.heap∧(∀ b∈fp,H' b=none)∧W i m σ' ys H':=fun {σz Hz sz yz} Iz wz=>by
    refine⟨m',hm',i+1,σz,yz,Hz,Iz.unpinned,T.keep _ _ _ st7 fun b hb o e=>(Iz.pin (b,o) (List.mem_append_right _ (List.mem_append_right _ (mem_pinsAt hb e)))).1,fun b hb=>?_,wz⟩
    obtain ⟨o,e,d⟩:=T.obj _ _ st7 b hb
    exact (Iz.pin (b,o) (List.mem_append_right _ (List.mem_append_right _ (mem_pinsAt hb e)))).2.1
   cases b with
   | false=>exact back I9 q9
   | true =>
    refine thn (he pins s3.heap.objs.size s3 H3 fp _ s9 σ8 H9 _ I9 q9) fun v s10 ⟨y,H10,I10,r10,hl10,hz10,w10⟩=>?_
    refine thn (mt_append _ s10 σ8 H10 (.ref acc) [y] (.ref acc) [v] (fun _ H'=>H'=upd H10 acc (.lst (ys++[y]))) I10 rfl (.cons r10 .nil) ⟨acc,ys,y,rfl,rfl,hl10,hz10,rfl⟩) fun _ s11 ⟨_,H11,I11,_,e11⟩=>?_
    subst e11
    exact back I11 w10
 have hn4:∃ m,h₁.Ns s3.heap.objs.size m:=⟨_,hns₁⟩
 obtain ⟨m4,hn4⟩:=hn4
 have L:=loop _ ⟨m4,rfl,hn4⟩
 exact codeAny_compStart_list L (T.self _ 0 _ _ _ (T.keep _ _ _ st3 fun b _ o q=>old b o q) L)
end
end L2
namespace L2
open PySem PySem.Spec PyProof.Rows
section
variable {K:PySem.W.Frag} {H:Hp} {Q:VK} {D:Ends} {σ:St}
theorem join {t:TS} {u:St→Hp→Prop} (P:St→Hp→Prop) (h1:∀ nx:St→Hp→Prop,(∀ σ' H',P σ' H'→nx σ' H')→t { D with nx:=nx } σ H) (h2:∀ σ' H',P σ' H'→u σ' H'):t { D with nx:=u } σ H:=h1 u h2
end
end L2
namespace L2
open PySem PySem.Spec PyProof.Rows
noncomputable def rAll (K:PySem.W.Frag):List V→Hp→VK→Prop:=fun xs H Q=>∃ (a:Addr) (bs:List Bool),xs=[.ref a]∧SqL K H a (bs.map V.bl)∧Q (.bl (bs.all id)) H
theorem range_allB (bs:List Bool):((List.range bs.length).all fun i=>(bs[i]?).getD true)=bs.all id:=by
 rw [Bool.eq_iff_iff,List.all_eq_true,List.all_eq_true]
 constructor
 ·intro h b hb
  obtain ⟨i,hi,rfl⟩:=List.getElem_of_mem hb
  have:=h i (List.mem_range.mpr hi)
  simpa [List.getElem?_eq_getElem hi] using this
 ·intro h i hi
  have hi':=List.mem_range.mp hi
  simpa [List.getElem?_eq_getElem hi'] using h _ (List.getElem_mem hi')
section
variable {X:Cx}
theorem call_allB (hc:X.calm=true):CallR X (.builtin "all") (rAll X.K):=by
 intro pins s σ H xs us Q I r h
 obtain ⟨a,bs,rfl,hs,q⟩:=h
 obtain ⟨u,rfl,ru⟩:=vals1 r
 cases ru
 obtain ⟨its,rv,p,_⟩:=I.list hs
 have hl:s.heap.IsList a its.toArray:=by
  obtain ⟨o,n,h1,h2,h3⟩:=p
  exact⟨o,h1,h2,n,h3.2⟩
 have hlt:a<s.heap.objs.size:=by obtain ⟨_,e,_⟩:=hl;exact Heap.lt_size e
 have hh:X.A.handled=none:=I.ok.hd hc
 refine call_all_walk (wpAny_pyIter_list hl ?_)
 refine⟨s.heap.objs.size,[s.heap.objs.size,a],[s.heap.objs.size],its.toArray.size,_,_,fun i=>(bs[i]?).getD true,rfl,Walks.list (A:=X.A.in1) hh _ a (Nat.ne_of_lt hlt) its.toArray,
  ⟨⟨_,Heap.get?_push_size _ rfl,rfl,rfl⟩,hl.push _⟩,fun i v s' Q' E' hP hQ=>?_,fun h' tk hk=>?_⟩
 ·have hP':its[i]?=some v:=by simpa using hP
  have hi:i<its.length:=(List.getElem?_eq_some_iff.mp hP').1
  have hb:i<bs.length:=by have:=rv.length;simp at this;lia
  obtain ⟨u1,e1,r1⟩:=rv.get (i:=i) (x:=.bl bs[i]) (by simp [hb])
  rw [hP'] at e1
  cases e1
  cases r1
  simp only [List.getElem?_eq_getElem hb,Option.getD_some] at hQ
  exact wpAny_truthy_bool hQ
 ·have e:((List.range its.toArray.size).all fun i=>(bs[i]?).getD true)=bs.all id:=by
   have:=rv.length
   simp at this
   rw [List.size_toArray,← this];exact range_allB bs
  rw [e]
  exact⟨.bl (bs.all id),H,I.kept (t':=tk) (fun b x e=>hk b x (fun hm=>by rw [List.mem_singleton.mp hm] at e;exact Nat.lt_irrefl _ (Heap.lt_size e)) (Heap.get?_push_of_some _ e)),rfl,q⟩
theorem kN_all (K:PySem.W.Frag) (hK:X.K=K) (hc:X.calm=true):CallR X (.builtin "all") (rAll K):=hK ▸ call_allB hc
end
section
variable {K:PySem.W.Frag} {H:Hp} {Q:VK} {σ:St}
theorem r_all {a:Addr} {bs:List Bool} (e:SqL K H a (bs.map V.bl)) (h:Q (.bl (bs.all id)) H):rAll K [.ref a] H Q:=⟨a,bs,rfl,e,h⟩
theorem r_gsub {to ti:TE} {t:TSet} {v:V} {R:St→Hp→Prop} (h:to σ H fun o H1=>ti σ H1 fun i H2=>t o i v H2 fun H3=>R σ H3):gSub to ti t v σ H R:=h
theorem r_setL {p:Addr} {xs:List V} {k:Int} {j:Nat} {v:V} {R:Hp→Prop} (e:H p=some (.lst xs)) (hj:ixN xs.length k=some j) (h:R (upd H p (.lst (xs.set j v)))):rSetL (.ref p) (.int k) v H R:=⟨p,xs,k,j,rfl,rfl,e,hj,h⟩
end
end L2
namespace L2
open PySem PySem.Spec PyProof.Rows
section
variable {X:Cx} {pins:List (Addr×Obj)} {σ:St} {H:Hp} {s:Shared}
theorem Inv.wrote {a:Addr} {o o':Obj} {h':Heap} {t':Nat} (I:Inv X (pins++[(a,o)]) σ H s) (h0:X.s₀.heap.get? a=none) (hc:∀ x c,X.env.cells.lookup x=some c→c≠a) (hp:∀ p∈X.pn++pins,p.1≠a)
  (sb:Heap.SameBut a s.heap h') (e:h'.get? a=some o') (d:∀ v,o'.data≠.cell v):Inv X (pins++[(a,o')]) σ H { s with heap:=h',toks:=t' }:=by
 obtain ⟨g1,g2,g3,g4,g5⟩:=I.pin (a,o) (List.mem_append_right _ (List.mem_append_right _ (List.mem_singleton.mpr rfl)))
 have I1:Inv X pins σ H s:=I.unpinned
 have nm:∀ {b:Addr},b∉[a]→b≠a:=fun nb z=>nb (List.mem_singleton.mpr z)
 have I2:Inv X pins σ H { s with heap:=h',toks:=t' }:=Inv.step2 (ch:=[a]) I1 (fun b hb=>by
   have eb:b=a:=List.mem_singleton.mp hb
   subst eb
   exact⟨h0,g3,hc,hp⟩) (fun b ob _ _ nb q _=>(sb.2 b (nm nb)).trans q) (fun b ob _ _ nb q _=>⟨ob.slots,(sb.2 b (nm nb)).trans q⟩)
   (fun _ _ _ _ q=>q) (fun b ob nb q=>⟨ob,(sb.2 b (nm nb)).trans q⟩) (fun _ _ q=>q) (fun _ _ _ q=>q) (fun b ps q=>⟨#[],by simpa using q⟩) (fun m hm=>hm.sameBut sb (Ne.symm g3)) (I1.hok.letGo g2 sb)
 exact I2.pins_of fun p hp=>(List.mem_append.mp hp).elim (fun z=>I2.pin p (List.mem_append_right _ z)) fun z=>by
  rw [List.mem_singleton.mp z]
  exact⟨e,g2,g3,g4,d⟩
end
end L2
namespace L2
open PySem PySem.Spec PyProof.Rows
section
variable {X:Cx} {pins:List (Addr×Obj)} {σ:St} {H:Hp} {s:Shared}
theorem top_pin {p:Addr×Obj} (I:Inv X (pins++[p]) σ H s):s.heap.get? p.1=some p.2:=(I.pin p (List.mem_append_right _ (List.mem_append_right _ (List.mem_singleton.mpr rfl)))).1
end
end L2
namespace L2
open PySem PySem.Spec PyProof.Rows
mutual
inductive Tell (K:PySem.W.Frag) (H:Hp):V→PyData→Prop where
 | non:Tell K H .non .none
 | bl (b:Bool):Tell K H (.bl b) (.bool b)
 | int (i:Int):Tell K H (.int i) (.int i)
 | str (x:Str):Tell K H (.str x) (.str x)
 | tup {a:Addr} {xs:List V} {ds:List PyData} (h:SqT K H a xs) (t:Tells K H xs ds):Tell K H (.ref a) (.tuple ds)
 | lst {a:Addr} {xs:List V} {ds:List PyData} (h:SqL K H a xs) (t:Tells K H xs ds):Tell K H (.ref a) (.list ds)
inductive Tells (K:PySem.W.Frag) (H:Hp):List V→List PyData→Prop where
 | nil:Tells K H [] []
 | cons {x:V} {d:PyData} {xs:List V} {ds:List PyData} (h:Tell K H x d) (t:Tells K H xs ds):Tells K H (x::xs) (d::ds)
end
section
variable {X:Cx} {pins:List (Addr×Obj)} {σ:St} {H:Hp} {s:Shared}
mutual
theorem Tell.reads (I:Inv X pins σ H s):∀ {v:V} {d:PyData} {u:Value},Tell X.K H v d→RelV v u→∃ as,Reads s.heap u d as
 | _,_,u,.non,r=>by cases (show u=Value.none from r);exact⟨_,.none⟩
 | _,_,u,.bl b,r=>by cases (show u=Value.bool b from r);exact⟨_,.bool b⟩
 | _,_,u,.int i,r=>by
  obtain ⟨t,q⟩:=(show ∃ t,u=Value.int i t from r)
  cases q
  exact⟨_,.int i t⟩
 | _,_,u,.str x,r=>by
  obtain ⟨t,q⟩:=(show ∃ t,u=Value.str x t from r)
  cases q
  exact⟨_,.str x t⟩
 | _,_,u,.tup (a:=a) h t,r=>by
  cases (show u=Value.ref a from r)
  obtain ⟨its,rv,p,_⟩:=I.tuple h
  obtain ⟨o,h1,h2,n,h3⟩:=p
  obtain ⟨as,ra⟩:=Tells.reads I t rv
  exact⟨_,reads_tuple_at h1 h2 h3 (by simpa using ra)⟩
 | _,_,u,.lst (a:=a) h t,r=>by
  cases (show u=Value.ref a from r)
  obtain ⟨its,rv,p,_⟩:=I.list h
  obtain ⟨o,n,h1,h2,h3⟩:=p
  obtain ⟨as,ra⟩:=Tells.reads I t rv
  exact⟨_,reads_list_at h1 h2 h3.2 (by simpa using ra)⟩
theorem Tells.reads (I:Inv X pins σ H s):∀ {vs:List V} {ds:List PyData} {us:List Value},Tells X.K H vs ds→Vals vs us→∃ as,ReadsAll s.heap us ds as
 | _,_,_,.nil,.nil=>⟨_,.nil⟩
 | _,_,_,.cons h t,.cons r rs=>by
  obtain ⟨as,ra⟩:=Tell.reads I h r
  obtain ⟨bs,rb⟩:=Tells.reads I t rs
  exact⟨_,.cons ra rb⟩
end
noncomputable def rEqD (K:PySem.W.Frag) (neg:Bool):R2:=fun x y H Q=>∃ d e,Tell K H x d∧Tell K H y e∧SeqAt.shaped d=true∧SeqAt.shaped e=true∧Q (.bl (if neg then !PyData.eqv d e else PyData.eqv d e)) H
theorem op_eqD (hu:X.A.units+64<cLine):OpR X (compareOp .Eq) (rEqD X.K false):=by
 intro pins s σ H x y v u Q I rx ry h
 obtain ⟨d,e,hd,he,sd,se,q⟩:=h
 obtain ⟨as,ra⟩:=hd.reads I rx
 obtain ⟨bs,rb⟩:=he.reads I ry
 exact eq_dataH ra rb sd se hu ⟨.bl (PyData.eqv d e),H,I,rfl,q⟩
theorem op_neD (hu:X.A.units+64<cLine):OpR X (compareOp .NotEq) (rEqD X.K true):=by
 intro pins s σ H x y v u Q I rx ry h
 obtain ⟨d,e,hd,he,sd,se,q⟩:=h
 obtain ⟨as,ra⟩:=hd.reads I rx
 obtain ⟨bs,rb⟩:=he.reads I ry
 exact ne_dataH ra rb sd se hu ⟨.bl (!PyData.eqv d e),H,I,rfl,q⟩
variable {K:PySem.W.Frag}
theorem kop_eqD (K:PySem.W.Frag) (hK:X.K=K) (hu:X.A.units+64<cLine):OpR X (compareOp .Eq) (rEqD K false):=hK ▸ op_eqD hu
theorem kop_neD (K:PySem.W.Frag) (hK:X.K=K) (hu:X.A.units+64<cLine):OpR X (compareOp .NotEq) (rEqD K true):=hK ▸ op_neD hu
end
section
variable {K:PySem.W.Frag} {H:Hp} {Q:VK}
theorem r_eqD {x y:V} {d e:PyData} (hd:Tell K H x d) (he:Tell K H y e) (sd:SeqAt.shaped d=true) (se:SeqAt.shaped e=true) (h:Q (.bl (PyData.eqv d e)) H):rEqD K false x y H Q:=⟨d,e,hd,he,sd,se,h⟩
theorem r_neD {x y:V} {d e:PyData} (hd:Tell K H x d) (he:Tell K H y e) (sd:SeqAt.shaped d=true) (se:SeqAt.shaped e=true) (h:Q (.bl (!PyData.eqv d e)) H):rEqD K true x y H Q:=⟨d,e,hd,he,sd,se,h⟩
noncomputable def Rows (K:PySem.W.Frag) (H:Hp) (xs:List V) (rs:List (List Int)):Prop:=Tells K H xs (rs.map fun r=>.tuple (r.map PyData.int))
theorem Tells.ints:∀ (r:List Int),Tells K H (r.map V.int) (r.map PyData.int)
 | []=>.nil
 | i::r=>.cons (.int i) (Tells.ints r)
theorem Tell.row {a:Addr} {r:List Int} (h:SqT K H a (r.map V.int)):Tell K H (.ref a) (.tuple (r.map PyData.int)):=.tup h (Tells.ints r)
end
end L2
namespace L2
open PySem PySem.Spec PyProof.Rows
section
variable {K:PySem.W.Frag} {g:TG} {D:Ends} {σ:St} {H:Hp}
theorem f_inv {J:It} {tb:TS} (n:Nat) (Pv:Nat→St→Hp→Prop) (h0:Pv 0 σ H) (hgo:∀ i σ H2,i<n→Pv i σ H2→J.go i H2) (hstop:∀ σ H2,Pv n σ H2→J.stop n H2)
  (hs:∀ i x σ H2 H3,i<n→Pv i σ H2→J.yld i H2 x H3→g x σ H3 fun σ2 H4=>tb { D with nx:=Pv (i+1),ct:=Pv (i+1),bk:=D.nx } σ2 H4) (hd:∀ σ H2,Pv n σ H2→D.nx σ H2):ForGoal g tb D J σ H:=by
 refine⟨fun i m σ2 H2=>m=n - i∧i≤n∧Pv i σ2 H2,⟨n,by simp,Nat.zero_le _,h0⟩,?_⟩
 rintro i m σ2 H2 ⟨rfl,hi,p⟩
 by_cases hlt:i<n
 ·exact .inr ⟨hgo i σ2 H2 hlt p,Pv (i+1),fun σ' H' p'=>⟨n - (i+1),by lia,rfl,hlt,p'⟩,fun x H' y=>hs i x σ2 H2 H' hlt p y⟩
 ·have e:i=n:=by lia
  subst e
  exact .inl ⟨hstop σ2 H2 p,hd σ2 H2 p⟩
theorem f_invR {lo:Int} {n:Nat} {tb:TS} (Pv:Nat→St→Hp→Prop) (h0:Pv 0 σ H) (hs:∀ i σ H2,i<n→Pv i σ H2→g (.int (lo+i)) σ H2 fun σ2 H4=>tb { D with nx:=Pv (i+1),ct:=Pv (i+1),bk:=D.nx } σ2 H4) (hd:∀ σ H2,Pv n σ H2→D.nx σ H2):ForGoal g tb D (Itr lo n) σ H:=by
 refine f_inv n Pv h0 (fun i σ H2 hi _=>hi) (fun σ H2 _=>Nat.le_refl _) (fun i x σ H2 H3 hi p y=>?_) hd
 obtain ⟨rfl,rfl⟩:=y
 exact hs i σ _ hi p
theorem f_invL {a:Addr} {xs:List V} {tb:TS} (Pv:Nat→St→Hp→Prop) (h0:Pv 0 σ H) (ha:∀ i σ H2,Pv i σ H2→SqL K H2 a xs) (hs:∀ i x σ H2,xs[i]?=some x→Pv i σ H2→g x σ H2 fun σ2 H4=>tb { D with nx:=Pv (i+1),ct:=Pv (i+1),bk:=D.nx } σ2 H4) (hd:∀ σ H2,Pv xs.length σ H2→D.nx σ H2):ForGoal g tb D (Itl K a) σ H:=by
 refine f_inv xs.length Pv h0 (fun i σ H2 hi p=>⟨xs,xs[i],ha i σ H2 p,List.getElem?_eq_getElem hi⟩) (fun σ H2 p=>⟨xs,ha _ σ H2 p,Nat.le_refl _⟩) (fun i x σ H2 H3 hi p y=>?_) hd
 obtain ⟨rfl,e⟩:=y
 exact hs i x σ _ (e xs (ha i σ _ p)) p
end
end L2
namespace L2
open PySem PySem.Spec PyProof.Rows
noncomputable def rSum (K:PySem.W.Frag):List V→Hp→VK→Prop:=fun xs H Q=>∃ (a:Addr) (ns:List Int),xs=[.ref a]∧SqL K H a (ns.map V.int)∧Q (.int ns.sum) H
noncomputable def rMaxL (K:PySem.W.Frag):List V→Hp→VK→Prop:=fun xs H Q=>∃ (a:Addr) (ns:List Int),xs=[.ref a]∧SqL K H a (ns.map V.int)∧ns≠[]∧∀ m,m∈ns→(∀ x∈ns,x≤m)→Q (.int m) H
section
variable {X:Cx}
theorem call_sumL (hc:X.calm=true):CallR X (.builtin "sum") (rSum X.K):=by
 intro pins s σ H xs us Q I r h
 obtain ⟨a,ns,rfl,hs,q⟩:=h
 obtain ⟨u,rfl,ru⟩:=vals1 r
 cases ru
 obtain ⟨its,rv,p,_⟩:=I.list hs
 have hl:s.heap.IsList a its.toArray:=by
  obtain ⟨o,n,h1,h2,h3⟩:=p
  exact⟨o,h1,h2,n,h3.2⟩
 have hh:X.A.handled=none:=I.ok.hd hc
 have hi:IntsAre its ns:=intsAre_of rv
 obtain ⟨zs,hx⟩:=hi.allInts.items
 have hn:numsOf its.toArray.toList=ns:=by rw [show its.toArray.toList=its from rfl,hi.numsOf]
 rw [hx] at hl hn
 rw [nums_intItems] at hn
 refine sum_intListG hh hl fun h' tk t' hk=>?_
 rw [preSum_eq,List.take_of_length_le (by simp),hn]
 exact⟨.int ns.sum,H,I.kept (t':=tk) hk,⟨t',rfl⟩,q⟩
theorem call_maxL (hc:X.calm=true):CallR X (.builtin "max") (rMaxL X.K):=by
 intro pins s σ H xs us Q I r h
 obtain ⟨a,ns,rfl,hs,hne,q⟩:=h
 obtain ⟨u,rfl,ru⟩:=vals1 r
 cases ru
 obtain ⟨its,rv,p,_⟩:=I.list hs
 have hl:s.heap.IsList a its.toArray:=by
  obtain ⟨o,n,h1,h2,h3⟩:=p
  exact⟨o,h1,h2,n,h3.2⟩
 have hh:X.A.handled=none:=I.ok.hd hc
 have hi:IntsAre its ns:=intsAre_of rv
 obtain ⟨zs,hx⟩:=hi.allInts.items
 have hn:numsOf its.toArray.toList=ns:=by rw [show its.toArray.toList=its from rfl,hi.numsOf]
 rw [hx] at hl hn
 rw [nums_intItems] at hn
 have hsz:0<zs.size:=by
  rcases Nat.eq_zero_or_pos zs.size with z|z
  ·exfalso;apply hne;rw [← hn];apply List.eq_nil_of_length_eq_zero;rw [List.length_map,Array.length_toList,z]
  ·exact z
 refine max_intList hh hl hsz fun v h' tk hv hk=>?_
 obtain ⟨t,rfl⟩:=intItems_at hv
 obtain ⟨h1,h2⟩:=argBest_gt (numAt zs) (zs.size - 1)
 refine⟨.int _,H,I.kept (t':=tk) hk,⟨t,rfl⟩,q _ ?_ fun b hb=>?_⟩
 ·rw [← hn,numAt_eq];exact getD_mem (by rw [List.length_map,Array.length_toList];lia)
 ·rw [← hn] at hb
  obtain ⟨j,hj,rfl⟩:=mem_getD hb
  rw [List.length_map,Array.length_toList] at hj
  rw [← numAt_eq];exact h2 j (by lia)
theorem kN_sum (K:PySem.W.Frag) (hK:X.K=K) (hc:X.calm=true):CallR X (.builtin "sum") (rSum K):=hK ▸ call_sumL hc
theorem kN_maxL (K:PySem.W.Frag) (hK:X.K=K) (hc:X.calm=true):CallR X (.builtin "max") (rMaxL K):=hK ▸ call_maxL hc
end
section
variable {K:PySem.W.Frag} {H:Hp} {Q:VK} {σ:St} {ix:List (Option Nat)}
theorem r_sum {a:Addr} {ns:List Int} (e:SqL K H a (ns.map V.int)) (h:Q (.int ns.sum) H):rSum K [.ref a] H Q:=⟨a,ns,rfl,e,h⟩
theorem r_maxL {a:Addr} {ns:List Int} (e:SqL K H a (ns.map V.int)) (n:ns≠[]) (h:∀ m,m∈ns→(∀ x∈ns,x≤m)→Q (.int m) H):rMaxL K [.ref a] H Q:=⟨a,ns,rfl,e,n,h⟩
theorem rd_zipM {k1 k2:Bool} {a b:Addr} {r q:List Int} (hpk:pick ix σ=[none,none]) (ha:Sq k1 K H a (r.map V.int)) (hb:Sq k2 K H b (q.map V.int)) (hlen:r.length=q.length) (hn:r.length≤1000) (hm:∀ i,i<r.length→CMulB (r.getD i 0) (q.getD i 0))
  (hQ:∀ l H',H l=none→Same H H'→H' l=some (.lst ((List.zipWith (·*·) r q).map V.int))→Q (.ref l) H') :
  CompGoal ix (gTup K 2 (gCons (gName 0) (gCons (gName 1) gNil))) (fun _ H Q=>Q true H) (tOp (rI CMulB fun i j=>.int (i*j)) (tVar 0) (tVar 1)) σ Q (Itz K k1 k2 a b) H:=by
 refine rd_compZ (k1:=k1) (k2:=k2) [] (fun i=>.int (r.getD i 0*q.getD i 0)) hpk ha hb (by simpa using hlen) (by rw [List.length_map];lia) (fun i x y H' Qc ex ey hs kc=>?_) fun l H' hl hs hl'=>hQ l H' hl hs ?_
 ·obtain ⟨rfl,hi⟩:=int_get (r:=r) ex
  obtain ⟨rfl,_⟩:=int_get (r:=q) ey
  exact⟨_,rfl,_,rfl,_,_,rfl,rfl,hm i hi,kc _ (Same.refl _)⟩
 ·rw [hl']
  congr 2
  apply List.ext_getElem (by simp [hlen])
  intro i h1 h2
  have h3:i<r.length:=by simpa using h1
  have h4:i<q.length:=by lia
  simp [List.getD,h3,h4]
end
end L2
namespace L2
open PySem PySem.Spec PyProof.Rows
inductive RowsL (K:PySem.W.Frag) (H:Hp):List V→List (List Int)→Prop where
 | nil:RowsL K H [] []
 | cons {a:Addr} {r:List Int} {xs:List V} {rs:List (List Int)} (h:SqT K H a (r.map V.int)) (t:RowsL K H xs rs):RowsL K H (.ref a::xs) (r::rs)
namespace RowsL
variable {K:PySem.W.Frag} {H H':Hp}
theorem length:∀ {xs:List V} {rs:List (List Int)},RowsL K H xs rs→rs.length=xs.length
 | _,_,.nil=>rfl
 | _,_,.cons _ t=>by rw [List.length_cons,List.length_cons,t.length]
theorem get:∀ {xs:List V} {rs:List (List Int)} {i:Nat} {x:V},RowsL K H xs rs→xs[i]?=some x→∃ a r,x=.ref a∧SqT K H a (r.map V.int)∧rs[i]?=some r
 | _,_,_,_,.nil,h=>by simp at h
 | _,_,0,_,.cons (a:=a) (r:=r) h _,e=>by
  simp at e
  exact⟨a,r,e.symm,h,rfl⟩
 | _,_,i+1,_,.cons _ t,e=>by
  obtain ⟨a,r,h1,h2,h3⟩:=get (i:=i) t (by simpa using e)
  exact⟨a,r,h1,h2,by simpa using h3⟩
theorem row:∀ {xs:List V} {rs:List (List Int)} {i:Nat} {r:List Int},RowsL K H xs rs→rs[i]?=some r→∃ a,xs[i]?=some (.ref a)∧SqT K H a (r.map V.int)
 | _,_,_,_,.nil,h=>by simp at h
 | _,_,0,_,.cons (a:=a) (r:=r) h _,e=>by
  simp at e
  subst e
  exact⟨a,rfl,h⟩
 | _,_,i+1,_,.cons _ t,e=>by
  obtain ⟨a,h1,h2⟩:=row (i:=i) t (by simpa using e)
  exact⟨a,by simpa using h1,h2⟩
theorem same:∀ {xs:List V} {rs:List (List Int)},RowsL K H xs rs→Same H H'→RowsL K H' xs rs
 | _,_,.nil,_=>.nil
 | _,_,.cons h t,s=>.cons (s.at h) (t.same s)
theorem append:∀ {xs ys:List V} {rs qs:List (List Int)},RowsL K H xs rs→RowsL K H ys qs→RowsL K H (xs++ys) (rs++qs)
 | _,_,_,_,.nil,u=>u
 | _,_,_,_,.cons h t,u=>.cons h (t.append u)
theorem snoc {xs:List V} {rs:List (List Int)} {a:Addr} {r:List Int} (t:RowsL K H xs rs) (h:SqT K H a (r.map V.int)):RowsL K H (xs++[.ref a]) (rs++[r]):=t.append (.cons h .nil)
theorem off {l:Addr} {ys zs:List V}:∀ {xs:List V} {rs:List (List Int)},RowsL K H xs rs→H l=some (.lst ys)→RowsL K (upd H l (.lst zs)) xs rs
 | _,_,.nil,_=>.nil
 | _,_,.cons h t,e=>.cons ((rm_sqT h e).imp (fun q=>q.imp (fun q=>by rw [upd_ne (fun z=>by rw [z,rm_at] at q;cases q)];exact rm_same _ _ q) fun ⟨o,q⟩=>⟨o,by rw [upd_ne (fun z=>by rw [z,rm_at] at q;cases q)];exact rm_same _ _ q⟩) id) (t.off e)
theorem take:∀ {xs:List V} {rs:List (List Int)} (n:Nat),RowsL K H xs rs→RowsL K H (xs.take n) (rs.take n)
 | _,_,0,_=>.nil
 | _,_,_+1,.nil=>.nil
 | _,_,n+1,.cons h t=>.cons h (t.take n)
theorem drop:∀ {xs:List V} {rs:List (List Int)} (n:Nat),RowsL K H xs rs→RowsL K H (xs.drop n) (rs.drop n)
 | _,_,0,t=>t
 | _,_,_+1,.nil=>.nil
 | _,_,n+1,.cons _ t=>t.drop n
theorem tells:∀ {xs:List V} {rs:List (List Int)},RowsL K H xs rs→Tells K H xs (rs.map fun r=>.tuple (r.map PyData.int))
 | _,_,.nil=>.nil
 | _,_,.cons h t=>.cons (Tell.row h) t.tells
end RowsL
theorem upd_sqT {K:PySem.W.Frag} {H:Hp} {l a:Addr} {xs ys zs:List V} (h:SqT K H a xs) (e:H l=some (.lst ys)):SqT K (upd H l (.lst zs)) a xs :=
 (rm_sqT h e).imp (fun q=>q.imp (fun q=>by rw [upd_ne (fun z=>by rw [z,rm_at] at q;cases q)];exact rm_same _ _ q) fun ⟨o,q⟩=>⟨o,by rw [upd_ne (fun z=>by rw [z,rm_at] at q;cases q)];exact rm_same _ _ q⟩) id
section
variable {K:PySem.W.Frag} {H:Hp} {σ:St} {Q:VK} {ix:List (Option Nat)}
theorem comp_rows {J:It} {g:TG} {tt:TT} {te:TE} (t:Nat) (fr:St) (n:Nat) (rs:Nat→List (List Int)) (hpk:pick ix σ=List.replicate t none++fr) (h0:rs 0=[]) (hn:∀ i,(rs i).length≤1000)
  (hstop:∀ H',Same H H'→J.stop n H') (hgo:∀ i H',i<n→Same H H'→J.go i H')
  (step:∀ i x H' H2 own,own.length=t→i<n→Same H H'→J.yld i H' x H2→∀ (Qy:St→VK) (Qn:St→Hp→Prop),
   (∀ own2 a r H5,own2.length=t→Same H' H5→SqT K H5 a (r.map V.int)→rs (i+1)=rs i++[r]→Qy (own2++fr) (.ref a) H5)→(∀ own2 H4,own2.length=t→Same H' H4→rs (i+1)=rs i→Qn (own2++fr) H4) →
   g x (own++fr) H2 fun σ2 H3=>tt σ2 H3 fun b H4=>if b=true then te σ2 H4 (Qy σ2) else Qn σ2 H4)
  (hQ:∀ l H' ys,H l=none→Same H H'→H' l=some (.lst ys)→RowsL K H' ys (rs n)→Q (.ref l) H'):CompGoal ix g tt te σ Q J H:=by
 intro l hl
 refine⟨fun i m σ1 ys H'=>m=n - i∧i≤n∧(∃ own:St,own.length=t∧σ1=own++fr)∧Same H H'∧H' l=some (.lst ys)∧RowsL K H' ys (rs i),⟨n,by simp,Nat.zero_le _,⟨_,List.length_replicate,hpk⟩,Same.upd_new hl,upd_same,by rw [h0];exact .nil⟩,?_⟩
 rintro i m σ1 ys H' ⟨rfl,hi,⟨own,ho,rfl⟩,hs,hl',hr⟩
 refine⟨hl',?_⟩
 by_cases hlt:i<n
 ·refine .inr ⟨hgo i H' hlt hs,n - (i+1),by lia,fun x H2 hy=>step i x H' H2 own ho hlt hs hy _ _ (fun own2 a r H5 ho2 s5 ha er=>?_) fun own2 H4 ho2 s4 er=>?_⟩
  ·have l5:=s5 _ _ hl'
   refine⟨l5,Nat.lt_of_le_of_lt (by rw [← hr.length];exact hn i) (small1000 (Nat.le_refl 1000)),rfl,hlt,⟨own2,ho2,rfl⟩,fun b o e=>?_,upd_same,?_⟩
   ·rw [upd_ne (ne_of_none e hl)]
    exact s5 _ _ (hs _ _ e)
   ·rw [er]
    exact ((hr.same s5).off l5).snoc (upd_sqT ha l5)
  ·exact⟨rfl,hlt,⟨own2,ho2,rfl⟩,hs.trans s4,s4 _ _ hl',by rw [er];exact hr.same s4⟩
 ·obtain rfl:i=n:=by lia
  exact .inl ⟨hstop H' hs,hQ l H' ys hl hs hl' hr⟩
end
end L2
namespace L2
open PySem PySem.Spec PyProof.Rows PySem.W
noncomputable def ExcM (h:Heap) (H:Hp) (h0:Heap) (ps:List (Addr×Obj)) (L a C:Addr):Prop:=∃ oe vs T oT ts,h.get? a=some oe∧oe.cls=.ref C∧oe.dict=none∧oe.data=.fields vs∧1<vs.size∧vs[1]?=some (.ref T)∧T≠a∧h.get? T=some oT∧oT.data=.fields ts∧ts[3]?=some (rawInt L) ∧
 H a=none∧(h0.get? a=none∧∀ p∈ps,p.1≠a)∧H T=none∧h0.get? T=none∧∀ p∈ps,p.1≠T
noncomputable def XM (X:Cx) (EX:EXT):Value→Shared→Prop:=fun e s'=>∃ a C σ' H',e=.ref a∧Inv X.nox [] σ' H' s'∧ExcM s'.heap H' X.s₀.heap X.pn X.env.locals a C∧EX C σ' H'
noncomputable def XP (X:Cx) (EX:EXT):Value→Shared→Prop:=fun e s'=>XW X EX e s'∨XM X EX e s'
end L2
set_option maxRecDepth 100000
namespace L2
open PySem PySem.Spec PyProof.Rows
section
variable {K:PySem.W.Frag} {H:Hp} {Q:VK} {σ:St}
theorem cutV_hi {xs:List V} {j:Nat}:cutV xs none (some (j:Int))=xs.take j:=by
 unfold cutV
 rw [HT.sIx_none,HT.sIx_nat,Nat.sub_zero,List.drop_zero]
 by_cases h:j≤xs.length
 ·rw [Nat.min_eq_left h]
 ·rw [Nat.min_eq_right (by lia),List.take_of_length_le (by lia),List.take_of_length_le (by lia)]
theorem cutV_lo {xs:List V} {j:Nat}:cutV xs (some (j:Int)) none=xs.drop j:=by
 unfold cutV
 rw [HT.sIx_none,HT.sIx_nat]
 by_cases h:j≤xs.length
 ·rw [Nat.min_eq_left h,List.take_of_length_le (by rw [List.length_drop];lia)]
 ·rw [Nat.min_eq_right (by lia),Nat.sub_self,List.take_zero,List.drop_of_length_le (by lia)]
theorem r_slHi {a:Addr} {xs:List V} {j:Nat} (e:SqL K H a xs) (h:∀ p H2,H p=none→Same H H2→H2 p=some (.lst (xs.take j))→Q (.ref p) H2):rSlL K (.ref a) none (some (j:Int)) H Q :=
 r_slL e fun p H2 n s m=>h p H2 n s (by rw [cutV_hi] at m;exact m)
theorem r_slLo {a:Addr} {xs:List V} {j:Nat} (e:SqL K H a xs) (h:∀ p H2,H p=none→Same H H2→H2 p=some (.lst (xs.drop j))→Q (.ref p) H2):rSlL K (.ref a) (some (j:Int)) none H Q :=
 r_slL e fun p H2 n s m=>h p H2 n s (by rw [cutV_lo] at m;exact m)
theorem eqv_ints:∀ (r q:List Int),PyData.eqvAll (r.map PyData.int) (q.map PyData.int)=decide (r=q)
 | [],[]=>rfl
 | [],_::_=>rfl
 | _::_,[]=>rfl
 | x::r,y::q=>by
  have h:=eqv_ints r q
  simp only [List.map_cons,PyData.eqvAll,h,PyData.eqv]
  by_cases e:x=y
  ·subst e;by_cases e2:r=q <;> simp [e2]
  ·simp [e]
theorem eqv_row (r q:List Int):PyData.eqv (.tuple (r.map PyData.int)) (.tuple (q.map PyData.int))=decide (r=q):=by
 rw [← eqv_ints r q]
 simp [PyData.eqv]
theorem eqv_rows:∀ (rs qs:List (List Int)),PyData.eqvAll (rs.map fun r=>.tuple (r.map PyData.int)) (qs.map fun r=>.tuple (r.map PyData.int))=decide (rs=qs)
 | [],[]=>rfl
 | [],_::_=>rfl
 | _::_,[]=>rfl
 | x::r,y::q=>by
  have h:=eqv_rows r q
  simp only [List.map_cons,PyData.eqvAll,h,eqv_row]
  by_cases e:x=y
  ·subst e;by_cases e2:r=q <;> simp [e2]
  ·simp [e]
theorem eqv_listR (rs qs:List (List Int)):PyData.eqv (.list (rs.map fun r=>.tuple (r.map PyData.int))) (.list (qs.map fun r=>.tuple (r.map PyData.int)))=decide (rs=qs):=by
 rw [← eqv_rows rs qs]
 simp [PyData.eqv]
theorem lay_ints:∀ r:List Int,PyData.canLayAll0 (r.map PyData.int)=true
 | []=>rfl
 | _::r=>by simp only [List.map_cons,PyData.canLayAll0,lay_ints r,PyData.canLay0,Bool.and_self]
theorem lay_row (r:List Int):PyData.canLay0 (.tuple (r.map PyData.int))=true:=by simp only [PyData.canLay0,lay_ints]
theorem lay_rows:∀ rs:List (List Int),PyData.canLayAll0 (rs.map fun r=>.tuple (r.map PyData.int))=true
 | []=>rfl
 | r::rs=>by simp only [List.map_cons,PyData.canLayAll0,lay_rows rs,lay_row,Bool.and_self]
theorem deep_ints:∀ r:List Int,PyData.depthAll (r.map PyData.int)≤1
 | []=>by simp [PyData.depthAll]
 | _::r=>by
  have:=deep_ints r
  simp only [List.map_cons,PyData.depthAll,PyData.depth]
  lia
theorem deep_row (r:List Int):PyData.depth (.tuple (r.map PyData.int))≤2:=by
 have:=deep_ints r
 simp only [PyData.depth]
 lia
theorem deep_rows:∀ rs:List (List Int),PyData.depthAll (rs.map fun r=>.tuple (r.map PyData.int))≤2
 | []=>by simp [PyData.depthAll]
 | r::rs=>by
  have:=deep_rows rs
  have:=deep_row r
  simp only [List.map_cons,PyData.depthAll]
  lia
theorem shaped_row (r:List Int):SeqAt.shaped (.tuple (r.map PyData.int))=true:=by
 unfold SeqAt.shaped
 rw [lay_row,decide_eq_true (Nat.le_trans (deep_row r) (by decide))];rfl
theorem shaped_rows (rs:List (List Int)):SeqAt.shaped (.list (rs.map fun r=>.tuple (r.map PyData.int)))=true:=by
 unfold SeqAt.shaped
 have h:PyData.canLay0 (.list (rs.map fun r=>PyData.tuple (r.map PyData.int)))=true:=by simp only [PyData.canLay0,lay_rows]
 have d:PyData.depth (.list (rs.map fun r=>PyData.tuple (r.map PyData.int)))≤64:=by
  have:=deep_rows rs
  simp only [PyData.depth]
  lia
 rw [h,decide_eq_true d];rfl
end
end L2
set_option maxRecDepth 100000
set_option maxRecDepth 100000
namespace L2
open PySem PySem.Spec PyProof.Rows
section
variable {κ:Type} [DecidableEq κ]
noncomputable def valV (kvs:List (κ×V)) (k:κ):Option V:=(kvs.find? fun kv=>decide (kv.1=k)).map (·.2)
noncomputable def putK (kvs:List (κ×V)) (k:κ) (v:V):List (κ×V) :=
 if (kvs.any fun kv=>decide (kv.1=k))=true then kvs.map (fun kv=>if kv.1=k then (kv.1,v) else kv) else kvs++[(k,v)]
theorem valV_pos {p:κ×V} {r:List (κ×V)} {k:κ} (e:p.1=k):valV (p::r) k=some p.2:=by simp [valV,List.find?_cons,e]
theorem valV_neg {p:κ×V} {r:List (κ×V)} {k:κ} (e:¬ p.1=k):valV (p::r) k=valV r k:=by simp [valV,List.find?_cons,e]
theorem valV_any (k:κ):∀ kvs:List (κ×V),(kvs.any fun kv=>decide (kv.1=k))=(valV kvs k).isSome
 | []=>rfl
 | p::r=>by
  rw [List.any_cons]
  by_cases e:p.1=k
  ·simp only [valV_pos e,decide_eq_true e,Bool.true_or,Option.isSome_some]
  ·rw [valV_neg e,decide_eq_false e,Bool.false_or];exact valV_any k r
theorem length_putK (kvs:List (κ×V)) (k:κ) (v:V):(putK kvs k v).length≤kvs.length+1:=by
 unfold putK
 split
 ·rw [List.length_map];lia
 ·rw [List.length_append,List.length_cons,List.length_nil];lia
theorem RelO.isSome_eq {o:Option V} {u:Option Value} (r:RelO o u):o.isSome=u.isSome:=by
 cases o with
 | none=>cases u with
  | none=>rfl
  | some _=>exact (show False from r).elim
 | some _=>cases u with
  | none=>exact (show False from r).elim
  | some _=>rfl
theorem KV.val {kvs:List (κ×V)} {vs:List (κ×Value)} (r:KV kvs vs) (k:κ):RelO (valV kvs k) (valueAt vs k):=by
 unfold KV at r
 induction r with
 | nil=>exact True.intro
 | @cons p q ps qs h t ih =>
  obtain ⟨h1,h2⟩:=h
  by_cases e:p.1=k
  ·have e':q.1=k:=h1.symm.trans e
   have b:valueAt (q::qs) k=some q.2:=by simp [valueAt,List.find?_cons,e']
   rw [valV_pos e,b];exact h2
  ·have e':¬ q.1=k:=fun z=>e (h1.trans z)
   have b:valueAt (q::qs) k=valueAt qs k:=by simp [valueAt,List.find?_cons,e']
   rw [valV_neg e,b];exact ih
theorem KV.any {kvs:List (κ×V)} {vs:List (κ×Value)} (r:KV kvs vs) (k:κ):(kvs.any fun kv=>decide (kv.1=k))=vs.any fun kv=>decide (kv.1=k):=by
 unfold KV at r
 induction r with
 | nil=>rfl
 | cons h t ih=>rw [List.any_cons,List.any_cons,ih,h.1]
theorem KV.repl {kvs:List (κ×V)} {vs:List (κ×Value)} (r:KV kvs vs) (k:κ) {y:V} {u:Value} (ry:RelV y u) :
  KV (kvs.map fun kv=>if kv.1=k then (kv.1,y) else kv) (vs.map fun kv=>if kv.1=k then (kv.1,u) else kv):=by
 unfold KV at r ⊢
 induction r with
 | nil=>exact .nil
 | @cons p q ps qs h t ih =>
  rw [List.map_cons,List.map_cons]
  refine .cons ?_ ih
  obtain ⟨h1,h2⟩:=h
  by_cases e:p.1=k
  ·rw [if_pos e,if_pos (h1.symm.trans e)];exact⟨h1,ry⟩
  ·rw [if_neg e,if_neg (fun z=>e (h1.trans z))];exact⟨h1,h2⟩
theorem KV.put {kvs:List (κ×V)} {vs:List (κ×Value)} (r:KV kvs vs) (k:κ) {y:V} {u:Value} (ry:RelV y u):KV (putK kvs k y) (stored vs k u):=by
 unfold putK stored
 rw [r.any k]
 by_cases e:(vs.any fun kv=>decide (kv.1=k))=true
 ·rw [if_pos e,if_pos e];exact r.repl k ry
 ·rw [if_neg e,if_neg e];exact Paired.snoc r ⟨rfl,ry⟩
theorem KV.length {kvs:List (κ×V)} {vs:List (κ×Value)} (r:KV kvs vs):kvs.length=vs.length:=Paired.length r
end
theorem kV_is {P:Program} {w:World} {k:Key} {u:Value} (r:RelV (kV k) u):(mixKind P w).is k u=true:=by
 cases k with
 | inl i=>obtain ⟨t,e⟩:=(show ∃ t,u=Value.int i t from r);subst e;exact mixKind_int P w i t
 | inr x=>obtain ⟨t,e⟩:=(show ∃ t,u=Value.str x t from r);subst e;exact mixKind_str P w x t
theorem items_are {P:Program} {w:World}:∀ {ks:List Key} {us:List Value},Vals (ks.map kV) us→ItemsAre (mixKind P w) ks us
 | [],_,r=>by rw [List.map_nil] at r;cases r;exact .nil
 | k::ks,_,r=>by
  rw [List.map_cons] at r
  cases r with
  | cons h t=>exact .cons (kV_is h) (items_are t)
noncomputable abbrev KT (H:Hp):List (List Key×V)→List (List Key×Addr×Value)→Prop:=Paired fun p q=>p.1=q.1∧H q.2.1=some (.tup (p.1.map kV))∧RelV p.2 q.2.2
theorem KT.val {H:Hp} {kvs:List (List Key×V)} {xs:List (List Key×Addr×Value)} (r:KT H kvs xs) (k:List Key):RelO (valV kvs k) ((atKey xs k).map (·.2)):=by
 induction r with
 | nil=>exact True.intro
 | @cons p q ps qs h t ih =>
  obtain ⟨h1,_,h2⟩:=h
  by_cases e:p.1=k
  ·have e':q.1=k:=h1.symm.trans e
   have b:atKey (q::qs) k=some q.2:=by simp [atKey,List.find?_cons,e']
   rw [valV_pos e,b];exact h2
  ·have e':¬ q.1=k:=fun z=>e (h1.trans z)
   have b:atKey (q::qs) k=atKey qs k:=by simp [atKey,List.find?_cons,e']
   rw [valV_neg e,b];exact ih
theorem KT.repl {H:Hp} {kvs:List (List Key×V)} {xs:List (List Key×Addr×Value)} (r:KT H kvs xs) (k:List Key) {y:V} {u:Value} (ry:RelV y u) :
  KT H (kvs.map fun kv=>if kv.1=k then (kv.1,y) else kv) (xs.map (putAt k u)):=by
 induction r with
 | nil=>exact .nil
 | @cons p q ps qs h t ih =>
  rw [List.map_cons,List.map_cons]
  refine .cons ?_ ih
  obtain ⟨h1,h2,h3⟩:=h
  unfold putAt
  by_cases e:p.1=k
  ·rw [if_pos e,if_pos (h1.symm.trans e)];exact⟨h1,h2,ry⟩
  ·rw [if_neg e,if_neg (fun z=>e (h1.trans z))];exact⟨h1,h2,h3⟩
theorem KT.put {H:Hp} {kvs:List (List Key×V)} {xs:List (List Key×Addr×Value)} (r:KT H kvs xs) (k:List Key) {b:Addr} {y:V} {u:Value} (hb:H b=some (.tup (k.map kV))) (ry:RelV y u) :
  KT H (putK kvs k y) (storedH xs k b u):=by
 have e:(kvs.any fun kv=>decide (kv.1=k))=(atKey xs k).isSome:=by
  rw [valV_any,(r.val k).isSome_eq,Option.isSome_map]
 unfold putK storedH
 rw [e]
 by_cases q:(atKey xs k).isSome=true
 ·rw [if_pos q,if_pos q];exact r.repl k ry
 ·rw [if_neg q,if_neg q];exact Paired.snoc r ⟨rfl,hb,ry⟩
theorem KT.keeps {H H':Hp} {kvs:List (List Key×V)} {xs:List (List Key×Addr×Value)} (r:KT H kvs xs) (ht:∀ b ys,H b=some (.tup ys)→H' b=some (.tup ys)):KT H' kvs xs :=
 Paired.mapP r fun _ _ z=>⟨z.1,ht _ _ z.2.1,z.2.2⟩
section
variable {P:Program} {w:World} {H:Hp} {h:Heap} {a:Addr}
theorem rd_of {u:HO} (ok:HOk P w H h) (e:Rd H a u):ObjOk P w H h a u:=e.ok ok
theorem dk_rd {kvs:List (Key×V)} (ok:HOk P w H h) (e:Rd H a (.dK kvs)):kvs.length≤sizeLine∧(a == sysModules)=false∧∃ vs,KV kvs vs∧h.DictOf (mixKind P w) a vs :=
 show ObjOk P w H h a (.dK kvs) from rd_of ok e
theorem dk_of {kvs:List (Key×V)} (ok:HOk P w H h) (e:H a=some (.dK kvs)):kvs.length≤sizeLine∧(a == sysModules)=false∧∃ vs,KV kvs vs∧h.DictOf (mixKind P w) a vs:=dk_rd ok (.inl e)
theorem key_of {ks:List Key} (ok:HOk P w H h) (e:H a=some (.tup (ks.map kV))):(tupleKind (mixKind P w)).is h ks a:=by
 obtain ⟨_,its,r,o,h1,h2,n,h3⟩:=(show ObjOk P w H h a (.tup (ks.map kV)) from ok a _ e)
 exact⟨o,its.toArray,n,h1,h2,h3,by simpa using items_are r⟩
theorem dt_rd {kvs:List (List Key×V)} (ok:HOk P w H h) (e:Rd H a (.dT kvs)):kvs.length≤sizeLine∧(a == sysModules)=false ∧
  ∃ xs,KT H kvs xs∧h.DictOfH (tupleKind (mixKind P w)) a xs:=by
 obtain ⟨z,y,xs,r,o,es,ep,h1,h2,h3,h4,h5⟩:=(show ObjOk P w H h a (.dT kvs) from rd_of ok e)
 refine⟨z,y,xs,r,o,es,ep,h1,h2,h3,h4,fun x hx=>?_,h5⟩
 have all:∀ {l:List (List Key×V)} {m:List (List Key×Addr×Value)},KT H l m→∀ x∈m,(tupleKind (mixKind P w)).is h x.1 x.2.1:=by
  intro l m q
  induction q with
  | nil=>intro x hx;exact nomatch hx
  | @cons p q ps qs hq t ih =>
   intro x hx
   rcases List.mem_cons.mp hx with e|hx
   ·subst e
    exact key_of ok (by rw [← hq.1];exact hq.2.1)
   ·exact ih x hx
 exact all r x hx
theorem dt_of {kvs:List (List Key×V)} (ok:HOk P w H h) (e:H a=some (.dT kvs)):kvs.length≤sizeLine∧(a == sysModules)=false ∧
  ∃ xs,KT H kvs xs∧h.DictOfH (tupleKind (mixKind P w)) a xs:=dt_rd ok (.inl e)
end
noncomputable def DGet (H:Hp) (a:Addr) (y:V) (r:Option V):Prop :=
 (∃ kvs k,Rd H a (.dK kvs)∧y=kV k∧r=valV kvs k)∨∃ kvs k b,Rd H a (.dT kvs)∧y=.ref b∧H b=some (.tup (k.map kV))∧r=valV kvs k
noncomputable def DPut (H:Hp) (a:Addr) (y v:V) (H':Hp):Prop :=
 (∃ kvs k,H a=some (.dK kvs)∧y=kV k∧kvs.length<sizeLine∧H'=upd H a (.dK (putK kvs k v))) ∨
 ∃ kvs k b,H a=some (.dT kvs)∧y=.ref b∧H b=some (.tup (k.map kV))∧kvs.length<sizeLine∧H'=upd H a (.dT (putK kvs k v))
theorem DGet.k {H:Hp} {a:Addr} {kvs:List (Key×V)} {k:Key} (e:H a=some (.dK kvs)):DGet H a (kV k) (valV kvs k):=.inl ⟨kvs,k,.inl e,rfl,rfl⟩
theorem DPut.k {H:Hp} {a:Addr} {kvs:List (Key×V)} {k:Key} {v:V} (e:H a=some (.dK kvs)) (hl:kvs.length<sizeLine):DPut H a (kV k) v (upd H a (.dK (putK kvs k v))):=.inl ⟨kvs,k,e,rfl,hl,rfl⟩
section
variable {X:Cx} {pins:List (Addr×Obj)} {σ:St} {H:Hp} {s:Shared} {a:Addr} {y v:V} {u r:Value} {o:Option V} {A:Around} {E:Value→Shared→Prop}
theorem Inv.big (I:Inv X pins σ H s):sysModules<s.heap.objs.size:=by
 have h:mainGlobals<s.heap.objs.size:=(I.mod.glob.keeps I.bk).lt
 exact Nat.lt_trans (by decide) h
theorem d_getItem {Q:Value→Shared→Prop} (hu:A.units+1<cLine) (I:Inv X pins σ H s) (g:DGet H a y (some v)) (ry:RelV y u) (h:∀ w' s',Inv X pins σ H s'→RelV v w'→Q w' s') :
  wpAny (model X.prog X.w) A (getItem (.ref a) u) Q E s:=by
 rcases g with ⟨kvs,k,e,ey,l⟩|⟨kvs,k,b,e,ey,eb,l⟩
 ·subst ey
  obtain ⟨z,hd,vs,rel,dd⟩:=dk_rd I.hok e
  obtain ⟨w',hw,rw'⟩:=RelO.some_of (v:=v) (o:=valueAt vs k) (by rw [l];exact rel.val k)
  exact wpAny_getItem_of (kV_is ry) dd.mapOf hw (h w' _ (I.tok _) rw')
 ·subst ey
  cases (show u=Value.ref b from ry)
  obtain ⟨z,hd,xs,rel,dd⟩:=dt_rd I.hok e
  obtain ⟨w',hw,rw'⟩:=RelO.some_of (v:=v) (o:=(atKey xs k).map (·.2)) (by rw [l];exact rel.val k)
  obtain ⟨p,hp,hp2⟩:=Option.map_eq_some_iff.mp hw
  refine wpAny_getItem_heap (tupleKind_room_in1 hu) (key_of I.hok eb) dd hp ?_
  rw [hp2]
  exact h w' _ (I.tok _) rw'
theorem d_notIn {Q:Value→Shared→Prop} (hu:A.units+1<cLine) (I:Inv X pins σ H s) (g:DGet H a y o) (ry:RelV y u) (h:∀ s',Inv X pins σ H s'→Q (.bool (!o.isSome)) s') :
  wpAny (model X.prog X.w) A (compareOp .NotIn u (.ref a)) Q E s:=by
 rcases g with ⟨kvs,k,e,ey,l⟩|⟨kvs,k,b,e,ey,eb,l⟩
 ·subst ey
  obtain ⟨z,hd,vs,rel,dd⟩:=dk_rd I.hok e
  refine wpAny_notIn_of (kV_is ry) hd dd.mapOf ?_
  rw [← (rel.val k).isSome_eq,← l]
  exact h _ (I.tok _)
 ·subst ey
  cases (show u=Value.ref b from ry)
  obtain ⟨z,hd,xs,rel,dd⟩:=dt_rd I.hok e
  refine wpAny_notIn_heap (tupleKind_room_in1 hu) (key_of I.hok eb) hd dd ?_
  have q:=(rel.val k).isSome_eq
  rw [Option.isSome_map] at q
  rw [← q,← l]
  exact h _ (I.tok _)
theorem d_write {h':Heap} {t':Nat} {ob:HO} (I:Inv X pins σ H s) (mu:Mut (H a)) (hs:Heap.SameBut a s.heap h') (he:∃ q,h'.get? a=some q) (new:ObjOk X.prog X.w (upd H a ob) h' a ob) :
  Inv X pins σ (upd H a ob) { s with heap:=h',toks:=t' } :=
 I.write (x:=a) (e:=a) mu (.inl rfl) (fun b q hb z=>(hs.2 b hb).trans z) he new
theorem dk_new {P:Program} {w:World} {H':Hp} {h':Heap} {kvs:List (Key×V)} {vs:List (Key×Value)} (z:kvs.length≤sizeLine) (hd:(a == sysModules)=false) (rel:KV kvs vs) (dd:h'.DictOf (mixKind P w) a vs) :
  ObjOk P w H' h' a (.dK kvs):=⟨z,hd,vs,rel,dd⟩
theorem d_setItem {H':Hp} {Q:Unit→Shared→Prop} (hu:A.units+1<cLine) (I:Inv X pins σ H s) (g:DPut H a y v H') (ry:RelV y u) (rv:RelV v r) (h:∀ s',Inv X pins σ H' s'→Q () s') :
  wpAny (model X.prog X.w) A (setItem (.ref a) u r) Q E s:=by
 rcases g with ⟨kvs,k,e,ey,l,eH⟩|⟨kvs,k,b,e,ey,eb,l,eH⟩
 ·subst ey eH
  obtain ⟨z,hd,vs,rel,dd⟩:=dk_of I.hok e
  have hz:vs.length≤sizeLine:=by rw [← rel.length];exact z
  have hl:(putK kvs k v).length≤sizeLine:=by have:=length_putK kvs k v;lia
  refine wpAny_setItem_pairs (hsz:=hz) (kV_is ry) dd fun h' dd' hs=>h _ ?_
  have he:∃ q,h'.get? a=some q:=let ⟨q,_,_,hq,_⟩:=dd';⟨q,hq⟩
  exact d_write I (by rw [e];exact True.intro) hs he (dk_new hl hd (rel.put k rv) dd')
 ·subst ey eH
  cases (show u=Value.ref b from ry)
  obtain ⟨z,hd,xs,rel,dd⟩:=dt_of I.hok e
  have hz:xs.length≤sizeLine:=by rw [← Paired.length rel];exact z
  have hl:(putK kvs k v).length≤sizeLine:=by have:=length_putK kvs k v;lia
  refine wpAny_setItem_heap (hsz:=hz) (tupleKind_room_in1 hu) (key_of I.hok eb) dd fun h' dd' hs=>h _ ?_
  obtain ⟨q,es,ep,hq,h2,h3,h4,_,h5⟩:=dd'
  refine d_write I (by rw [e];exact True.intro) hs ⟨q,hq⟩ ⟨hl,hd,_,(rel.put k eb rv).keeps fun c ys ec=>?_,q,es,ep,hq,h2,h3,h4,h5⟩
  rw [upd_ne (ne_of ec e (fun z=>nomatch z))]
  exact ec
end
theorem dict_typeIs {X:Cx} {pins:List (Addr×Obj)} {σ:St} {H:Hp} {s:Shared} {a:Addr} {y:V} {o:Option V} (I:Inv X pins σ H s) (g:DGet H a y o):s.TypeIs (.ref a) "dict":=by
 rcases g with ⟨kvs,k,e,_,_⟩|⟨kvs,k,b,e,_,_,_⟩
 ·obtain ⟨_,_,vs,_,dd⟩:=dk_rd I.hok e
  exact dd.typeIs
 ·obtain ⟨_,_,xs,_,dd⟩:=dt_rd I.hok e
  exact dd.typeIs
noncomputable def sDPut (td ty tv:TE):TS:=fun D σ H=>tv σ H fun v H1=>td σ H1 fun x H2=>ty σ H2 fun y H3=>∃ a H4,x=.ref a∧DPut H3 a y v H4∧D.nx σ H4
section
variable {X:Cx} {o i e value:Expr} {pos pos' tpos:Pos} {td ty tv:TE}
theorem ps_dput (hu:X.A.units+1<cLine) (ho:PE X o td) (hi:PE X i ty) (hv:PE X value tv) (hs:swapsWith value (some (.Subscript o i pos')) pos.line X.env=pure false) :
  PS X (.Assign [.Subscript o i pos'] value pos) (sDPut td ty tv):=by
 intro pins s σ H D I h
 refine wpAny_Assign_Subscript (thn (hv pins s σ H _ I h) fun r s1 ⟨v,H1,I1,rv,q1⟩=>thn (ho pins s1 σ H1 _ I1 q1) fun u s2 ⟨x,H2,I2,rx,q2⟩=>thn (hi pins s2 σ H2 _ I2 q2) fun iv s3 ⟨y,H3,I3,ry,a,H4,ex,g,q3⟩=>?_) hs
 subst ex
 obtain rfl:u=Value.ref a:=rx
 exact d_setItem hu I3 g ry rv fun s4 I4=>⟨σ,H4,I4,q3⟩
end
theorem dk_empty {P:Program} {w:World} {H:Hp} (h:Heap) (hb:sysModules<h.objs.size):ObjOk P w H (h.push { cls:=.type "dict",data:=.dict #[] }) h.objs.size (.dK []) :=
 ⟨Nat.zero_le _,beq_eq_false_iff_ne.mpr (Ne.symm (Nat.ne_of_lt hb)),[],.nil,Heap.DictOf.new h⟩
noncomputable def tDNewK:TE:=fun _ H Q=>∀ p,H p=none→Q (.ref p) (upd H p (.dK []))
section
variable {X:Cx} {pos:Pos}
theorem pe_dnewK:PE X (.Dict [] [] pos) tDNewK:=fun pins s σ H Q I h =>
 wpAny_Dict_empty ⟨.ref s.heap.objs.size,_,I.laid (a:=s.heap.objs.size) (o:=.dK []) (t':=s.toks) (fun _ _ q=>Heap.get?_push_of_some _ q) (Nat.le_refl _) (dk_empty s.heap I.big),rfl,h _ (I.hok.fresh (Nat.le_refl _))⟩
end
end L2
set_option maxRecDepth 100000
namespace L2
open PySem PySem.Spec PyProof.Rows PySem.W
noncomputable def RawD (h:Heap) (d:Addr) (es:Array DictEntry) (ep:Nat):Prop:=∃ o,h.get? d=some o∧o.ExactDict∧o.data=.dict es ep
section
variable {prog:Program} {w:World} {A:Around} {E:Value→Shared→Prop} {s:Shared} {d I:Addr} {es:Array DictEntry} {ep i:Nat}
theorem RawD.ty (x:RawD s.heap d es ep):s.TypeIs (.ref d) "dict":=let ⟨o,e,c,_⟩:=x;⟨o,e,c.1⟩
theorem raw_iter {Q:Value→Shared→Prop} (lo:(d == sysModules)=false) (x:RawD s.heap d es ep)
  (hQ:Q (.ref s.heap.objs.size) { s with heap:=s.heap.push { cls:=.type "dict_keyiterator",data:=.fields #[.ref d,.int 0 0,.int es.size 0,.int ep 0] } }):wpAny (model prog w) A (pyIter (.ref d)) Q E s:=by
 have ty:=x.ty
 obtain ⟨o,e,_,dat⟩:=x
 refine wpAny_pyIter_slot ty F.slot_dict_iter (wpAny_call_entry F.slot_dict_iter ty F.entry_dict_iter ?_ (F.args_dict_iter_1 _))
 unfold Builtin.«dict.__iter__» Builtin.Dict.dictSlotNone
 refine wpAny_bind (wpAny_bind (wpAny_notOrdered_dict ty ?_))
 show wpAny _ _ (pure (Value.ref d)) _ _ s
 refine wpAny_pure (?_:wpAny _ _ (Builtin.Dict.showsAll d >>= _) _ _ s)
 unfold Builtin.Dict.showsAll
 rw [if_neg (by rw [lo];exact Bool.false_ne_true)]
 refine wpAny_bind (wpAny_pure (wpAny_bind (wpAny_dictEntries e dat (wpAny_bind (wpAny_dictEpoch e dat ?_)))))
 refine wpAny_bind (wpAny_newObj_type (wpAny_pure ⟨_,rfl,"dict_keyiterator",_,⟨_,Heap.get?_push_size _ rfl,rfl⟩,F.slot_dict_keyiterator_next.lookup,?_⟩))
 simpa [rawInt] using hQ
theorem raw_next {Q:Option Value→Shared→Prop} (it:s.heap.IsKeyIter I d i es.size ep) (x:RawD s.heap d es ep) (lt:i<es.size)
  (hQ:∀ h',h'.IsKeyIter I d (i+1) es.size ep→Heap.SameBut I s.heap h'→Q (some es[i].key) { s with heap:=h' }):wpAny (model prog w) A (pyNext (.ref I)) Q E s:=by
 have ty:=it.typeIs
 obtain ⟨o,e,c,f⟩:=id it
 obtain ⟨od,ed,_,dat⟩:=x
 unfold pyNext
 refine wpAny_bind (wpAny_attempt (wpAny_callSpecial?_slot (name:=Str.ofString "__next__") ty F.slot_dict_keyiterator_next (wpAny_call_entry F.slot_dict_keyiterator_next ty F.entry_dict_keyiterator_next ?_ (F.args_dict_keyiterator_next_1 _))))
 refine wpAny_bind (wpAny_pure (wpAny_bind (wpAny_bind ?_)))
 first|refine wpAny_bind (wpAny_typeNameOfWhole_keyiter ty (wpAny_pure (wpAny_bind (wpAny_fieldsOf e f ?_))))|refine wpAny_bind (wpAny_typeNameOf_keyiter ty (wpAny_pure (wpAny_bind (wpAny_fieldsOf e f ?_))))
 simp only [show Builtin.Dict_items.ownsTuple "dict_keyiterator"=false by decide,Bool.false_eq_true,if_false]
 show wpAny _ _ (if (Value.ref d == Value.none)=true then _ else _) _ _ _
 rw [if_neg (show ¬ (Value.ref d == Value.none)=true from Bool.false_ne_true)]
 refine wpAny_bind (wpAny_pure (wpAny_bind (wpAny_dictEntries ed dat ?_)))
 rw [if_neg (by simp)]
 refine wpAny_bind (wpAny_pure (wpAny_bind (wpAny_dictEpoch ed dat ?_)))
 rw [if_neg (by simp)]
 refine wpAny_pure ?_
 simp only [show ¬ (i:Int)<0 by lia,if_false,Int.toNat_natCast,Array.getElem?_eq_getElem lt]
 refine wpAny_bind ?_
 first|refine wpAny_bind (wpAny_typeNameOfWhole_keyiter ty (wpAny_pure (wpAny_bind (wpAny_isOneOf_keyiter ty ?_))))|refine wpAny_bind (wpAny_typeNameOf_keyiter ty (wpAny_pure (wpAny_bind (wpAny_isOneOf_keyiter ty ?_))))
 show wpAny _ _ (setField (.ref I) 1 (rawInt ((i:Int)+1)) >>= _) _ _ _
 refine wpAny_bind (wpAny_setField e f (by simp) ?_)
 obtain ⟨g,eg⟩:∃ g,g=s.heap.update I (Obj.mapFields (·.setIfInBounds 1 (rawInt ((i:Int)+1)))):=⟨_,rfl⟩
 have it':g.IsKeyIter I d (i+1) es.size ep:=by
  rw [eg]
  exact⟨_,Heap.get?_update_self _ e (Obj.isFreed_of_fields (Obj.data_mapFields f _)),(Obj.cls_mapFields ..).trans c,by rw [Obj.data_mapFields f];simp [rawInt]⟩
 have sb:Heap.SameBut I s.heap g:=by rw [eg];exact Heap.SameBut.update ..
 rw [← eg]
 refine wpAny_bind (wpAny_holding (wpAny_bind (wpAny_isOneOf_keyiter (s:={ s with heap:=g }) it'.typeIs ?_)))
 show wpAny _ _ (pure es[i].key) _ _ _
 exact wpAny_pure (wpAny_pure ⟨_,rfl,wpAny_pure (hQ g it' sb)⟩)
theorem raw_end {Q:Option Value→Shared→Prop} (hh:A.handled=none) (it:s.heap.IsKeyIter I d i es.size ep) (x:RawD s.heap d es ep) (ge:es.size≤i)
  (hQ:∀ h',Heap.ExtBut I s.heap h'→Q none { s with heap:=h' }):wpAny (model prog w) A (pyNext (.ref I)) Q E s:=by
 have ty:=it.typeIs
 obtain ⟨o,e,c,f⟩:=id it
 obtain ⟨od,ed,_,dat⟩:=x
 unfold pyNext
 refine wpAny_bind (wpAny_attempt (wpAny_callSpecial?_slot (name:=Str.ofString "__next__") ty F.slot_dict_keyiterator_next (wpAny_call_entry F.slot_dict_keyiterator_next ty F.entry_dict_keyiterator_next ?_ (F.args_dict_keyiterator_next_1 _))))
 refine wpAny_bind (wpAny_pure (wpAny_bind (wpAny_bind ?_)))
 first|refine wpAny_bind (wpAny_typeNameOfWhole_keyiter ty (wpAny_pure (wpAny_bind (wpAny_fieldsOf e f ?_))))|refine wpAny_bind (wpAny_typeNameOf_keyiter ty (wpAny_pure (wpAny_bind (wpAny_fieldsOf e f ?_))))
 simp only [show Builtin.Dict_items.ownsTuple "dict_keyiterator"=false by decide,Bool.false_eq_true,if_false]
 show wpAny _ _ (if (Value.ref d == Value.none)=true then _ else _) _ _ _
 rw [if_neg (show ¬ (Value.ref d == Value.none)=true from Bool.false_ne_true)]
 refine wpAny_bind (wpAny_pure (wpAny_bind (wpAny_dictEntries ed dat ?_)))
 rw [if_neg (by simp)]
 refine wpAny_bind (wpAny_pure (wpAny_bind (wpAny_dictEpoch ed dat ?_)))
 rw [if_neg (by simp)]
 refine wpAny_pure ?_
 simp only [show ¬ (i:Int)<0 by lia,if_false,Int.toNat_natCast,Array.getElem?_eq_none ge]
 refine wpAny_bind ?_
 first|refine wpAny_bind (wpAny_typeNameOfWhole_keyiter ty (wpAny_pure ?_))|refine wpAny_bind (wpAny_typeNameOf_keyiter ty (wpAny_pure ?_))
 show wpAny _ _ (setField (.ref I) 0 .none >>= _) _ _ _
 refine wpAny_bind (wpAny_setField e f (by simp) (?_:wpAny _ _ (newExc (.type "StopIteration") [] >>= _) _ _ _))
 refine wpAny_bind ?_
 simp only [newExc,newTuple]
 refine wpAny_bind (wpAny_newObj_type (wpAny_bind (m:=firstArgMember _ _) (wpAny_of_eq (a:=Value.none) (by first|rfl|(simp only [firstArgMember];rfl)) (wpAny_newObj_type ?_ (by size_fits)))) (by size_fits))
 simp only [raiseNew]
 refine wpAny_bind (wpAny_handled ?_)
 rw [show A.in1.handled=none from hh]
 refine wpAny_bind <| wpAny_pure <| wpAny_throw ?_
 exact wpAny_bind (wpAny_isInstance (T:="StopIteration") (b:=true) ⟨_,Heap.get?_push_size _ rfl,rfl⟩ isSubtype_stop (wpAny_pure (hQ _ (((Heap.SameBut.update ..).extBut.push _).push _))))
end
end L2
namespace L2
open PySem PySem.Spec PyProof.Rows
noncomputable def rDPut (x y v:V) (H:Hp) (R:Hp→Prop):Prop:=∃ a H4,x=.ref a∧DPut H a y v H4∧R H4
section
variable {H:Hp} {σ:St} {D:Ends} {Q:VK}
theorem r_dput {td ty tv:TE} (h:tv σ H fun v H1=>td σ H1 fun x H2=>ty σ H2 fun y H3=>rDPut x y v H3 fun H4=>D.nx σ H4):sDPut td ty tv D σ H:=h
end
end L2
set_option maxRecDepth 100000
namespace L2
open PySem PySem.Spec PyProof.Rows PySem.W
theorem rev_len0:typeLookup (.type "list_reverseiterator") "__len__"=pure none:=by rw [typeLookup_type,builtinLookup_eq_fast];kernel_rfl
theorem rev_hint0:typeLookup (.type "list_reverseiterator") "__length_hint__"=pure (some (.builtin "list_reverseiterator.__length_hint__")):=by rw [typeLookup_type,builtinLookup_eq_fast];kernel_rfl
section
variable {prog:Program} {w:World} {A:Around} {E:Value→Shared→Prop} {s:Shared} {I l:Addr} {its:Array Value}
theorem rev_hint {Q:Bool→Shared→Prop} (ty:s.TypeIs (.ref I) "list_reverseiterator") (h:Q false s):wpAny (model prog w) A (Builtin.List.listLengthHint (.ref I)) Q E s:=by
 unfold Builtin.List.listLengthHint
 refine wpAny_bind (wpAny_specialOf ty rev_len0 ?_)
 show wpAny _ _ (specialOf (Value.ref I) (Str.ofString "__length_hint__") >>= _) _ _ _
 refine wpAny_bind (wpAny_specialOf ty rev_hint0 ?_)
 generalize eid:("list_reverseiterator.__length_hint__":String)=nm
 wp_delta
 rw [show splitId nm=some ("list_reverseiterator","__length_hint__") by subst eid;decide +kernel]
 subst eid
 refine wpAny_bind (wpAny_isInstance (T:="list_reverseiterator") (b:=true) ty (by rw [isSubtype_type];kernel_rfl) ?_)
 refine wpAny_ite_split (fun z=>absurd z (by decide)) fun _=>?_
 refine wpAny_ite_split (fun _=>?_) (fun z=>absurd (by decide +kernel) z)
 refine wpAny_ite_split (fun z=>absurd z (by decide +kernel)) fun _=>?_
 exact wpAny_pure h
theorem rev_collect {R:Result→Shared→Prop} (hh:A.handled=none) (hI:s.heap.IsRevIter I l ((its.size:Int) - 1)) (hl:s.heap.IsList l its) (ne:l≠I) (S:Addr) (n1:S≠I) (n2:S≠l) (c0:Nat) (hS:s.heap.get? S=some { cls:=.type "list",data:=.seq #[] c0 }) (hz:its.size≤sizeLine)
  (hR:∀ h' tk acc c,(∀ b o,b≠S→b≠I→s.heap.get? b=some o→h'.get? b=some o)→h'.get? S=some { cls:=.type "list",dict:=none,data:=.seq acc c,slots:=#[] }→ItemsOf (fun i v=>its[its.size - 1 - i]?=some v) acc its.size→R (.ok (.ret .none)) { s with heap:=h',toks:=tk }) :
  wpAny (model prog w) A.in1 (Builtin.List.listExtendWith (.ref S) (.ref I) .none)
   (fun fin s'=>match fin with|.done f=>R (.ok f) s'|.again c'=>c'.quiet=true∧codeAny (model prog w) A c' R s') (fun e s'=>R (.error e) s') s:=by
 have W:=(Walks.listRev (prog:=prog) (w:=w) (A:=A.in1) hh I l ne its).toS
 have nf:S∉[I,l]:=by simp only [List.mem_cons,List.not_mem_nil,or_false,not_or];exact⟨n1,n2⟩
 have st:(fun (i:Nat) (s:Shared)=>(fun i h=>i≤its.size∧Heap.IsRevIter h I l ((its.size:Int) - 1 - (i:Int))∧h.IsList l its) i s.heap) 0 s:=⟨Nat.zero_le _,by simpa using hI,hl⟩
 unfold Builtin.List.listExtendWith
 refine wpAny_bind (wpAny_typeOf hI.typeIs ?_)
 simp only [show Builtin.List.listSameRef (.ref S) (.ref I)=false by simp [Builtin.List.listSameRef,n1],show (Value.type "list_reverseiterator" == Value.type "list")=false by decide,show (Value.type "list_reverseiterator" == Value.type "tuple")=false by decide,Bool.or_false,Bool.false_eq_true,if_false]
 refine wpAny_bind (wpAny_pyIter_revIter hI (wpAny_bind (wpAny_holding (rev_hint hI.typeIs ?_))))
 refine wpAny_ite_split (fun z=>absurd z (by decide)) fun _=>wpAny_pure ⟨plainId_quiet F.plain_extend_loop _,?_⟩
 refine codeAny_extend_loopS W hz S nf .none its.size 0 _ #[] c0 rfl (Nat.zero_le _) st hS (ItemsOf.nil _) fun s' acc c hm hS' hacc=>?_
 rw [Moved.eq_with hm]
 exact hR s'.heap s'.toks acc c (fun b o b1 b2 e=>hm.heap b o (fun z=>(List.mem_cons.mp z).elim b1 fun y=>b2 (List.mem_singleton.mp y)) e) hS' hacc
theorem call_list_revI {Q:Value→Shared→Prop} (hh:A.handled=none) (hI:s.heap.IsRevIter I l ((its.size:Int) - 1)) (hl:s.heap.IsList l its) (ne:l≠I) (hz:its.size≤sizeLine)
  (hQ:∀ h' tk acc c,(∀ b o,b≠I→s.heap.get? b=some o→h'.get? b=some o)→h'.get? s.heap.objs.size=some { cls:=.type "list",dict:=none,data:=.seq acc c,slots:=#[] }→ItemsOf (fun i v=>its[its.size - 1 - i]?=some v) acc its.size→Q (.ref s.heap.objs.size) { s with heap:=h',toks:=tk }) :
  wpAny (model prog w) A (call (.type "list") [.ref I]) Q E s:=by
 obtain ⟨oI,eI,rI⟩:=id hI
 obtain ⟨ol,el,rl⟩:=id hl
 refine callType_codes (Q₁:=fun obj t=>obj=.ref s.heap.objs.size∧t={ s with heap:=s.heap.push { cls:=.type "list",data:=.seq #[] } }) F.called_list (F.typeCall_list_1 _) F.entry_list_init (code_list_new _ ⟨rfl,rfl⟩) fun obj t ht=>?_
 obtain ⟨rfl,rfl⟩:=ht
 have own:(s.heap.push { cls:=.type "list",data:=.seq #[] }).get? s.heap.objs.size=some { cls:=.type "list",data:=.seq #[] }:=Heap.get?_push_size _ rfl
 refine⟨⟨_,own,rfl⟩,F.args_list_init_2 _ _,?_⟩
 show wpAny _ _ (do let old ← Builtin.List.listItems (.ref s.heap.objs.size);Builtin.List.listUpdate (.ref s.heap.objs.size) (fun _=>#[]);letGo old.toList.reverse;Builtin.List.listExtendWith (.ref s.heap.objs.size) (.ref I) .none) _ _ _
 refine wpAny_bind ?_
 unfold Builtin.List.listItems
 refine wpAny_bind (wpAny_seqItems own rfl (wpAny_pure ?_))
 show wpAny _ _ (updateSeq s.heap.objs.size (fun _=>#[]) >>= fun _=>letGo (#[]:Array Value).toList.reverse >>= fun _=>Builtin.List.listExtendWith (.ref s.heap.objs.size) (.ref I) .none) _ _ _
 refine wpAny_bind (wpAny_updateSeq own rfl (wpAny_bind (wpAny_letGo ?_)))
 have own2:=Heap.get?_update_self (Obj.mapSeq (fun _=>(#[]:Array Value))) own rfl
 have oth:∀ b o,s.heap.get? b=some o→((s.heap.push { cls:=.type "list",data:=.seq #[] }).update s.heap.objs.size (Obj.mapSeq (fun _=>(#[]:Array Value)))).get? b=some o:=fun b o e=>(Heap.get?_update_other _ _ (Nat.ne_of_gt (Heap.lt_size e))).trans (Heap.get?_push_of_some _ e)
 refine rev_collect (A:=A.in1) (its:=its) hh ⟨oI,oth _ _ eI,rI⟩ ⟨ol,oth _ _ el,rl⟩ ne _ (Nat.ne_of_gt (Heap.lt_size eI)) (Nat.ne_of_gt (Heap.lt_size el)) _ own2 hz fun h' tk acc c k e hacc=>⟨rfl,hQ h' tk acc c (fun b o b1 eb=>k b o (Nat.ne_of_lt (Heap.lt_size eb)) b1 (oth b o eb)) e hacc⟩
end
theorem rev_items {its:List Value} {acc:Array Value} (h:ItemsOf (fun i v=>its.toArray[its.toArray.size - 1 - i]?=some v) acc its.toArray.size):acc=its.reverse.toArray:=by
 apply Array.ext
 ·rw [h.1];simp
 ·intro j h1 h2
  have e:=h.2 j _ (Array.getElem?_eq_getElem h1)
  have hj:j<its.length:=by have:=h.1;simp at this;lia
  simp only [List.size_toArray,List.getElem?_toArray] at e
  simp only [List.getElem_toArray,List.getElem_reverse]
  rw [List.getElem?_eq_getElem (by lia)] at e
  exact (Option.some.inj e).symm
noncomputable def rRevL (K:Frag):V→Hp→VK→Prop:=fun x H Q=>∃ (l:Addr) (xs:List V),x=.ref l∧SqL K H l xs∧∀ p,H p=none→Q (.ref p) (upd H p (.lst xs.reverse))
noncomputable def tRevL (K:Frag) (t:TE):TE:=fun σ H Q=>t σ H fun x H1=>rRevL K x H1 Q
section
variable {X:Cx} {p p2 pos pos2:Pos} {e:Expr} {t:TE}
theorem pe_revL (hc:X.calm=true) (ha:PE X e t) (hg:Gl X "list") (hg2:Gl X "reversed") (hm:X.mg "list"=none) (hm2:X.mg "reversed"=none)
  (hst:starEach [e] X.env=[(false,eval e X.env)]:=by rfl) (hst2:starEach [Expr.Call (.Name "reversed" p2) [e] [] pos2] X.env=[(false,eval (.Call (.Name "reversed" p2) [e] [] pos2) X.env)]:=by rfl) :
  PE X (.Call (.Name "list" p) [.Call (.Name "reversed" p2) [e] [] pos2] [] pos) (tRevL X.K t):=by
 intro pins s σ H Q I h
 refine wpAny_Call_Name_kw (ld_blt I hg hm boot_list ?_ (by decide) (by decide))
 refine PyProof.Rows.callWith_type1 ?_ (by rw [hst2];rfl) (by rfl)
 rw [hst2]
 show wpAny _ _ (spliced ((false,eval (.Call (.Name "reversed" p2) [e] [] pos2) X.env)::backTo pos [])) _ _ s
 refine Calls.spliced_cons (wpAny_Call_Name_kw (ld_blt I hg2 hm2 boot_reversed ?_ (by decide) (by decide)))
 refine PyProof.Rows.callWith_type1 ?_ (by rw [hst];rfl) (by rfl)
 have hpa:PA X [e] (tCons t tNil):=pa_cons ha pa_nil hst
 refine thn (hpa pos2 pins s σ H (fun vs H1=>∃ x,vs=[x]∧rRevL X.K x H1 Q) I ?_) fun us s1 ⟨vs,H1,I1,r,x,ev,q⟩=>?_
 ·show t σ H fun x H1=>∃ z,[x]=[z]∧rRevL X.K z H1 Q
  have e:(fun (x:V) (H1:Hp)=>∃ z,[x]=[z]∧rRevL X.K z H1 Q)=fun x H1=>rRevL X.K x H1 Q:=by
   funext x H1
   apply propext
   exact⟨fun ⟨z,e,q⟩=>by cases e;exact q,fun q=>⟨x,rfl,q⟩⟩
  rw [e]
  exact h
 subst ev
 obtain ⟨u,rfl,ru⟩:=vals1 r
 obtain ⟨l,xs,rfl,hs,hQ⟩:=q
 cases ru
 obtain ⟨its,rv,pl,hz⟩:=I1.list hs
 have hl:s1.heap.IsList l its.toArray:=pl.isList
 have hlt:l<s1.heap.objs.size:=by obtain ⟨o,e,_⟩:=hl;exact Heap.lt_size e
 refine call_reversed_list hl ?_
 have I2:Inv X pins σ H1 { s1 with heap:=s1.heap.push (revObj l ((its.toArray.size:Int) - 1)) }:=I1.kept (t':=s1.toks) fun b o q=>Heap.get?_push_of_some _ q
 refine Calls.spliced_nil ?_
 have hlen:=rv.length
 refine call_list_revI (s:={ s1 with heap:=s1.heap.push (revObj l ((its.toArray.size:Int) - 1)) }) (I1.ok.hd hc) ⟨_,Heap.get?_push_size _ rfl,rfl,rfl⟩ (hl.at fun o e=>Heap.get?_push_of_some _ e) (Nat.ne_of_lt hlt) (by rw [List.size_toArray,← hlen];exact hz) fun h' tk acc c k hn hacc=>?_
 rw [rev_items hacc] at hn
 have big:s1.heap.objs.size≤(s1.heap.push (revObj l ((its.toArray.size:Int) - 1))).objs.size:=by rw [size_push'];exact Nat.le_succ _
 refine⟨.ref _,upd H1 _ (.lst xs.reverse),I1.laid (t':=tk) (fun b u q=>k b u (Nat.ne_of_lt (Heap.lt_size q)) (Heap.get?_push_of_some _ q)) big ?_,rfl,hQ _ (I1.hok.fresh big)⟩
 exact⟨by rw [List.length_reverse];exact hz,its.reverse,c,rv.reverse,hn⟩
variable {K:Frag}
theorem kpe_revL (K:Frag) (hK:X.K=K) (hc:X.calm=true) (ha:PE X e t) (hg:Gl X "list") (hg2:Gl X "reversed") (hm:X.mg "list"=none) (hm2:X.mg "reversed"=none)
  (hst:starEach [e] X.env=[(false,eval e X.env)]:=by rfl) (hst2:starEach [Expr.Call (.Name "reversed" p2) [e] [] pos2] X.env=[(false,eval (.Call (.Name "reversed" p2) [e] [] pos2) X.env)]:=by rfl) :
  PE X (.Call (.Name "list" p) [.Call (.Name "reversed" p2) [e] [] pos2] [] pos) (tRevL K t):=hK ▸ pe_revL hc ha hg hg2 hm hm2 hst hst2
end
section
variable {K:Frag} {H:Hp} {Q:VK} {σ:St}
theorem r_revT {t:TE} (h:t σ H fun x H1=>rRevL K x H1 Q):tRevL K t σ H Q:=h
theorem r_revL {l:Addr} {xs:List V} (e:SqL K H l xs) (h:∀ p H2,H p=none→Same H H2→H2 p=some (.lst xs.reverse)→Q (.ref p) H2):rRevL K (.ref l) H Q:=⟨l,xs,rfl,e,fun p hp=>h p _ hp (Same.upd_new hp) upd_same⟩
end
end L2
set_option maxRecDepth 100000
namespace L2
open PySem PySem.Spec PyProof.Rows
inductive KeysL (K:PySem.W.Frag) (H:Hp):List V→List (List Int×Int)→Prop where
 | nil:KeysL K H [] []
 | cons {a w:Addr} {r:List Int} {m:Int} {xs:List V} {ks:List (List Int×Int)} (h:SqT K H a [.ref w,.int m]) (hw:SqT K H w (r.map V.int)) (t:KeysL K H xs ks):KeysL K H (.ref a::xs) ((r,m)::ks)
namespace KeysL
variable {K:PySem.W.Frag} {H H':Hp}
theorem length:∀ {xs:List V} {ks:List (List Int×Int)},KeysL K H xs ks→ks.length=xs.length
 | _,_,.nil=>rfl
 | _,_,.cons _ _ t=>by rw [List.length_cons,List.length_cons,t.length]
theorem get:∀ {xs:List V} {ks:List (List Int×Int)} {i:Nat} {x:V},KeysL K H xs ks→xs[i]?=some x→∃ a w k,x=.ref a∧SqT K H a [.ref w,.int k.2]∧SqT K H w (k.1.map V.int)∧ks[i]?=some k
 | _,_,_,_,.nil,h=>by simp at h
 | _,_,0,_,.cons (a:=a) (w:=w) (r:=r) (m:=m) h hw _,e=>by
  simp at e
  exact⟨a,w,(r,m),e.symm,h,hw,rfl⟩
 | _,_,i+1,_,.cons _ _ t,e=>by
  obtain ⟨a,w,k,h1,h2,h3,h4⟩:=get (i:=i) t (by simpa using e)
  exact⟨a,w,k,h1,h2,h3,by simpa using h4⟩
theorem same:∀ {xs:List V} {ks:List (List Int×Int)},KeysL K H xs ks→Same H H'→KeysL K H' xs ks
 | _,_,.nil,_=>.nil
 | _,_,.cons h hw t,s=>.cons (s.at h) (s.at hw) (t.same s)
end KeysL
theorem range_map {α β:Type} (ks:List α) (d:α) (g:α→β):(List.range ks.length).map (fun i=>g (ks.getD i d))=ks.map g:=by
 apply List.ext_getElem
 ·simp
 ·intro i h1 h2
  have h:i<ks.length:=by simpa using h1
  simp [List.getD,List.getElem?_eq_getElem h]
theorem rd_compL {K:PySem.W.Frag} {a:Addr} {xs:List V} {H1:Hp} {ix:List (Option Nat)} {σ:St} {te:TE} {Q:VK} (fr:St) (f:Nat→V) (hpk:pick ix σ=none::fr) (ha:SqL K H1 a xs) (hn:xs.length≤1000000)
  (step:∀ (i:Nat) x H' (Qc:VK),xs[i]?=some x→Same H1 H'→(∀ H5,Same H' H5→Qc (f i) H5)→te (some x::fr) H' Qc)
  (hQ:∀ l H',H1 l=none→Same H1 H'→H' l=some (.lst ((List.range xs.length).map f))→Q (.ref l) H'):CompGoal ix (gName 0) (fun _ H Q=>Q true H) te σ Q (Itl K a) H1:=by
 refine rd_comp1 fr xs.length f hpk hn (fun H' s=>⟨xs,s.seq ha,Nat.le_refl _⟩) (fun i H' hi s=>⟨xs,xs[i],s.seq ha,List.getElem?_eq_getElem hi⟩) (fun i x H' H2 Qc hi s hy kc=>?_) hQ
 obtain ⟨rfl,e⟩:=hy
 exact step i x _ Qc (e xs (s.seq ha)) s kc
end L2
set_option maxRecDepth 100000
set_option maxRecDepth 100000
namespace L2
open PySem PySem.Spec PyProof.Rows PySem.W
noncomputable abbrev lamCx (X:Cx) (A:Around) (N:List Str) (qual:Str) (scope:Scope) (f:Addr) (cd:Value) (s:Shared) (H:Hp):Cx :=
 { X with A:=A.deeper (envX qual scope s.heap.objs.size f cd (clOf X.env.cells scope.names [])),N:=N,s₀:=s,H₀:=H,env:=envX qual scope s.heap.objs.size f cd (clOf X.env.cells scope.names []),outer:=X.stack,stack:=envX qual scope s.heap.objs.size f cd (clOf X.env.cells scope.names [])::X.stack,ex:=[],fn:=fun _=>false,calm:=true,pn:=[],xe:=fun _ _=>False }
section
variable {X:Cx} {pins:List (Addr×Obj)} {σ:St} {H:Hp} {s:Shared}
theorem lam_call {A:Around} {f c':Addr} {qual p:Str} {fns:List Str} {ixs:List (Option Nat)} {params:Arguments} {body:Expr} {scope:Scope} {pm ctv:Value} {x:V} {u:Value} {te:TE} {Q:VK}
  (I:Inv X pins σ H s) (hd:A.handled=none) (hfrm:A.frames=some X.stack) (hroom:A.depth<recursionLimit)
  (ho:s.heap.get? f=some (kla_obj "<lambda>" qual params body scope (clOf X.env.cells scope.names []) pm c' ctv)) (hcd:s.heap.CodeRec (.ref c') qual)
  (hbind:bindArgs (kla_fn "<lambda>" qual params body scope (clOf X.env.cells scope.names []) pm (.ref c') ctv) ⟨[u],[]⟩=pure [(p,u)])
  (hloc:scope.names.lookup p=some .local) (hco:scope.isCoroutine=false) (hgen:scope.isGenerator=false) (hk:scope.kind=.function) (hcell:∀ y∈scope.names,y.2≠.cell)
  (hfr0:(scope.names.all fun y=>!(y.2 == NameKind.free) || (X.env.cells.lookup y.1).isSome)=true) (hix:IxOk X scope fns ixs)
  (he:PE (lamCx X A (p::fns) qual scope f (.ref c') s H) body te) (r:RelV x u) (h:te (some x::pick ixs σ) H Q) :
  wpAny (model X.prog X.w) A (call (.ref f) [u]) (EP X pins σ Q) (fun _ _=>False) s:=by
 have hfr:∀ y∈scope.names,y.2=.free→(X.env.cells.lookup y.1).isSome=true:=fun y hy e=>by
  have z:=List.all_eq_true.mp hfr0 y hy
  rw [e] at z
  simpa using z
 have clsub:∀ x c,(clOf X.env.cells scope.names []).lookup x=some c→X.env.cells.lookup x=some c:=clOf_sub (fun x c q=>by simp at q)
 have clhas:∀ x,scope.names.lookup x=some .free→∃ c,(clOf X.env.cells scope.names []).lookup x=some c:=fun x hx=>by
  have hm:=PySem.mem_of_lookup hx
  exact Option.isSome_iff_exists.mp (clOf_has (.inr ⟨hm,hfr _ hm rfl⟩))
 refine wpAny_call (codeAny_mono (show codeAny _ _ _ (CR CX0 X.stack X.prog X.w H s Q E0) s from ?_) fun r s' hq=>?_)
 ·refine kla_callFunE hroom ho rfl hco hgen rfl hcd ?_
  rw [hbind]
  refine wpAny_pure (wpAny_newFunctionEnv hcell (fun y hy=>by rw [List.mem_singleton.mp hy];exact hloc) (fun h₁ hns hsb=>⟨I.nolimit.fresh _ hsb,?_⟩) hk)
  show codeAny _ _ (.expr body (envX qual scope s.heap.objs.size f (.ref c') (clOf X.env.cells scope.names []))) _ _
  have old:∀ b o,s.heap.get? b=some o→h₁.get? b=some o:=fun b o e=>hsb.extBut b o (Nat.ne_of_lt (Heap.lt_size e)) (Heap.get?_push_of_some _ e)
  have J:Inv (lamCx X A (p::fns) qual scope f (.ref c') s H) [] (some x::pick ixs σ) H { s with heap:=h₁,toks:=s.toks+[(p,u)].length }:=by
   refine⟨⟨I.ok.mod,hk,rfl,rfl,Nat.le_refl _,fun x y c q1 q2=>I.ok.inj x y c (clsub x c q1) (clsub y c q2),fun x hx=>?_,fun x c hf _=>absurd hf Bool.false_ne_true,fun _=>hd,Around.frames_deeper hfrm,.inr ⟨rfl,rfl⟩,fun b hb=>(nomatch hb),I.bs,Nat.le_trans I.ok.bsz I.sz,fun b _ _ hb=>(nomatch hb),fun b hb=>(nomatch hb),I.stack,I.stkFree⟩,
    rfl,I.bare,Un.kept old,⟨_,hns,fun i y v h1 h2 h3=>?_⟩,fun x c q=>?_,I.hok.fresh (Nat.le_refl _),fun x c q=>I.freeC x c (clsub x c q),fun p hp=>(nomatch hp),I.hok.kept old,?_⟩
   ·rcases hx with hx|hx
    ·exact absurd rfl (hcell _ (PySem.mem_of_lookup hx))
    ·exact clhas x hx
   ·match i with
    | 0 =>
     have e1:p=y:=by simpa using h1
     have e2:x=v:=by simpa using h2
     subst e1
     subst e2
     exact⟨u,r,.inl ⟨hloc,by simp⟩⟩
    | i+1 =>
     obtain ⟨j,e1,e2⟩:=pick_get (show (pick ixs σ)[i]?=some (some v) by simpa using h2)
     obtain ⟨a1,a2,a3,a4⟩:=hix.get (show fns[i]?=some y by simpa using h1) e1
     obtain ⟨mX,hnX,hlX⟩:=I.loc
     obtain ⟨u',ru,l⟩:=hlX j y v a1 e2 a2
     refine⟨u',ru,?_⟩
     rcases l with ⟨l1,_⟩|⟨_,c,lc,z⟩
     ·have l1':X.env.scope.names.lookup y=some .local:=l1
      rw [l1'] at a3
      exact absurd a3 (by decide)
     ·obtain ⟨c',hc'⟩:=clhas y a4
      have ec:=clsub y c' hc'
      rw [lc] at ec
      have ec':c=c':=Option.some.inj ec
      subst ec'
      exact .inr ⟨.inr a4,c,hc',z.keeps old⟩
   ·obtain ⟨v,z⟩:=I.cell x c (clsub x c q)
    exact⟨v,z.keeps old⟩
   ·show (some x::pick ixs σ).length=(p::fns).length
    unfold pick
    rw [List.length_cons,List.length_map,List.length_cons,hix.len]
  refine kla_codeExpr (wpAny_mono (he [] _ _ H Q J h) (fun v s' hv=>?_) fun _ _ no=>no.elim)
  obtain ⟨y,H',J',rv,q⟩:=hv
  exact⟨y,H',J'.os,J'.bare,J'.base,J'.hok,rv,q⟩
 ·cases r with
  | error e=>exact hq
  | ok fl =>
   cases fl with
   | ret u=>exact I.after hq
   | next=>exact False.elim hq
   | brk=>exact False.elim hq
   | cont=>exact False.elim hq
end
end L2
set_option maxRecDepth 100000
namespace L2
open PySem PySem.Spec PyProof.Rows PySem.W
noncomputable def SameT (P:Addr) (H H':Hp):Prop:=∀ b o,b≠P→H b=some o→H' b=some o
noncomputable def codeO (c:Addr) (q:Str):HO:=.ext fun h=>h.CodeRec (.ref c) q
noncomputable def TabH (P:Addr) (lp:Pos) (q:Str) (H:Hp):Prop:=∃ ps:Array Value,H P=some (.tbl ps)∧TriplesOk ps.toList∧(codeAmong lp ps.toList=none∨∃ c,codeAmong lp ps.toList=some (.ref c)∧H c=some (codeO c q))
theorem SameT.trans {P:Addr} {H H1 H2:Hp} (a:SameT P H H1) (b:SameT P H1 H2):SameT P H H2:=fun x o n e=>b x o n (a x o n e)
theorem SameT.of {P:Addr} {H H1:Hp} (a:Same H H1):SameT P H H1:=fun x o _ e=>a x o e
theorem TabH.same {P:Addr} {lp:Pos} {q:Str} {H H':Hp} (t:TabH P lp q H) (s:Same H H'):TabH P lp q H':=by
 obtain ⟨ps,h1,h2,h3⟩:=t
 refine⟨ps,s _ _ h1,h2,h3.imp id fun ⟨c,e,z⟩=>⟨c,e,s _ _ z⟩⟩
noncomputable def lamO (f c:Addr) (qual:Str) (params:Arguments) (body:Expr) (scope:Scope) (cl:List (Str×Addr)):HO :=
 .ext fun h=>∃ pm ctv,h.get? f=some (kla_obj "<lambda>" qual params body scope cl pm c ctv)
section
variable {X:Cx} {pins:List (Addr×Obj)} {σ:St} {H:Hp} {s:Shared}
theorem lam_make {c P:Addr} {params:Arguments} {body:Expr} {scope:Scope} {lp:Pos} {Q:VK} (I:Inv X pins σ H s) (T:TabH P lp (X.env.qual ++ "<lambda>") H)
  (hcode:X.env.code=.ref c) (C:CodeHd X.base c P) (hB:X.base.BuiltinsAt X.mg P) (hdef:defaultsOf params X.env=([],[]))
  (hfr0:(scope.names.all fun y=>!(y.2 == NameKind.free) || (X.env.cells.lookup y.1).isSome)=true)
  (h:∀ f c' H',SameT P H H'→TabH P lp (X.env.qual ++ "<lambda>") H'→H' f=some (lamO f c' (X.env.qual ++ "<lambda>") params body scope (clOf X.env.cells scope.names []))→H' c'=some (codeO c' (X.env.qual ++ "<lambda>"))→Q (.ref f) H') :
  wpAny (model X.prog X.w) X.A (eval (.Lambda params body scope lp) X.env) (EP X pins σ Q) X.xe s:=by
 have hfr':∀ p∈scope.names,p.2=.free→∃ c,X.env.cells.lookup p.1=some c:=fun y hy e=>by
  have z:=List.all_eq_true.mp hfr0 y hy
  rw [e] at z
  exact Option.isSome_iff_exists.mp (by simpa using z)
 have hcl:=closure_eq hfr'
 obtain ⟨ps,hP,ht,hc⟩:=T
 have oP:s.heap.get? P=some (tabObj ps):=I.hok P _ hP
 have hgs:s.heap.Ns mainGlobals X.mg:=I.mod.glob.keeps I.bk
 have hB':s.heap.BuiltinsAt X.mg P:=by
  obtain ⟨bm,ob,b1,b2,b3,b4,b5,b6⟩:=hB
  exact⟨bm,ob,b1,b2,b3,b4,I.bk _ _ b5,b6⟩
 have ext1:∀ {h2:Heap} {f c':Addr} {pm ctv:Value} {sc:Scope} {q:Str} {cl:List (Str×Addr)},h2.get? f=some (kla_obj "<lambda>" q params body sc cl pm c' ctv)→∀ {H2:Hp},ObjOk X.prog X.w H2 h2 f (lamO f c' q params body sc cl):=fun {h2 f c' pm ctv sc q cl} e {H2} =>
  ⟨⟨pm,ctv,e⟩,⟨_,e⟩,fun h1 h3 ⟨pm,ctv,z⟩ k=>⟨pm,ctv,k _ z⟩⟩
 refine kla_eval hdef ?_
 rcases hc with hn|⟨c',hc,hcc⟩
 ·have hgP:mainGlobals≠P:=fun q=>by
   obtain ⟨o,es,ep,e,hd,_⟩:=hgs
   rw [q,oP] at e;cases e;cases hd
  refine kla_makeFunction (mg:=X.mg) hcl I.ok.glob hgs hcode (C.keeps I.bk) oP ht hn hgP hB' fun c' ctv h' tk hx hge hlt hrec htb=>?_
  obtain ⟨ob,eob⟩:∃ ob:Obj,ob=kla_obj "<lambda>" (X.env.qual ++ "<lambda>") params body scope (clOf X.env.cells scope.names []) ((X.mg "__name__").getD .none) c' ctv:=⟨_,rfl⟩
  have hnf:ob.isFreed=false:=by rw [eob];rfl
  have hof:=Heap.get?_push_size h' hnf
  rw [← eob]
  have big:s.heap.objs.size≤h'.objs.size:=Nat.le_trans hge (Nat.le_of_lt hlt)
  have ncP:c'≠P:=Nat.ne_of_gt (Nat.lt_of_lt_of_le (Heap.lt_size oP) hge)
  have nfP:h'.objs.size≠P:=Nat.ne_of_gt (Nat.lt_of_lt_of_le (Heap.lt_size oP) big)
  have ncf:c'≠h'.objs.size:=Nat.ne_of_lt hlt
  have old:∀ b o,b≠P→s.heap.get? b=some o→(h'.push ob).get? b=some o:=fun b o n e=>Heap.get?_push_of_some _ (hx b o n e)
  have fc:H c'=none:=I.hok.fresh hge
  have ff:H h'.objs.size=none:=I.hok.fresh big
  have sP:SameT P H (upd (upd (upd H P (.tbl (ps++#[rawInt lp.line,rawInt lp.col,.ref c']))) c' (codeO c' (X.env.qual ++ "<lambda>"))) h'.objs.size (lamO h'.objs.size c' (X.env.qual ++ "<lambda>") params body scope (clOf X.env.cells scope.names []))):=fun b o n e=>by
   rw [upd_ne (ne_of_none e ff),upd_ne (ne_of_none e fc),upd_ne n]
   exact e
  generalize hH':upd (upd (upd H P (.tbl (ps++#[rawInt lp.line,rawInt lp.col,.ref c']))) c' (codeO c' (X.env.qual ++ "<lambda>"))) h'.objs.size (lamO h'.objs.size c' (X.env.qual ++ "<lambda>") params body scope (clOf X.env.cells scope.names []))=H' at sP
  have eP:H' P=some (.tbl (ps++#[rawInt lp.line,rawInt lp.col,.ref c'])):=by rw [← hH',upd_ne (Ne.symm nfP),upd_ne (Ne.symm ncP),upd_same]
  have ec:H' c'=some (codeO c' (X.env.qual ++ "<lambda>")):=by rw [← hH',upd_ne ncf,upd_same]
  have ef:H' h'.objs.size=some (lamO h'.objs.size c' (X.env.qual ++ "<lambda>") params body scope (clOf X.env.cells scope.names [])):=by rw [← hH',upd_same]
  have no:∀ b,H b=none→b≠h'.objs.size→b≠c'→H' b=none:=fun b n n1 n2=>by
   rw [← hH',upd_ne n1,upd_ne n2,upd_ne (fun z=>by rw [z,hP] at n;cases n)]
   exact n
  have un:Un X.fs [] H H' s.heap (h'.push ob):=by
   refine⟨fun b o e n _ _=>old b o (fun z=>by rw [z,hP] at n;cases n) e,fun b o e n _ _=>⟨o.slots,old b o (fun z=>by rw [z,hP] at n;cases n) e⟩,fun b o e n _=>no b n (fun z=>?_) (fun z=>?_),fun b o e _=>?_,fun b xs e=>sP b _ (fun z=>by rw [z,hP] at e;cases e) e,fun b o u e=>sP b _ (fun z=>by rw [z,hP] at e;cases e) e,fun b qs e=>?_⟩
   ·exact absurd z (Nat.ne_of_lt (Nat.lt_of_lt_of_le (Heap.lt_size e) big))
   ·exact absurd z (Nat.ne_of_lt (Nat.lt_of_lt_of_le (Heap.lt_size e) hge))
   ·by_cases hb:b=P
    ·subst hb
     exact⟨_,Heap.get?_push_of_some _ htb⟩
    ·exact⟨o,old b o hb e⟩
   ·by_cases hb:b=P
    ·subst hb
     rw [hP] at e
     cases e
     exact⟨_,eP⟩
    ·exact⟨#[],by rw [sP b _ hb e];simp⟩
  have hok:HOk X.prog X.w H' (h'.push ob):=fun b o e=>by
   by_cases h1:b=h'.objs.size
   ·subst h1
    rw [ef] at e
    cases e
    exact ext1 (by rw [hof,eob])
   ·by_cases h2:b=c'
    ·subst h2
     rw [ec] at e
     cases e
     obtain ⟨c2,oc,vs,t,e2,hoc,hd,hv⟩:=hrec
     cases e2
     exact⟨⟨_,oc,vs,t,rfl,Heap.get?_push_of_some _ hoc,hd,hv⟩,⟨oc,Heap.get?_push_of_some _ hoc⟩,fun h1 h2 ⟨c3,o3,v3,t3,z1,z2,z3,z4⟩ k=>⟨c3,o3,v3,t3,z1,by cases z1;exact k _ z2,z3,z4⟩⟩
    ·by_cases h3:b=P
     ·subst h3
      rw [eP] at e
      cases e
      exact Heap.get?_push_of_some _ htb
     ·have e0:H b=some o:=by rw [← hH',upd_ne h1,upd_ne h2,upd_ne h3] at e;exact e
      refine (I.hok b o e0).stay (fun d u hd z=>old d u (fun w=>?_) z) (fun d z=>sP d _ (fun w=>by rw [w,hP] at z;cases z) z) fun d xs z=>sP d _ (fun w=>by rw [w,hP] at z;cases z) z
      rcases hd with rfl|hd
      ·exact h3 w
      ·rw [w,hP] at hd;cases hd
  refine⟨.ref h'.objs.size,H',I.un un hok,rfl,h _ c' H' sP ⟨_,eP,?_,.inr ⟨c',?_,ec⟩⟩ ef ec⟩
  ·rw [Array.toList_append]
   exact TriplesOk_snoc _ _ _ _ ht
  ·rw [Array.toList_append]
   exact codeAmong_snoc _ ht hn
 ·refine kla_makeFunctionHit (mg:=X.mg) hcl I.ok.glob hgs hcode (C.keeps I.bk) oP ht hc hB' fun ctv h' tk hk hsz=>?_
  obtain ⟨ob,eob⟩:∃ ob:Obj,ob=kla_obj "<lambda>" (X.env.qual ++ "<lambda>") params body scope (clOf X.env.cells scope.names []) ((X.mg "__name__").getD .none) c' ctv:=⟨_,rfl⟩
  have hnf:ob.isFreed=false:=by rw [eob];rfl
  have hof:=Heap.get?_push_size h' hnf
  have ff:H h'.objs.size=none:=I.hok.fresh hsz
  have sm:Same H (upd H h'.objs.size (lamO h'.objs.size c' (X.env.qual ++ "<lambda>") params body scope (clOf X.env.cells scope.names []))):=Same.upd_new ff
  refine⟨.ref h'.objs.size,upd H h'.objs.size (lamO h'.objs.size c' (X.env.qual ++ "<lambda>") params body scope (clOf X.env.cells scope.names [])),I.laid (fun b u e=>Heap.get?_push_of_some _ (hk b u e)) hsz (ext1 (by rw [eob] at hof;exact hof)),rfl,h _ c' _ (SameT.of sm) (TabH.same ⟨ps,hP,ht,.inr ⟨c',hc,hcc⟩⟩ sm) upd_same (sm _ _ hcc)⟩
end
end L2
set_option maxRecDepth 100000
namespace L2
open PySem PySem.Spec PyProof.Rows PySem.W
section
variable {K:PySem.W.Frag} {H H':Hp} {P a:Addr} {lp:Pos} {q:Str} {xs:List V}
theorem TabH.at (t:TabH P lp q H):∃ ps,H P=some (.tbl ps):=let ⟨ps,h,_⟩:=t;⟨ps,h⟩
theorem SameT.at (s:SameT P H H') (t:TabH P lp q H) (h:SqT K H a xs):SqT K H' a xs:=by
 obtain ⟨ps,hP⟩:=t.at
 exact h.imp (fun z=>z.imp (fun e=>s _ _ (fun w=>by rw [w,hP] at e;cases e) e) fun ⟨o,e⟩=>⟨o,s _ _ (fun w=>by rw [w,hP] at e;cases e) e⟩) id
theorem SameT.seq (s:SameT P H H') (t:TabH P lp q H) (h:SqL K H a xs):SqL K H' a xs:=by
 obtain ⟨ps,hP⟩:=t.at
 exact h.imp (fun z=>z.imp (fun e=>s _ _ (fun w=>by rw [w,hP] at e;cases e) e) fun ⟨o,e⟩=>⟨o,s _ _ (fun w=>by rw [w,hP] at e;cases e) e⟩) id
theorem SameT.lst (s:SameT P H H') (t:TabH P lp q H) (h:H a=some (.lst xs)):H' a=some (.lst xs):=by
 obtain ⟨ps,hP⟩:=t.at
 exact s _ _ (fun w=>by rw [w,hP] at h;cases h) h
end
end L2
set_option maxRecDepth 100000
namespace L2
open PySem PySem.Spec PyProof.Rows PySem.W
noncomputable def Tabs0 (tabs:List (Addr×Addr)) (H:Hp):Prop:=∀ q∈tabs,H q.2=some (.tbl #[])
theorem law_callT {Pr:Program} {w:World} {K:PySem.W.Frag} {mg mb:Str→Option Value} {CX:CXT} {k:Nat} {fa a:Addr} {fd:FuncData} {x:Str} {sp:Sp} {s₁:Shared} {vs:List Value} {ns:List Int} {tabs:List (Addr×Addr)}
  (hT:TabsAt tabs s₁.heap) (hKt:∀ q∈tabs,K.lookup q.2=none)
  (hbm:∃ bm ob,mg "__builtins__"=some (.ref bm)∧bm≠builtinsNs∧s₁.heap.get? bm=some ob∧ob.cls=.type "module"∧ob.dict=some builtinsNs∧ob.data=.plain)
  (KX:K.In s₁.heap) (hns:s₁.heap.Ns mainGlobals mg) (hb:s₁.heap.Ns builtinsNs mb) (hbb:∀ x:Str,x≠"__name__"→mb x=bootBuiltins x) (hlim:s₁.heap.NoLimit) (hg:s₁.gens=#[])
  (ha:s₁.heap.get? a=some { cls:=.type "list",data:=.seq vs.toArray }) (hi:IntsAre vs ns) (hl:ns.length≤sizeLine) (hr:Room k callerA)
  (F:∀ base:Heap,K.In base→base.Ns mainGlobals mg→(∀ q∈tabs,CodeHd base q.1 q.2∧base.BuiltinsAt mg q.2)→FnOk Pr w K mg base CX k fa fd [x] sp) (hbind:∀ (s:Shared) (u:Value),BindsTo s fd ⟨[u],[]⟩ [(x,u)])
  (hsp:∀ H:Hp,Tabs0 tabs H→SqL K H a (ns.map V.int)→sp [.ref a] H (fun v _=>v=.bl true) fun _ _ _=>False)
  (hCX:∀ H e s',CX [] H s₁ (fun _ _ _=>False) e s'→False) :
  codeAny (model Pr w) callerA (.call (.ref fa) ⟨[.ref a],[]⟩) (fun r s'=>r=.ok (.ret (.bool true))∧OldK s₁.heap s'.heap∧s'.os=s₁.os∧AllBare s'.gens) s₁:=by
 have rv:=vals_ints hi
 have lenV:=hi.length
 have naT:∀ q∈tabs,q.2≠a:=fun q hq z=>by
  have e:=(hT q hq).2
  rw [z,ha] at e
  cases e
 have core:∀ H:Hp,(∀ b u,H b=some u→(b=a∧K.lookup a=none∧∃ xs,u=.frz { cls:=.type "list",data:=.seq vs.toArray } (.lst xs))∨∃ q∈tabs,q.2=b∧u=.tbl #[])→Tabs0 tabs H→SqL K H a (ns.map V.int)→HOk Pr w H s₁.heap →
   codeAny (model Pr w) callerA (.call (.ref fa) ⟨[.ref a],[]⟩) (fun r s'=>r=.ok (.ret (.bool true))∧OldK s₁.heap s'.heap∧s'.os=s₁.os∧AllBare s'.gens) s₁:=by
  intro H hA h0 hS hok
  have base_of:∀ {b:Addr} {o:Obj},s₁.heap.get? b=some o→H b=none→(hidT s₁.heap H).get? b=some o:=fun e n=>hidT_get e n
  have noD:∀ {b:Addr} {o:Obj},s₁.heap.get? b=some o→(∀ v n,o.data≠.seq v n)→(∀ v,o.data=.fields v→o.cls≠.none)→H b=none:=fun {b o} e d d2=>by
   cases q:H b with
   | none=>rfl
   | some u =>
    rcases hA b u q with ⟨rfl,_⟩|⟨t,ht,rfl,_⟩
    ·rw [ha] at e
     cases e
     exact absurd rfl (d _ _)
    ·rw [(hT t ht).2] at e
     cases e
     exact absurd rfl (d2 _ rfl)
  have noA:∀ {b:Addr} {o:Obj} {es:Array DictEntry} {ep:Nat},s₁.heap.get? b=some o→o.data=.dict es ep→H b=none:=fun e d=>noD e (fun v n z=>by rw [d] at z;cases z) fun v z=>by rw [d] at z;cases z
  have nsK:∀ {b:Addr} {m:Str→Option Value},s₁.heap.Ns b m→(hidT s₁.heap H).Ns b m:=fun {b m} ⟨o,es,ep,e,d,r⟩=>⟨o,es,ep,base_of e (noA e d),d,r⟩
  have hKb:K.In (hidT s₁.heap H):=fun b o e=>base_of (KX b o e) (by
   cases q:H b with
   | none=>rfl
   | some u =>
    rcases hA b u q with ⟨rfl,z,_⟩|⟨t,ht,rfl,_⟩
    ·rw [z] at e;cases e
    ·rw [hKt t ht] at e;cases e)
  have hM:Mod K mg (hidT s₁.heap H):=⟨hKb,nsK hns,⟨mb,nsK hb,hbb⟩,let ⟨mc,h1,h2⟩:=hlim;⟨mc,nsK h1,h2⟩⟩
  have hTb:∀ q∈tabs,CodeHd (hidT s₁.heap H) q.1 q.2∧(hidT s₁.heap H).BuiltinsAt mg q.2:=fun q hq=>by
   refine⟨?_,?_⟩
   ·obtain ⟨o,vs',file,tf,flags,tg,inF,text,tt,e1,e2,e3,r⟩:=(hT q hq).1
    exact⟨o,vs',file,tf,flags,tg,inF,text,tt,base_of e1 (noD e1 (fun v n z=>by rw [e3] at z;cases z) fun v _ z=>by rw [e2] at z;cases z),e2,e3,r⟩
   ·obtain ⟨bm,ob,b1,b2,b3,b4,b5,b6⟩:=hbm
    refine⟨bm,ob,b1,b2,fun z=>?_,fun z=>?_,base_of b3 (noD b3 (fun v n z=>by rw [b6] at z;cases z) fun v z=>by rw [b6] at z;cases z),b4,b5,b6⟩
    ·obtain ⟨o,es,ep,e,hd,_⟩:=hns
     rw [z,e] at b3;cases b3;rw [hd] at b6;cases b6
    ·rw [z,(hT q hq).2] at b3;cases b3;cases b4
  have e0:Env0 Pr w K mg (hidT s₁.heap H) callerA [] s₁ H:=⟨rfl,hM,fun b o e=>of_hidT e,Nat.le_of_eq (hidT_size _ _),trivial,fun b hb=>absurd (show b∈([]:List Addr) from hb) (by simp),hok,.of_eq hg⟩
  refine codeAny_mono ((F _ hKb (nsK hns) hTb).run callerA [] s₁ H ⟨[.ref a],[]⟩ [.ref a] [.ref a] _ _ hr e0 (hbind s₁ (.ref a)) (.cons rfl .nil) (hsp H h0 hS)) fun r s' h=>?_
  cases r with
  | error e=>exact (hCX H e s' h).elim
  | ok fl =>
   cases fl with
   | next=>exact False.elim h
   | brk=>exact False.elim h
   | cont=>exact False.elim h
   | ret u =>
    obtain ⟨v,H',os,bare,un,hok',r',q⟩:=h
    have q':v=.bl true:=q
    subst q'
    obtain rfl:u=Value.bool true:=r'
    have was:∀ b o,s₁.heap.get? b=some o→asItWas s₁.heap s'.heap b o∧∃ o',s'.heap.get? b=some o':=fun b o e=>by
     cases q:H b with
     | none =>
      have z:=un.keep b o e q (by intro z;exact absurd (show b∈([]:List Addr) from z) (by simp)) (by simp)
      exact⟨.inl z,_,z⟩
     | some u =>
      rcases hA b u q with ⟨rfl,_,xs,rfl⟩|⟨t,ht,rfl,rfl⟩
      ·have z2:=un.frzs b _ _ q
       obtain ⟨e1,_⟩:=hok b _ q
       obtain ⟨e2,_⟩:=hok' b _ z2
       rw [e] at e1;cases e1
       exact⟨.inl e2,_,e2⟩
      ·obtain ⟨more,z2⟩:=un.tbls t.2 _ q
       have e2:s'.heap.get? t.2=some { cls:=.none,data:=.fields (#[]++more) }:=hok' t.2 _ z2
       have e1:=(hT t ht).2
       rw [e] at e1
       cases e1
       exact⟨.inr (.inl ⟨((hT t ht).1.tab (hT t ht).2).isCodeTable,rfl,#[],more,rfl,e2⟩),_,e2⟩
    exact⟨rfl,⟨fun b o e=>(was b o e).1,fun b o e=>(was b o e).2⟩,os,bare⟩
 have tabOk:∀ (H:Hp) q,q∈tabs→ObjOk Pr w H s₁.heap q.2 (.tbl #[]):=fun H q hq=>(hT q hq).2
 cases hk:K.lookup a with
 | some o =>
  have e:=KX a o hk
  rw [ha] at e
  cases e
  refine core (fun b=>if (tabs.any fun q=>q.2 == b)=true then some (.tbl #[]) else none) (fun b u z=>?_) (fun q hq=>if_pos (List.any_eq_true.mpr ⟨q,hq,by simp⟩)) (.inr ⟨_,vs.toArray,_,hk,rfl,rfl,rfl,by rw [List.size_toArray,lenV];exact hl,by simpa using rv⟩) (fun b u z=>?_)
  ·by_cases hb:(tabs.any fun q=>q.2 == b)=true
   ·have z':=(if_pos hb).symm.trans z
    cases z'
    obtain ⟨q,hq,e⟩:=List.any_eq_true.mp hb
    exact .inr ⟨q,hq,beq_iff_eq.mp e,rfl⟩
   ·have z':=(if_neg hb).symm.trans z
    cases z'
  ·by_cases hb:(tabs.any fun q=>q.2 == b)=true
   ·have z':=(if_pos hb).symm.trans z
    cases z'
    obtain ⟨q,hq,e⟩:=List.any_eq_true.mp hb
    rw [← beq_iff_eq.mp e]
    exact tabOk _ q hq
   ·have z':=(if_neg hb).symm.trans z
    cases z'
 | none =>
  have aT:¬ (tabs.any fun q=>q.2 == a)=true:=fun z=>by
   obtain ⟨q,hq,e⟩:=List.any_eq_true.mp z
   exact naT q hq (beq_iff_eq.mp e)
  obtain ⟨H,hH⟩:∃ H:Hp,H=fun b=>if (tabs.any fun q=>q.2 == b)=true then some (.tbl #[]) else if b=a then some (.frz { cls:=.type "list",data:=.seq vs.toArray } (.lst (ns.map V.int))) else none:=⟨_,rfl⟩
  have hHa:H a=some (.frz { cls:=.type "list",data:=.seq vs.toArray } (.lst (ns.map V.int))):=by
   rw [hH]
   show (if _ then _ else _)=_
   rw [if_neg aT,if_pos rfl]
  have hHt:Tabs0 tabs H:=fun q hq=>by
   rw [hH]
   exact if_pos (List.any_eq_true.mpr ⟨q,hq,by simp⟩)
  have all:∀ b u,H b=some u→(b=a∧u=.frz { cls:=.type "list",data:=.seq vs.toArray } (.lst (ns.map V.int)))∨∃ q∈tabs,q.2=b∧u=.tbl #[]:=fun b u z=>by
   rw [hH] at z
   have z:(if (tabs.any fun q=>q.2 == b)=true then some (HO.tbl #[]) else if b=a then some (.frz { cls:=.type "list",data:=.seq vs.toArray } (.lst (ns.map V.int))) else none)=some u:=z
   by_cases hb:(tabs.any fun q=>q.2 == b)=true
   ·rw [if_pos hb] at z
    cases z
    obtain ⟨q,hq,e⟩:=List.any_eq_true.mp hb
    exact .inr ⟨q,hq,beq_iff_eq.mp e,rfl⟩
   ·rw [if_neg hb] at z
    by_cases h2:b=a
    ·rw [if_pos h2] at z
     cases z
     exact .inl ⟨h2,rfl⟩
    ·rw [if_neg h2] at z
     cases z
  refine core H (fun b u z=>(all b u z).imp (fun ⟨e,eu⟩=>⟨e,hk,_,eu⟩) id) hHt (.inl (.inr ⟨_,hHa⟩)) fun b u z=>?_
  rcases all b u z with ⟨rfl,rfl⟩|⟨q,hq,rfl,rfl⟩
  ·exact⟨ha,by rw [List.length_map];exact hl,vs,_,rv,ha⟩
  ·exact tabOk _ q hq
end L2
set_option maxRecDepth 100000
set_option maxRecDepth 100000
set_option maxRecDepth 100000
namespace L2
open PySem PySem.Spec PyProof.Rows
theorem take_map' {α β:Type} {rs:List α} {g:α→β} {i:Nat} {r:α} (h:rs[i]?=some r):(rs.take (i+1)).map g=(rs.take i).map g++[g r]:=by
 rw [List.take_add_one,h,List.map_append]
 rfl
section
variable {K:PySem.W.Frag} {H:Hp} {σ:St} {Q:VK} {ix:List (Option Nat)} {l:Addr} {xs:List V} {rs:List (List Int)}
theorem rd_mapRows {te:TE} (fr:St) (g:List Int→List Int) (hpk:pick ix σ=none::fr) (hl:SqL K H l xs) (hr:RowsL K H xs rs) (hn:rs.length≤1000)
  (elt:∀ (a:Addr) (r:List Int) (H':Hp) (Qc:VK),r∈rs→Same H H'→SqT K H' a (r.map V.int)→(∀ p H5,Same H' H5→SqT K H5 p ((g r).map V.int)→Qc (.ref p) H5)→te (some (.ref a)::fr) H' Qc)
  (hQ:∀ l2 H' ys,H l2=none→Same H H'→H' l2=some (.lst ys)→RowsL K H' ys (rs.map g)→Q (.ref l2) H'):CompGoal ix (gName 0) (fun _ H Q=>Q true H) te σ Q (Itl K l) H:=by
 have hlen:=hr.length
 refine comp_rows (K:=K) 1 fr rs.length (fun i=>(rs.take i).map g) hpk rfl (fun i=>by rw [List.length_map];exact Nat.le_trans (List.length_take_le' _ _) hn) (fun H' s=>⟨xs,s.seq hl,by lia⟩) (fun i H' hi s=>⟨xs,xs[i]'(by lia),s.seq hl,List.getElem?_eq_getElem (by lia)⟩) (fun i x H' H2 own ho hi s hy Qy Qn ky kn=>?_) (fun l2 H' ys a b c d=>hQ l2 H' ys a b c (by rw [List.take_length] at d;exact d))
 obtain ⟨o1,rfl⟩:∃ o1,own=[o1]:=by match own,ho with|[o1],_=>exact⟨o1,rfl⟩
 obtain ⟨rfl,e⟩:=hy
 obtain ⟨a,r,rfl,ha,hi2⟩:=hr.get (e xs (s.seq hl))
 have hmem:r∈rs:=by
  obtain ⟨h1,h2⟩:=List.getElem?_eq_some_iff.mp hi2
  rw [← h2]
  exact List.getElem_mem h1
 dsimp only [gName]
 rw [if_pos rfl]
 exact elt a r _ _ hmem s (s.at ha) fun p H5 s5 hp=>ky [some (.ref a)] p (g r) H5 rfl s5 hp (take_map' hi2)
end
end L2
namespace L2
open PySem PySem.Spec PyProof.Rows PySem.W
theorem RowsL.sameT {K:PySem.W.Frag} {H H':Hp} {P:Addr} {lp:Pos} {q:Str} (s:SameT P H H') (t:TabH P lp q H):∀ {xs:List V} {rs:List (List Int)},RowsL K H xs rs→RowsL K H' xs rs
 | _,_,.nil=>.nil
 | _,_,.cons h u=>.cons (s.at t h) (RowsL.sameT s t u)
end L2
namespace L2
open PySem PySem.Spec PyProof.Rows
theorem SameT.new {P a:Addr} {lp:Pos} {q:Str} {H H':Hp} (s:SameT P H H') (t:TabH P lp q H') (n:H' a=none):H a=none:=by
 match e:H a with
 | none=>rfl
 | some o =>
  by_cases z:a=P
  ·obtain ⟨ps,h,_⟩:=t
   rw [z,h] at n
   cases n
  ·rw [s a o z e] at n
   cases n
end L2
namespace L2
open PySem PySem.Spec PyProof.Rows
theorem TabH.off {P l:Addr} {lp:Pos} {q:Str} {H:Hp} {ys zs:List V} (t:TabH P lp q H) (e:H l=some (.lst ys)):TabH P lp q (upd H l (.lst zs)):=by
 obtain ⟨ps,h1,h2,h3⟩:=t
 refine⟨ps,by rw [upd_ne (fun z=>by rw [z,e] at h1;cases h1)];exact h1,h2,h3.imp id fun ⟨c,z,y⟩=>⟨c,z,by rw [upd_ne (fun z=>by rw [z,e] at y;cases y)];exact y⟩⟩
end L2
namespace L2
open PySem PySem.Spec PyProof.Rows
section
variable {K:PySem.W.Frag} {H:Hp} {σ:St} {Q:VK} {ix:List (Option Nat)}
theorem comp_gen {J:It} {g:TG} {tt:TT} {te:TE} (t:Nat) (fr:St) (n:Nat) (Pv:Addr→Nat→List V→Hp→Prop) (hpk:pick ix σ=List.replicate t none++fr)
  (h0:∀ l H',H l=none→Same H H'→H' l=some (.lst [])→Pv l 0 [] H') (hn:∀ l i ys H',Pv l i ys H'→ys.length≤1000)
  (hstop:∀ H',Same H H'→J.stop n H') (hgo:∀ i H',i<n→Same H H'→J.go i H')
  (step:∀ l i x H' H2 own ys,own.length=t→i<n→H l=none→Same H H'→H' l=some (.lst ys)→Pv l i ys H'→J.yld i H' x H2→∀ (Qy:St→VK) (Qn:St→Hp→Prop),
   (∀ own2 v H5,own2.length=t→Same H' H5→Pv l (i+1) (ys++[v]) (upd H5 l (.lst (ys++[v])))→Qy (own2++fr) v H5)→(∀ own2 H4,own2.length=t→Same H' H4→Pv l (i+1) ys H4→Qn (own2++fr) H4) →
   g x (own++fr) H2 fun σ2 H3=>tt σ2 H3 fun b H4=>if b=true then te σ2 H4 (Qy σ2) else Qn σ2 H4)
  (hQ:∀ l H' ys,H l=none→Same H H'→H' l=some (.lst ys)→Pv l n ys H'→Q (.ref l) H'):CompGoal ix g tt te σ Q J H:=by
 intro l hl
 refine⟨fun i m σ1 ys H'=>m=n - i∧i≤n∧(∃ own:St,own.length=t∧σ1=own++fr)∧Same H H'∧H' l=some (.lst ys)∧Pv l i ys H',⟨n,by simp,Nat.zero_le _,⟨_,List.length_replicate,hpk⟩,Same.upd_new hl,upd_same,h0 l _ hl (Same.upd_new hl) upd_same⟩,?_⟩
 rintro i m σ1 ys H' ⟨rfl,hi,⟨own,ho,rfl⟩,hs,hl',hp⟩
 refine⟨hl',?_⟩
 by_cases hlt:i<n
 ·refine .inr ⟨hgo i H' hlt hs,n - (i+1),by lia,fun x H2 hy=>step l i x H' H2 own ys ho hlt hl hs hl' hp hy _ _ (fun own2 v H5 ho2 s5 hp5=>?_) fun own2 H4 ho2 s4 hp4=>?_⟩
  ·have l5:=s5 _ _ hl'
   refine⟨l5,Nat.lt_of_le_of_lt (hn l i ys H' hp) (small1000 (Nat.le_refl 1000)),rfl,hlt,⟨own2,ho2,rfl⟩,fun b o e=>?_,upd_same,hp5⟩
   rw [upd_ne (ne_of_none e hl)]
   exact s5 _ _ (hs _ _ e)
  ·exact⟨rfl,hlt,⟨own2,ho2,rfl⟩,hs.trans s4,s4 _ _ hl',hp4⟩
 ·obtain rfl:i=n:=by lia
  exact .inl ⟨hstop H' hs,hQ l H' ys hl hs hl' hp⟩
end
inductive LstsL (H:Hp):List V→List (List Int)→Prop where
 | nil:LstsL H [] []
 | cons {a:Addr} {r:List Int} {xs:List V} {rs:List (List Int)} (h:H a=some (.lst (r.map V.int))) (t:LstsL H xs rs):LstsL H (.ref a::xs) (r::rs)
end L2
namespace L2
open PySem PySem.Spec PyProof.Rows
noncomputable def clsItem:Stmt→Nat→Stmt
 | .ClassDef _ _ _ body _ _ _ _ _ _ _,j=>body.getD j (.Pass ⟨0,0,0,0⟩)
 | s,_=>s
noncomputable def DefM (K:PySem.W.Frag) (f:Addr) (x qual:Str) (st:Stmt) (ps:List Str):Prop:=∃ fd,Fun K x qual st f fd∧Binds K fd ps []
noncomputable def OkM (P:Program) (w:World) (K:PySem.W.Frag) (mg:Str→Option Value) (base:Heap) (k:Nat) (f:Addr) (ps:List Str) (sp:Sp):Prop :=
 ∃ fd,FnOk P w K mg base CX0 k f fd ps sp∧PySem.W.keepIn K (.ref f)=true∧Binds K fd ps []
structure ClsM (K:PySem.W.Frag) (C:Addr) (m:Str) (f:Addr):Prop where
 rd:PySem.W.readsIn K C (.type "type")=true
 at_:PySem.W.findCls K (.ref C) (.type "type") m=some (.val (.ref f))
 sp:PySem.W.specialIn K (.ref C) "__getattribute__"=some (some (.builtin "type.__getattribute__"))
section
variable {P:Program} {w:World} {K:PySem.W.Frag} {mg:Str→Option Value} {base:Heap}
theorem DefM.ok {fa:Addr} {x qual:Str} {st:Stmt} {N ps:List Str} {k:Nat} {sp:Sp} (D:DefM K fa x qual st ps) (S:FnScope N ps (defScope st)) (len:∀ vs H Q E,sp vs H Q E→vs.length=ps.length)
  (hbody:∀ (f:Addr) (cdv:Value) (A:Around) (outer:List Env) (s:Shared) (H:Hp) (vs:List V) (Q:VK) (E:XK),Room k (A.deeper (envOfC qual (defScope st) s.heap.objs.size f cdv))→sp vs H Q E →
   ∃ t,PSs (cxOf CX0 P w K mg base N qual (defScope st) f cdv A outer s H E).nox (defBody st) t∧t { nx:=fun _ H'=>Q .non H',rt:=Q } (start N vs) H):OkM P w K mg base (k+1) fa ps sp:=by
 obtain ⟨fd,F,hb⟩:=D
 exact⟨fd,F.ok S len fun cdv A outer s H vs Q E hr h=>hbody fa cdv A outer s H vs Q E hr h,F.kp,hb⟩
end
section
variable {X:Cx} {k:Nat} {f C:Addr} {x m:Str} {ps:List Str} {sp:Sp} {p pos apos:Pos} {e o:Expr} {es:List Expr} {ta:TE} {t:TA}
theorem pmeth {pl:Sem Bool} (O:OkM X.prog X.w X.K X.mg X.base k f ps sp) (c:Cls X.K C) (hm:Meth X.K C m f) (hr:Room k X.A) (he:PE X o ta) (ha:PA X (e::es) t)
  (hst:starEach (e::es) X.env=(false,eval e X.env)::starEach es X.env:=by rfl) (hpl:(backTo pos (starEach es X.env)).any (·.1)=false:=by rfl)
  (ht:eval (.Call (.Attribute o m apos) (e::es) [] pos) X.env=(do
   let ov ← eval o X.env
   standAt apos.atName
   let (f,first) ← holding [ov] (getMethod ov m pl)
   callWith pos f first (backTo pos (starEach (e::es) X.env)) (backToKw pos (keywordEach [] X.env))):=by rfl) :
  PE X (.Call (.Attribute o m apos) (e::es) [] pos) (tMeth C m sp [] E0 ta t):=by
 obtain ⟨fd,F,_,hb⟩:=O
 exact pe_meth he c hm F hr hb .nil pass0 ha hst hpl ht
theorem pmake (O:OkM X.prog X.w X.K X.mg X.base k f ps sp) (M:Mk X.K C f) (hr:Room (k+1) X.A) (hg:Gl X x) (hm:X.mg x=some (.ref C)) (ha:PA X (e::es) t)
  (hdb:(x == ("__debug__":Str))=false:=by decide) (he:starEach (e::es) X.env=(false,eval e X.env)::starEach es X.env:=by rfl) (hpl:(backTo pos (starEach es X.env)).any (·.1)=false:=by rfl) :
  PE X (.Call (.Name x p) (e::es) [] pos) (tMake C sp [] E0 t):=by
 obtain ⟨fd,F,_,hb⟩:=O
 exact pe_make M F hr hg hm hb .nil pass0 ha hdb he hpl
theorem pcls {pl:Sem Bool} (O:OkM X.prog X.w X.K X.mg X.base k f ps sp) (c:ClsM X.K C m f) (hr:Room k X.A) (hg:Gl X x) (hm:X.mg x=some (.ref C)) (ha:PA X (e::es) t)
  (hdb:(x == ("__debug__":Str))=false:=by decide) (hst:starEach (e::es) X.env=(false,eval e X.env)::starEach es X.env:=by rfl) (hpl:(backTo pos (starEach es X.env)).any (·.1)=false:=by rfl)
  (ht:eval (.Call (.Attribute (.Name x p) m apos) (e::es) [] pos) X.env=(do
   let ov ← eval (.Name x p) X.env
   standAt apos.atName
   let (f,first) ← holding [ov] (getMethod ov m pl)
   callWith pos f first (backTo pos (starEach (e::es) X.env)) (backToKw pos (keywordEach [] X.env))):=by rfl) :
  PE X (.Call (.Attribute (.Name x p) m apos) (e::es) [] pos) (tCall sp [] E0 t):=by
 obtain ⟨fd,F,kp,hb⟩:=O
 intro pins s σ H Q I h
 refine PySem.W.methodCall_KW (pl:=pl) (ld_glob I hg hm ?_ hdb) ht
 refine PySem.W.method_cls I.kIn c.sp (PySem.W.cls_value I.kIn c.rd c.at_ rfl ?_)
 refine PySem.W.callWith_K (first:=[]) (h₀:=X.base) I.ok.mod.kin kp (thn (ha pos pins _ σ H _ (I.tok _) h) fun us s1 ⟨vs,H1,I1,r,q⟩=>⟨I1.kIn,?_⟩) hst hpl
 exact run_fn F hr hb .nil pass0 I1 r q
theorem kpe_fld {f:Str} (K:PySem.W.Frag) (hK:X.K=K) (he:PE X e ta) (hb:attributeBase e f X.env (eval e X.env)=eval e X.env):PE X (.Attribute e f pos) (tFld K ta f):=hK ▸ pe_fld he hb
theorem kps_fld {f:Str} {value:Expr} {pos':Pos} {tv:TE} (K:PySem.W.Frag) (hK:X.K=K) (ha:PE X o ta) (hv:PE X value tv) (hs:swapsWith value (some (.Attribute o f pos')) pos.line X.env=pure false):PS X (.Assign [.Attribute o f pos'] value pos) (sFld K ta tv f):=hK ▸ ps_fld ha hv hs
end
section
variable {K:PySem.W.Frag} {H:Hp} {σ:St} {Q:VK} {D:Ends} {ta tv:TE} {t:TA} {C:Addr} {m f:Str} {sp:Sp} {x:V}
noncomputable def rMeth (C:Addr) (m:Str) (sp:Sp) (t:TA) (σ:St) (Q:VK) (x:V) (H1:Hp):Prop:=∃ a dx fs,x=.ref a∧H1 a=some (.ins C dx fs)∧fs.lookup m=none∧t σ H1 fun vs H2=>sp (x::(vs++[])) H2 Q E0
theorem r_meth (h:ta σ H fun x H1=>rMeth C m sp t σ Q x H1):tMeth C m sp [] E0 ta t σ H Q:=h
theorem r_meth1 {a dx:Addr} {fs:List (Str×V)} (e:H a=some (.ins C dx fs)) (l:fs.lookup m=none) (h:t σ H fun vs H2=>sp (.ref a::(vs++[])) H2 Q E0):rMeth C m sp t σ Q (.ref a) H:=⟨a,dx,fs,rfl,e,l,h⟩
noncomputable def rMake (C:Addr) (sp:Sp) (Q:VK) (vs:List V) (H1:Hp):Prop:=∀ x dx,H1 x=none→H1 dx=none→dx≠x→sp (.ref x::(vs++[])) (upd (upd H1 dx (.own x)) x (.ins C dx [])) (fun v H2=>v=.non∧Q (.ref x) H2) E0
theorem r_make (h:t σ H fun vs H1=>rMake C sp Q vs H1):tMake C sp [] E0 t σ H Q:=h
noncomputable def rFld (K:PySem.W.Frag) (f:Str) (Q:VK) (x:V) (H1:Hp):Prop:=∃ a C dx fs v,x=.ref a∧H1 a=some (.ins C dx fs)∧Cls K C∧NoAttr K C f∧fs.lookup f=some v∧Q v H1
theorem r_fld (h:ta σ H fun x H1=>rFld K f Q x H1):tFld K ta f σ H Q:=h
theorem r_fld1 {a dx:Addr} {fs:List (Str×V)} {v:V} (e:H a=some (.ins C dx fs)) (c:Cls K C) (n:NoAttr K C f) (l:fs.lookup f=some v) (h:Q v H):rFld K f Q (.ref a) H:=⟨a,C,dx,fs,v,rfl,e,c,n,l,h⟩
noncomputable def rSFld (K:PySem.W.Frag) (f:Str) (D:Ends) (σ:St) (y:V) (x:V) (H2:Hp):Prop:=∃ a C dx fs,x=.ref a∧H2 a=some (.ins C dx fs)∧Cls K C∧NoAttr K C f∧fs.length<1000∧D.nx σ (upd H2 a (.ins C dx (putF f y fs)))
theorem r_sfld (h:tv σ H fun y H1=>ta σ H1 fun x H2=>rSFld K f D σ y x H2):sFld K ta tv f D σ H:=h
theorem r_sfld1 {a dx:Addr} {fs:List (Str×V)} {y:V} (e:H a=some (.ins C dx fs)) (c:Cls K C) (n:NoAttr K C f) (l:fs.length<1000) (h:D.nx σ (upd H a (.ins C dx (putF f y fs)))):rSFld K f D σ y (.ref a) H:=⟨a,C,dx,fs,rfl,e,c,n,l,h⟩
end
end L2
set_option maxRecDepth 100000
set_option maxRecDepth 100000
namespace L2
open PySem PySem.Spec PyProof.Rows
theorem KeysL.sameT {K:PySem.W.Frag} {H H':Hp} {P:Addr} {lp:Pos} {q:Str} (s:SameT P H H') (t:TabH P lp q H):∀ {xs:List V} {ks:List (List Int×Int)},KeysL K H xs ks→KeysL K H' xs ks
 | _,_,.nil=>.nil
 | _,_,.cons h hw u=>.cons (s.at t h) (s.at t hw) (KeysL.sameT s t u)
end L2
set_option maxRecDepth 100000
namespace L2
open PySem PySem.Spec PyProof.Rows PySem.Builtin PySem.Builtin.Str
noncomputable def rLink (tc:TE) (r':R2) (y:V) (σ:St) (Q:VK):VK:=fun z H3=>∃ k,z=.bl k∧(if k=true then tc σ H3 fun w' H4=>r' y w' H4 Q else Q (.bl false) H3)
theorem r_chain {r r':R2} {ta tb tc:TE} {σ:St} {H:Hp} {Q:VK} (h:ta σ H fun x H1=>tb σ H1 fun y H2=>r x y H2 (rLink tc r' y σ Q)):tChain r r' ta tb tc σ H Q:=h
theorem r_link {r':R2} {tc:TE} {y:V} {σ:St} {H:Hp} {Q:VK} {k:Bool} (h:if k=true then tc σ H fun w' H4=>r' y w' H4 Q else Q (.bl false) H):rLink tc r' y σ Q (.bl k) H:=⟨k,rfl,h⟩
end L2
namespace L2
open PySem PySem.Spec PyProof.Rows
theorem SameT.upd_old {P:Addr} {H H2:Hp} {l:Addr} {o:HO} (s:SameT P H H2) (h:H l=none):SameT P H (upd H2 l o):=fun b u n e=>by
 rw [upd_ne (fun z=>by rw [z,h] at e;cases e)]
 exact s b u n e
end L2
set_option maxRecDepth 100000
namespace L2
open PySem PySem.Spec PyProof.Rows
theorem r_extend {H:Hp} {Q:VK} {l b:Addr} {xs zs:List V} (e1:H l=some (.lst xs)) (e2:H b=some (.lst zs)) (n:xs.length+zs.length≤1000) (h:Q .non (upd H l (.lst (xs++zs)))):rExtend (.ref l) [.ref b] H Q:=⟨l,b,xs,zs,rfl,rfl,e1,e2,Nat.le_of_lt (small1000 n),h⟩
end L2
namespace Srt
open PySem PySem.W PyProof.Rows
section
variable {n:Nat} {key:Nat→Int}
noncomputable def ky (key:Nat→Int) (p:Array Nat) (i:Nat):Int:=key (p.getD i 0)
end
end Srt
namespace L2
open PySem PySem.Spec PySem.W PyProof.Rows
noncomputable def lk (r:List Int):Int:=r.foldl (fun k a=>k*4000001+a) 0
end L2
set_option maxRecDepth 100000
set_option maxRecDepth 100000
set_option maxRecDepth 100000
set_option maxRecDepth 100000
set_option maxRecDepth 100000
set_option maxRecDepth 100000
namespace L2
open PySem PySem.Spec PyProof.Rows PySem.W
section
variable {X:Cx} {pins:List (Addr×Obj)} {σ:St} {H:Hp} {s:Shared}
theorem min_loopC {l f S I:Addr} {xs:List V} {kz:Nat→Int} {R:PySem.Result→Shared→Prop}
  (hh:X.A.handled=none)
  (KC:∀ (pins':List (Addr×Obj)) (H':Hp) (s':Shared) (i:Nat) (x:V) (u:Value),xs[i]?=some x→Same H H'→RelV x u→Inv X pins' σ H' s'→wpAny (model X.prog X.w) X.A.in1 (call (.ref f) [u]) (EP X pins' σ fun v H''=>v=.int (kz i)∧Same H' H'') (fun _ _=>False) s')
  (hs:SqL X.K H l xs) (hSI:S≠I)
  (fI:I≠X.env.locals∧(I∈X.ex∨X.s₀.heap.objs.size≤I)∧(∀ x c,X.env.cells.lookup x=some c→c≠I)∧∀ p∈X.pn++pins,p.1≠I)
  (fS:X.s₀.heap.get? S=none∧(∀ x c,X.env.cells.lookup x=some c→c≠S)∧∀ p∈X.pn++pins,p.1≠S)
  (hR:∀ i x vb s' H',xs[i]?=some x→RelV x vb→(∀ j,j<xs.length→kz i≤kz j∧(j<i→kz i<kz j))→Inv X pins σ H' s'→Same H H'→R (.ok (.ret vb)) s') :
  ∀ (r j i:Nat) (s':Shared) (H':Hp) (x:V) (vb:Value) (tb:Tok) (c:Nat) (oI:Obj),xs.length - (j+1)=r→j+1≤xs.length→Inv X ((pins++[(S,seqObj "list" #[vb,.int (kz i) tb] c)])++[(I,oI)]) σ H' s'→Same H H'→s'.heap.IsListIter I l (j+1) →
   xs[i]?=some x→RelV x vb→i≤j→(∀ j',j'≤j→kz i≤kz j'∧(j'<i→kz i<kz j')) →
   codeAny (model X.prog X.w) X.A (.builtin "min.loop" ⟨[.ref I,.ref f,.ref S],[]⟩) R s':=by
 have hname:(toString "min"++toString ".loop":String) = "min.loop":=by decide
 have pI:∀ o,∀ p∈X.pn++(pins++[(S,o)]),p.1≠I:=fun o p hp=>by
  rcases List.mem_append.mp hp with z|z
  ·exact fI.2.2.2 p (List.mem_append_left _ z)
  ·rcases List.mem_append.mp z with z|z
   ·exact fI.2.2.2 p (List.mem_append_right _ z)
   ·rw [List.mem_singleton.mp z];exact hSI
 have pS:∀ o,∀ p∈X.pn++(pins++[(I,o)]),p.1≠S:=fun o p hp=>by
  rcases List.mem_append.mp hp with z|z
  ·exact fS.2.2 p (List.mem_append_left _ z)
  ·rcases List.mem_append.mp z with z|z
   ·exact fS.2.2 p (List.mem_append_right _ z)
   ·rw [List.mem_singleton.mp z];exact hSI.symm
 have swap:∀ {s':Shared} {H':Hp} {oS oI:Obj},Inv X ((pins++[(S,oS)])++[(I,oI)]) σ H' s'→Inv X ((pins++[(I,oI)])++[(S,oS)]) σ H' s':=fun J=>J.pins_of fun p hp=>by
  rcases List.mem_append.mp hp with z|z
  ·rcases List.mem_append.mp z with z|z
   ·exact J.pin p (List.mem_append_right _ (List.mem_append_left _ (List.mem_append_left _ z)))
   ·exact J.pin p (List.mem_append_right _ (List.mem_append_right _ z))
  ·exact J.pin p (List.mem_append_right _ (List.mem_append_left _ (List.mem_append_right _ z)))
 have swap':∀ {s':Shared} {H':Hp} {oS oI:Obj},Inv X ((pins++[(I,oI)])++[(S,oS)]) σ H' s'→Inv X ((pins++[(S,oS)])++[(I,oI)]) σ H' s':=fun J=>J.pins_of fun p hp=>by
  rcases List.mem_append.mp hp with z|z
  ·rcases List.mem_append.mp z with z|z
   ·exact J.pin p (List.mem_append_right _ (List.mem_append_left _ (List.mem_append_left _ z)))
   ·exact J.pin p (List.mem_append_right _ (List.mem_append_right _ z))
  ·exact J.pin p (List.mem_append_right _ (List.mem_append_left _ (List.mem_append_right _ z)))
 intro r
 induction r with
 | zero =>
  intro j i s' H' x vb tb c oI hr hj J sm hit hx rx hij hbest
  have hin:j+1=xs.length:=by lia
  have nS:=J.pin (S,seqObj "list" #[vb,.int (kz i) tb] c) (List.mem_append_right _ (List.mem_append_left _ (List.mem_append_right _ (.head _))))
  have nI:=J.pin (I,oI) (List.mem_append_right _ (List.mem_append_right _ (.head _)))
  obtain ⟨vs,hv,pl,_⟩:=J.list (sm.seq hs)
  have hvl:=hv.length
  refine codeAny_builtin PySem.F.entry_min_loop ?_
  rw [Around.under_plainId PySem.F.plain_min_loop _]
  show wpAny _ X.A.in1 (seqItems? (.ref S) >>= _) _ _ _
  refine wpAny_bind (wpAny_seqItems nS.1 rfl ?_)
  show wpAny _ X.A.in1 (tryCatch (pyNext (.ref I)) _ >>= _) _ _ _
  refine wpAny_bind (wpAny_tryCatch (wpAny_pyNext_list_end hh hit pl.isList (by simp;lia) fun h' eb=>?_))
  have J1:Inv X (pins++[(S,seqObj "list" #[vb,.int (kz i) tb] c)]) σ H' { s' with heap:=h' }:=J.unpinned.turned (t':=s'.toks) (fun b o hb e=>eb b o hb e) nI.2.1 fI.1 fI.2.1 fI.2.2.1 (pI _)
  have hS':=top_pin J1
  have s1:=Heap.SameBut.update h' S (Obj.mapSeq fun _=>(#[]:Array Value))
  show wpAny _ X.A.in1 (updateSeq S (fun _=>#[]) >>= _) _ _ _
  refine wpAny_bind ?_
  refine wpAny_updateSeq hS' rfl (wpAny_bind (wpAny_letGo (wpAny_pure ?_)))
  exact hR i x vb _ H' hx rx (fun j' hj'=>hbest j' (by lia)) (J1.wrote (t':=s'.toks) fS.1 fS.2.1 fS.2.2 s1 (get?_update_seq hS' fun _=>#[]) (fun _ z=>nomatch z)).unpinned sm
 | succ r ih =>
  intro j i s' H' x vb tb c oI hr hj J sm hit hx rx hij hbest
  have hlt:j+1<xs.length:=by lia
  have nS:=J.pin (S,seqObj "list" #[vb,.int (kz i) tb] c) (List.mem_append_right _ (List.mem_append_left _ (List.mem_append_right _ (.head _))))
  have nI:=J.pin (I,oI) (List.mem_append_right _ (List.mem_append_right _ (.head _)))
  obtain ⟨vs,hv,pl,_⟩:=J.list (sm.seq hs)
  have hvl:=hv.length
  obtain ⟨y,hy⟩:∃ y,xs[j+1]?=some y:=⟨_,List.getElem?_eq_getElem hlt⟩
  obtain ⟨u,hu,ru⟩:=hv.get hy
  refine codeAny_builtin PySem.F.entry_min_loop ?_
  rw [Around.under_plainId PySem.F.plain_min_loop _]
  show wpAny _ X.A.in1 (seqItems? (.ref S) >>= _) _ _ _
  refine wpAny_bind (wpAny_seqItems nS.1 rfl ?_)
  show wpAny _ X.A.in1 (tryCatch (pyNext (.ref I)) _ >>= _) _ _ _
  refine wpAny_bind (wpAny_tryCatch (wpAny_pyNext_list_item hit pl.isList (x:=u) (by simpa using hu) fun h' st' sb=>?_))
  have J1:Inv X (pins++[(S,seqObj "list" #[vb,.int (kz i) tb] c)]) σ H' { s' with heap:=h' }:=J.unpinned.turned (t':=s'.toks) (fun b o hb e=>(sb.2 b hb).trans e) nI.2.1 fI.1 fI.2.1 fI.2.2.1 (pI _)
  obtain ⟨oI',hoI',hoc,hod⟩:=id st'
  have J2:Inv X ((pins++[(S,seqObj "list" #[vb,.int (kz i) tb] c)])++[(I,oI')]) σ H' { s' with heap:=h' }:=J1.pins_of fun p hp=>by
   rcases List.mem_append.mp hp with z|z
   ·exact J1.pin p (List.mem_append_right _ z)
   ·rw [List.mem_singleton.mp z]
    exact⟨hoI',nI.2.1,nI.2.2.1,nI.2.2.2.1,fun v z=>by rw [hod] at z;cases z⟩
  show wpAny _ X.A.in1 (tryCatch (holding [u] (call (.ref f) [u])) _ >>= _) _ _ _
  refine wpAny_bind (wpAny_tryCatch (wpAny_holding (wpAny_mono (KC _ H' _ (j+1) y u hy sm ru J2) (fun x2 s2 he=>?_) fun _ _ hF=>hF.elim)))
  obtain ⟨v2,H2,J3,r2,⟨rfl,sm2⟩⟩:=he
  obtain ⟨t2,rfl⟩:=r2
  have nI2:=J3.pin (I,oI') (List.mem_append_right _ (List.mem_append_right _ (.head _)))
  have hit2:s2.heap.IsListIter I l (j+1+1):=⟨oI',nI2.1,hoc,hod⟩
  show wpAny _ X.A.in1 (tryCatch (holding [u,.int (kz (j+1)) t2] (richCompare .Lt (.int (kz (j+1)) t2) (.int (kz i) tb) >>= _)) _ >>= _) _ _ _
  refine wpAny_bind (wpAny_tryCatch (wpAny_holding (wpAny_bind (CmpOf.ints_lt (prog:=X.prog) (w:=X.w) (A:=X.A.in1) (P:=fun i v=>∃ t,v=.int (kz i) t) kz (fun i v h=>h) (j+1) i _ _ _ _ _ ⟨t2,rfl⟩ ⟨tb,rfl⟩ ?_))))
  refine wpAny_bind (wpAny_holding (wpAny_truthy_bool ?_))
  refine wpAny_bind (wpAny_letGo (wpAny_pure ?_))
  by_cases hb':kz (j+1)<kz i
  ·have J4:=swap J3
   have hS4:=top_pin J4
   have s1:=Heap.SameBut.update s2.heap S (Obj.mapSeq fun _=>#[u,.int (kz (j+1)) t2])
   obtain ⟨c2,hc2⟩:∃ c2,(s2.heap.update S (Obj.mapSeq fun _=>#[u,.int (kz (j+1)) t2])).get? S=some (seqObj "list" #[u,.int (kz (j+1)) t2] c2):=⟨_,get?_update_seq hS4 fun _=>#[u,.int (kz (j+1)) t2]⟩
   simp only [hb',decide_true,if_true]
   refine wpAny_bind ?_
   refine wpAny_updateSeq hS4 rfl (wpAny_bind (wpAny_letGo ?_))
   rw [hname]
   have J5:=swap' (J4.wrote (t':=s2.toks) fS.1 fS.2.1 (pS _) s1 hc2 (fun _ z=>nomatch z))
   refine wpAny_pure ⟨plainId_quiet PySem.F.plain_min_loop _,ih (j+1) (j+1) _ H2 y u t2 c2 oI' (by lia) hlt J5 (sm.trans sm2) ⟨oI',(s1.2 I hSI.symm).trans nI2.1,hoc,hod⟩ hy ru (Nat.le_refl _) fun j' hj'=>?_⟩
   by_cases e:j'=j+1
   ·subst e
    exact⟨by lia,fun _=>by lia⟩
   ·have hb1:=hbest j' (by lia)
    have hb2:=hb1.1
    exact⟨by lia,fun _=>by lia⟩
  ·simp only [hb',decide_false,Bool.false_eq_true,if_false]
   refine wpAny_bind (wpAny_letGo ?_)
   rw [hname]
   refine wpAny_pure ⟨plainId_quiet PySem.F.plain_min_loop _,ih (j+1) i _ H2 x vb tb c oI' (by lia) hlt J3 (sm.trans sm2) hit2 hx rx (by lia) fun j' hj'=>?_⟩
   by_cases e:j'=j+1
   ·subst e
    exact⟨by lia,fun _=>by lia⟩
   ·exact hbest j' (by lia)
theorem call_minKC {l f:Addr} {xs:List V} {kz:Nat→Int} {Q:VK}
  (hh:X.A.handled=none)
  (KC:∀ (pins':List (Addr×Obj)) (H':Hp) (s':Shared) (i:Nat) (x:V) (u:Value),xs[i]?=some x→Same H H'→RelV x u→Inv X pins' σ H' s'→wpAny (model X.prog X.w) X.A.in1 (call (.ref f) [u]) (EP X pins' σ fun v H''=>v=.int (kz i)∧Same H' H'') (fun _ _=>False) s')
  (I:Inv X pins σ H s) (hs:SqL X.K H l xs) (hne:0<xs.length)
  (hQ:∀ i x H',xs[i]?=some x→(∀ j,j<xs.length→kz i≤kz j∧(j<i→kz i<kz j))→Same H H'→Q x H') :
  wpAny (model X.prog X.w) X.A (call (.builtin "min") [.ref l] [(Str.ofString "key",.ref f)]) (EP X pins σ Q) X.xe s:=by
 have hname:(toString "min"++toString ".loop":String) = "min.loop":=by decide
 obtain ⟨vs,hv,pl,_⟩:=I.list hs
 have hls:s.heap.IsList l vs.toArray:=by
  obtain ⟨o,n,h1,h2,h3⟩:=pl
  exact⟨o,h1,h2,n,h3.2⟩
 obtain ⟨x0,hx0⟩:∃ x0,xs[0]?=some x0:=⟨_,List.getElem?_eq_getElem hne⟩
 obtain ⟨u0,hu0,ru0⟩:=hv.get hx0
 refine kmk_tree PySem.F.kind_min PySem.F.plain_min PySem.F.entry_min (kmk_min_key _ _) ?_
 show wpAny _ X.A.in1 (Builtin.Builtins.bindParams "min" ["key","default"] 0 ⟨[],[(Str.ofString "key",.ref f)]⟩ >>= _) _ _ s
 refine wpAny_bind (wpAny_of_eq (show Builtin.Builtins.bindParams "min" ["key","default"] 0 ⟨[],[(Str.ofString "key",.ref f)]⟩=pure [some (.ref f),none] from rfl) ?_)
 refine wpAny_bind (wpAny_pure ?_)
 refine wpAny_bind (wpAny_pyIter_list hls ?_)
 refine wpAny_bind (wpAny_newList ?_ (Nat.zero_le _))
 rw [hname]
 generalize hh1:s.heap.push { cls:=.type "list_iterator",data:=.fields #[.ref l,.int 0 0] }=h1
 have e1:h1.objs.size=s.heap.objs.size+1:=by rw [← hh1];exact size_push' ..
 have g1:h1.get? s.heap.objs.size=some { cls:=.type "list_iterator",data:=.fields #[.ref l,.int 0 0] }:=by rw [← hh1];exact Heap.get?_push_size _ rfl
 have k1:∀ b o,s.heap.get? b=some o→h1.get? b=some o:=fun b o q=>by rw [← hh1];exact Heap.get?_push_of_some _ q
 have I1:Inv X pins σ H { s with heap:=h1.push (seqObj "list" #[] 0),toks:=s.toks }:=I.kept fun b o q=>Heap.get?_push_of_some _ (k1 b o q)
 have nI:H s.heap.objs.size=none:=I.hok.fresh (Nat.le_refl _)
 have nS:H h1.objs.size=none:=I.hok.fresh (by lia)
 have gI:(h1.push (seqObj "list" #[] 0)).get? s.heap.objs.size=some { cls:=.type "list_iterator",data:=.fields #[.ref l,.int 0 0] }:=Heap.get?_push_of_some _ g1
 have gS:(h1.push (seqObj "list" #[] 0)).get? h1.objs.size=some (seqObj "list" #[] 0):=Heap.get?_push_size _ rfl
 obtain ⟨_,a1,a2,a3,a4,a5⟩:FpOk X pins H s.heap.objs.size:=I.fpOk (Nat.le_refl _) nI
 obtain ⟨_,b1,b2,b3,b4,b5⟩:FpOk X pins H h1.objs.size:=I.fpOk (by lia) nS
 have hSI:h1.objs.size≠s.heap.objs.size:=by lia
 have zS:X.s₀.heap.get? h1.objs.size=none:=Heap.get?_none_of_le (Nat.le_trans I.sz (by lia))
 refine wpAny_pure ⟨plainId_quiet PySem.F.plain_min_loop _,?_⟩
 refine codeAny_builtin PySem.F.entry_min_loop ?_
 rw [Around.under_plainId PySem.F.plain_min_loop _]
 show wpAny _ X.A.in1 (seqItems? (.ref _) >>= _) _ _ _
 refine wpAny_bind (wpAny_seqItems gS rfl ?_)
 show wpAny _ X.A.in1 (tryCatch (pyNext (.ref s.heap.objs.size)) _ >>= _) _ _ _
 have hls1:(h1.push (seqObj "list" #[] 0)).IsList l vs.toArray:=by
  obtain ⟨o,q1,q2⟩:=hls
  exact⟨o,Heap.get?_push_of_some _ (k1 _ _ q1),q2⟩
 refine wpAny_bind (wpAny_tryCatch (wpAny_pyNext_list_item (s:={ s with heap:=h1.push (seqObj "list" #[] 0),toks:=s.toks }) (i:=0) ⟨_,gI,rfl,rfl⟩ hls1 (x:=u0) (by simpa using hu0) fun h' st' sb=>?_))
 have J1:Inv X pins σ H { s with heap:=h',toks:=s.toks }:=I1.turned (t':=s.toks) (fun b o hb e=>(sb.2 b hb).trans e) nI a1 a3 a4 a5
 obtain ⟨oI',hoI',hoc,hod⟩:=id st'
 have gS':h'.get? h1.objs.size=some (seqObj "list" #[] 0):=(sb.2 _ hSI).trans gS
 have J2:Inv X ((pins++[(s.heap.objs.size,oI')])++[(h1.objs.size,seqObj "list" #[] 0)]) σ H { s with heap:=h',toks:=s.toks }:=J1.pins_of fun p hp=>by
  rcases List.mem_append.mp hp with z|z
  ·rcases List.mem_append.mp z with z|z
   ·exact J1.pin p (List.mem_append_right _ z)
   ·rw [List.mem_singleton.mp z]
    exact⟨hoI',nI,a1,a2,fun v z=>by rw [hod] at z;cases z⟩
  ·rw [List.mem_singleton.mp z]
   exact⟨gS',nS,b1,b2,fun v z=>nomatch z⟩
 show wpAny _ X.A.in1 (tryCatch (holding [u0] (call (.ref f) [u0])) _ >>= _) _ _ _
 refine wpAny_bind (wpAny_tryCatch (wpAny_holding (wpAny_mono (KC _ H _ 0 x0 u0 hx0 (Same.refl _) ru0 J2) (fun x2 s2 he=>?_) fun _ _ hF=>hF.elim)))
 obtain ⟨v2,H2,J3,r2,⟨rfl,sm2⟩⟩:=he
 obtain ⟨t2,rfl⟩:=r2
 have hS3:=top_pin J3
 have nI3:=J3.pin (s.heap.objs.size,oI') (List.mem_append_right _ (List.mem_append_left _ (List.mem_append_right _ (.head _))))
 have s1:=Heap.SameBut.update s2.heap h1.objs.size (Obj.mapSeq fun _=>#[u0,.int (kz 0) t2])
 obtain ⟨c2,hc2⟩:∃ c2,(s2.heap.update h1.objs.size (Obj.mapSeq fun _=>#[u0,.int (kz 0) t2])).get? h1.objs.size=some (seqObj "list" #[u0,.int (kz 0) t2] c2):=⟨_,get?_update_seq hS3 fun _=>#[u0,.int (kz 0) t2]⟩
 have pS:∀ p∈X.pn++(pins++[(s.heap.objs.size,oI')]),p.1≠h1.objs.size:=fun p hp=>by
  rcases List.mem_append.mp hp with z|z
  ·exact b5 p (List.mem_append_left _ z)
  ·rcases List.mem_append.mp z with z|z
   ·exact b5 p (List.mem_append_right _ z)
   ·rw [List.mem_singleton.mp z];exact hSI.symm
 have J4:=J3.wrote (t':=s2.toks) zS b4 pS s1 hc2 (fun _ z=>nomatch z)
 have J5:Inv X ((pins++[(h1.objs.size,seqObj "list" #[u0,.int (kz 0) t2] c2)])++[(s.heap.objs.size,oI')]) σ H2 { s2 with heap:=s2.heap.update h1.objs.size (Obj.mapSeq fun _=>#[u0,.int (kz 0) t2]),toks:=s2.toks }:=J4.pins_of fun p hp=>by
  rcases List.mem_append.mp hp with z|z
  ·rcases List.mem_append.mp z with z|z
   ·exact J4.pin p (List.mem_append_right _ (List.mem_append_left _ (List.mem_append_left _ z)))
   ·exact J4.pin p (List.mem_append_right _ (List.mem_append_right _ z))
  ·exact J4.pin p (List.mem_append_right _ (List.mem_append_left _ (List.mem_append_right _ z)))
 show wpAny _ X.A.in1 (updateSeq h1.objs.size (fun _=>#[u0,.int (kz 0) t2]) >>= _) _ _ _
 refine wpAny_bind ?_
 refine wpAny_updateSeq hS3 rfl ?_
 rw [hname]
 refine wpAny_pure ⟨plainId_quiet PySem.F.plain_min_loop _,min_loopC (xs:=xs) (kz:=kz) (H:=H) (pins:=pins) hh KC hs hSI ⟨a1,a3,a4,a5⟩ ⟨zS,b4,b5⟩ (fun i x vb s' H' hx rx hb J sm=>⟨x,H',J,rx,hQ i x H' hx hb sm⟩) _ 0 0 _ H2 x0 u0 t2 c2 oI' rfl hne J5 sm2 ⟨oI',(s1.2 _ hSI.symm).trans nI3.1,hoc,hod⟩ hx0 ru0 (Nat.le_refl _) fun j' hj'=>?_⟩
 have e:j'=0:=by lia
 subst e
 exact⟨by lia,fun h=>absurd h (Nat.lt_irrefl _)⟩
end
end L2
set_option maxRecDepth 100000
namespace L2
open PySem PySem.Spec PyProof.Rows PySem.W
noncomputable def rMinL (K:PySem.W.Frag) (P:Addr) (lp:Pos) (q:Str) (ixs:List (Option Nat)) (te:TE) (σ:St):V→Hp→VK→Prop:=fun x H Q=>∃ (l:Addr) (xs:List V) (kz:Nat→Int),x=.ref l∧SqL K H l xs∧0<xs.length∧TabH P lp q H ∧
 (∀ (i:Nat) (x:V),xs[i]?=some x→∀ H',SameT P H H'→te (some x::pick ixs σ) H' (fun v H''=>v=.int (kz i)∧Same H' H'')) ∧
 ∀ i x H',SameT P H H'→TabH P lp q H'→xs[i]?=some x→(∀ j,j<xs.length→kz i≤kz j)→Q x H'
noncomputable def tMinL (K:PySem.W.Frag) (P:Addr) (lp:Pos) (q:Str) (ixs:List (Option Nat)) (te:TE) (t:TE):TE:=fun σ H Q=>t σ H fun x H1=>rMinL K P lp q ixs te σ x H1 Q
section
variable {X:Cx} {k:Nat} {q y:Str} {fns:List Str} {ixs:List (Option Nat)} {params:Arguments} {body:Expr} {scope:Scope} {p lp kpos pos:Pos} {e:Expr} {t te:TE} {c P:Addr}
theorem pe_minL (hq:X.env.qual ++ "<lambda>"=q) (hr:Room (k+1) X.A) (ha:PE X e t) (hcode:X.env.code=.ref c) (C:CodeHd X.base c P) (hB:X.base.BuiltinsAt X.mg P)
  (hbind:∀ (cl:List (Str×Addr)) (pm ctv:Value) (c':Addr) (u:Value),bindArgs (kla_fn "<lambda>" q params body scope cl pm (.ref c') ctv) ⟨[u],[]⟩=pure [(y,u)])
  (he:∀ f c' s H,PE (lamCx X X.A.in1 (y::fns) q scope f (.ref c') s H) body te)
  (hloc:scope.names.lookup y=some .local) (hco:scope.isCoroutine=false) (hgen:scope.isGenerator=false) (hk:scope.kind=.function) (hcell:∀ y∈scope.names,y.2≠.cell)
  (hfr0:(scope.names.all fun y=>!(y.2 == NameKind.free) || (X.env.cells.lookup y.1).isSome)=true) (hix:IxOk X scope fns ixs) (hdef:defaultsOf params X.env=([],[]))
  (hg:Gl X (Str.ofString "min")) (hm:X.mg "min"=none) (hv:bootBuiltins "min"=some (.builtin "min"))
  (hst:starEach [e] X.env=(false,eval e X.env)::starEach [] X.env:=by rfl) :
  PE X (.Call (.Name "min" p) [e] [⟨some (Str.ofString "key"),.Lambda params body scope lp,kpos⟩] pos) (tMinL X.K P lp q ixs te t):=by
 subst hq
 intro pins s σ H Q I h
 refine wpAny_Call_Name_kw (ld_blt I hg hm hv ?_ (by decide) (by decide))
 have hpa:PA X [e] (tCons t tNil):=pa_cons ha pa_nil hst
 have hlam:PE X (.Lambda params body scope lp) (fun _ H Q=>TabH P lp (X.env.qual ++ "<lambda>") H∧∀ f c' H',SameT P H H'→TabH P lp (X.env.qual ++ "<lambda>") H'→H' f=some (lamO f c' (X.env.qual ++ "<lambda>") params body scope (clOf X.env.cells scope.names []))→H' c'=some (codeO c' (X.env.qual ++ "<lambda>"))→Q (.ref f) H') :=
  fun pins s σ H Q I h=>lam_make I h.1 hcode C hB hdef hfr0 h.2
 have hpk:PK X [⟨some (Str.ofString "key"),.Lambda params body scope lp,kpos⟩] (tCons _ tNil):=pk_cons hlam pk_nil
 refine callWith_kw (thn (hpa pos pins s σ H (fun vs H1=>∃ x,vs=[x]∧rMinL X.K P lp (X.env.qual ++ "<lambda>") ixs te σ x H1 Q) I ?_) fun us s1 ⟨vs,H1,I1,r,x,ev,q⟩=>?_) (by rw [hst];rfl) (by rw [hst];rfl) rfl rfl
 ·show t σ H fun x H1=>∃ z,[x]=[z]∧rMinL X.K P lp (X.env.qual ++ "<lambda>") ixs te σ z H1 Q
  have e:(fun (x:V) (H1:Hp)=>∃ z,[x]=[z]∧rMinL X.K P lp (X.env.qual ++ "<lambda>") ixs te σ z H1 Q)=fun x H1=>rMinL X.K P lp (X.env.qual ++ "<lambda>") ixs te σ x H1 Q:=by
   funext x H1
   apply propext
   exact⟨fun ⟨z,e,q⟩=>by cases e;exact q,fun q=>⟨x,rfl,q⟩⟩
  rw [e]
  exact h
 ·subst ev
  obtain ⟨u,rfl,ru⟩:=vals1 r
  obtain ⟨l,xs,kz,rfl,hs,h1,tb,turn,hQ⟩:=q
  refine thn (hpk pos pins s1 σ H1 (fun zs H2=>∃ f c',zs=[V.ref f]∧SameT P H1 H2∧TabH P lp (X.env.qual ++ "<lambda>") H2∧H2 f=some (lamO f c' (X.env.qual ++ "<lambda>") params body scope (clOf X.env.cells scope.names []))∧H2 c'=some (codeO c' (X.env.qual ++ "<lambda>"))) I1 ⟨tb,fun f c' H' a1 a2 a3 a4=>⟨f,c',rfl,a1,a2,a3,a4⟩⟩) fun ws s2 ⟨zs,H2,I2,rz,f,c',ez,sT,tT,ef,ec⟩=>?_
  subst ez
  obtain ⟨w,rfl,rw_⟩:=vals1 rz
  cases rw_
  cases ru
  refine call_minKC (kz:=kz) (xs:=xs) (Room.in1 hr).hd (fun pins' H' s' i x u hx sm rx I'=>?_) I2 (sT.seq tb hs) h1 fun i x H' hx hb sm=>hQ i x H' (sT.trans (SameT.of sm)) (tT.same sm) hx fun j hj=>(hb j hj).1
  obtain ⟨⟨pm,ctv,eo⟩,_⟩:=I'.hok f _ (sm _ _ ef)
  obtain ⟨eco,_⟩:=I'.hok c' _ (sm _ _ ec)
  exact lam_call I' (Room.in1 hr).hd I'.ok.frames (by have:=(Room.in1 hr).dp;lia) eo eco (hbind _ _ _ _ _) hloc hco hgen hk hcell hfr0 hix (he _ _ _ _) rx (turn i x hx H' (sT.trans (SameT.of sm)))
variable {K:PySem.W.Frag}
theorem kpe_minL (K:PySem.W.Frag) (hK:X.K=K) (hq:X.env.qual ++ "<lambda>"=q) (hr:Room (k+1) X.A) (ha:PE X e t) (hcode:X.env.code=.ref c) (C:CodeHd X.base c P) (hB:X.base.BuiltinsAt X.mg P)
  (hbind:∀ (cl:List (Str×Addr)) (pm ctv:Value) (c':Addr) (u:Value),bindArgs (kla_fn "<lambda>" q params body scope cl pm (.ref c') ctv) ⟨[u],[]⟩=pure [(y,u)])
  (he:∀ f c' s H,PE (lamCx X X.A.in1 (y::fns) q scope f (.ref c') s H) body te)
  (hloc:scope.names.lookup y=some .local) (hco:scope.isCoroutine=false) (hgen:scope.isGenerator=false) (hk:scope.kind=.function) (hcell:∀ y∈scope.names,y.2≠.cell)
  (hfr0:(scope.names.all fun y=>!(y.2 == NameKind.free) || (X.env.cells.lookup y.1).isSome)=true) (hix:IxOk X scope fns ixs) (hdef:defaultsOf params X.env=([],[]))
  (hg:Gl X (Str.ofString "min")) (hm:X.mg "min"=none) (hv:bootBuiltins "min"=some (.builtin "min"))
  (hst:starEach [e] X.env=(false,eval e X.env)::starEach [] X.env:=by rfl) :
  PE X (.Call (.Name "min" p) [e] [⟨some (Str.ofString "key"),.Lambda params body scope lp,kpos⟩] pos) (tMinL K P lp q ixs te t):=by
 subst hK
 exact pe_minL hq hr ha hcode C hB hbind he hloc hco hgen hk hcell hfr0 hix hdef hg hm hv hst
end
section
variable {K:PySem.W.Frag} {H:Hp} {Q:VK} {σ:St} {P:Addr} {lp:Pos} {q:Str} {ixs:List (Option Nat)} {te:TE}
theorem r_minL {t:TE} (h:t σ H fun x H1=>rMinL K P lp q ixs te σ x H1 Q):tMinL K P lp q ixs te t σ H Q:=h
theorem rd_minL {l:Addr} {xs:List V} (kz:Nat→Int) (tb:TabH P lp q H) (hs:SqL K H l xs) (h1:0<xs.length)
  (turn:∀ (i:Nat) (x:V),xs[i]?=some x→∀ H',SameT P H H'→te (some x::pick ixs σ) H' (fun v H''=>v=.int (kz i)∧Same H' H''))
  (k:∀ i x H',SameT P H H'→TabH P lp q H'→xs[i]?=some x→(∀ j,j<xs.length→kz i≤kz j)→Q x H'):rMinL K P lp q ixs te σ (.ref l) H Q:=⟨l,xs,kz,rfl,hs,h1,tb,turn,k⟩
end
end L2
set_option maxRecDepth 100000
namespace L2
open PySem PySem.Spec PyProof.Rows PySem.W
noncomputable def fnTab (K:PySem.W.Frag) (f:Addr):Option (Addr×Addr):=match K.lookup f with
 | some ⟨_,_,.func fd,_⟩=>(match fd.code with
  | .ref c=>(match K.lookup c with
   | some ⟨_,_,.fields vs,_⟩=>(match (vs[11]?:Option Value) with
    | some (.ref P)=>some (c,P)
    | _=>none)
   | _=>none)
  | _=>none)
 | _=>none
noncomputable def methTab (K:PySem.W.Frag) (C m:Str):Option (Addr×Addr):=match PySem.W.nsIn K mainGlobals C with
 | some (some (.ref c))=>(match PySem.W.findIn K (.ref c) m with
  | some (some (.ref f))=>fnTab K f
  | _=>none)
 | _=>none
noncomputable def tabPM (K:PySem.W.Frag) (C m:Str):Addr:=((methTab K C m).getD (0,0)).2
theorem tabPM_of {K:PySem.W.Frag} {C m:Str} {c P:Addr} (h:methTab K C m=some (c,P)):tabPM K C m=P:=by unfold tabPM;rw [h];rfl
noncomputable def spLawM (C m:Str) (lp:Pos) (q:Str) (K:PySem.W.Frag):Sp:=fun vs H Q _=>∃ (a:Addr) (ns:List Int),vs=[.ref a]∧SqL K H a (ns.map V.int)∧ns.length≤63∧TabH (tabPM K C m) lp q H∧∀ H',Q (.bl true) H'
theorem walk_ofM {l:PySem.W.OpenLaw} {k:Nat} {pq:Program} {loose:List Str} {XP:(Str→Option Value)→Heap→Prop} {YP:World→Heap→Prop} {d:DefRec} {K:Params→PySem.W.Frag} {x:Str} {c P:Addr} (C m:Str) (lp:Pos) (q:Str)
  (hn:l.most=some 63) (hdf:d.params.defaults=[]) (hr:Room k callerA)
  (hY:∀ (w:World) (h:Heap),YP w h→(K w.params).In h∧h.get? P=some (tabObj #[])) (ht:∀ w:World,methTab (K w.params) C m=some (c,P)) (hh:∀ w:World,codeHdIn (K w.params) c P=true) (hk:∀ w:World,(K w.params).lookup P=none)
  (F:∀ (w:World) (mg:Str→Option Value) (fa:Addr) (h:Heap),(K w.params).In h→h.Ns mainGlobals mg→mg d.name=some (.ref fa)→methTab (K w.params) C m=some (c,P) →
   ∃ fd:FuncData,(∀ (s:Shared) (u:Value),BindsTo s fd ⟨[u],[]⟩ [(x,u)]) ∧
    ∀ base:Heap,(K w.params).In base→base.Ns mainGlobals mg→CodeHd base c P→base.BuiltinsAt mg P→FnOk l.prog w (K w.params) mg base CX0 k fa fd [x] (spLawM C m lp q (K w.params))) :
  PySem.W.WalkO pq loose XP YP l.row.toRowW d [] (fun f vs=>PySem.call f vs):=by
 refine Att.attach_call hn hdf fun w s₀ s₁ mg mb fa o pm cd doc a vs ns G Y ho hd hcd hmg hobj hints hlen hg=>?_
 obtain ⟨KX,hP⟩:=hY w _ Y
 obtain ⟨fd,hb,hF⟩:=F w mg fa _ KX G.T.g hmg (ht w)
 refine law_callT (tabs:=[(c,P)]) (fun t h1=>?_) (fun t h1=>?_) G.T.bmain KX G.T.g G.T.b G.T.builtins G.T.nolimit hg hobj hints (Nat.le_trans hlen (by decide)) hr (fun base b1 b2 b3=>hF base b1 b2 (b3 (c,P) (.head _)).1 (b3 (c,P) (.head _)).2) hb (fun H hO hS=>⟨a,ns,rfl,hS,hlen,?_,fun _=>rfl⟩) fun H e s' z=>z
 ·rw [List.mem_singleton.mp h1]
  exact⟨codeHd_of_K KX (hh w),hP⟩
 ·rw [List.mem_singleton.mp h1]
  exact hk w
 ·rw [tabPM_of (ht w)]
  exact⟨#[],hO (c,P) (.head _),trivial,.inl rfl⟩
noncomputable def DefMT (K:PySem.W.Frag) (f:Addr) (x qual:Str) (st:Stmt) (ps:List Str) (c:Addr):Prop :=
 ∃ (fd:FuncData) (oc:Value) (od:Option Addr) (kV doc pm:Value) (an:Option Addr) (ct:Value) (osl:Array (Option Value)),fd=PySem.W.fnOf x qual (defArgs st) (defBody st) (defScope st) .none kV doc pm an (.ref c) ct∧K.lookup f=some ⟨oc,od,.func fd,osl⟩∧PySem.W.codeIn K (.ref c) qual=true∧PySem.W.keepIn K (.ref f)=true∧Binds K fd ps []
section
variable {Pr:Program} {w:World} {K:PySem.W.Frag} {mg:Str→Option Value} {base:Heap}
theorem DefMT.ok {f:Addr} {x qual:Str} {st:Stmt} {N ps:List Str} {k:Nat} {sp:Sp} {c:Addr} (D:DefMT K f x qual st ps c) (S:FnScope N ps (defScope st)) (len:∀ vs H Q E,sp vs H Q E→vs.length=ps.length)
  (hbody:∀ (f:Addr) (A:Around) (outer:List Env) (s:Shared) (H:Hp) (vs:List V) (Q:VK) (E:XK),Room k (A.deeper (envOfC qual (defScope st) s.heap.objs.size f (.ref c)))→sp vs H Q E →
   ∃ t,PSs (cxOf CX0 Pr w K mg base N qual (defScope st) f (.ref c) A outer s H E).nox (defBody st) t∧t { nx:=fun _ H'=>Q .non H',rt:=Q } (start N vs) H):OkM Pr w K mg base (k+1) f ps sp:=by
 obtain ⟨fd,oc,od,kV,doc,pm,an,ct,osl,rfl,lk,hcd,hkp,hb⟩:=D
 refine⟨_,fn_of lk hcd S len fun A outer s H vs Q E hr hsp=>?_,hkp,hb⟩
 obtain ⟨t,h,q⟩:=hbody f A outer s H vs Q E hr hsp
 exact⟨t,h.nox,q⟩
end
end L2
set_option maxRecDepth 100000
namespace L2
open PySem PySem.Spec PyProof.Rows PySem.W
noncomputable def DzO (d:Addr) (o:Obj):HO:=HO.ext fun h=>h.get? d=some o
noncomputable def ItDz (d:Addr) (o:Obj) (ks:List V):It:=⟨fun i H=>H d=some (DzO d o)∧i<ks.length,fun i H x H'=>H'=H∧ks[i]?=some x,fun i H=>H d=some (DzO d o)∧ks.length≤i⟩
noncomputable def Thaw (P:Program) (w:World) (d:Addr) (o:Obj) (kvs:List (Key×V)):Prop:=∀ (H:Hp) (h:Heap),h.get? d=some o→ObjOk P w H h d (.dK kvs)
theorem key_back {k:Key} {u:Value} (h:keyIs k u=true):RelV (kV k) u:=by
 rcases keyIs_shape h with ⟨i,t,rfl,rfl⟩|⟨x,t,rfl,rfl⟩
 ·exact⟨t,rfl⟩
 ·exact⟨t,rfl⟩
theorem keys_vals {P:Program} {w:World}:∀ {es:List DictEntry} {kvs:List (Key×V)} {vs:List (Key×Value)},Pairs (mixKind P w) es vs→KV kvs vs→Vals (kvs.map fun p=>kV p.1) (es.map (·.key))
 | _,_,_,.nil,.nil=>.nil
 | _,_,_,.cons h _ t,.cons r q=>.cons (by show RelV (kV _) _;rw [r.1];exact key_back h) (keys_vals t q)
theorem turn_dict {P:Program} {w:World} {K:PySem.W.Frag} {tg:Expr} (d it:Addr) (o:Obj) {es:Array DictEntry} {ep:Nat} {ks:List V} (ho:o.ExactDict) (hd:o.data=.dict es ep) (hk:Vals ks (es.toList.map (·.key))) :
  Turn P w K tg (ItDz d o ks) [it] it (fun i h=>h.IsKeyIter it d i es.size ep) where
 mem:=by simp
 obj:=fun i h st b hb=>by
  have e:b=it:=by simpa using hb
  subst e
  obtain ⟨o,e,c,d⟩:=st
  exact⟨o,e,fun v z=>by rw [d] at z;cases z⟩
 keep:=fun i h h' st k=>st.at fun o e=>k it (by simp) o e
 item:=by
  intro X hP hw hK hc i pins s σ H E I hf st hg
  subst hP hw hK
  obtain ⟨e,hi⟩:=hg
  obtain ⟨eo,_⟩:=(show ObjOk X.prog X.w H s.heap d (DzO d o) from I.hok d _ e)
  have hl:ks.length=es.size:=by
   have z:=hk.length
   rw [List.length_map] at z
   exact z.trans Array.length_toList
  have lt:i<es.size:=by lia
  obtain ⟨x,hx⟩:∃ x,ks[i]?=some x:=⟨_,List.getElem?_eq_getElem hi⟩
  obtain ⟨u,hu,ru⟩:=hk.get hx
  have eu:u=es[i].key:=by
   rw [List.getElem?_map,Array.getElem?_toList,Array.getElem?_eq_getElem lt] at hu
   exact (Option.some.inj hu).symm
  subst eu
  obtain ⟨f0,f1,f2,f3,f4,f5⟩:=hf it (by simp)
  refine raw_next st ⟨o,eo,ho,hd⟩ lt fun h' st' sb=>?_
  have I1:Inv X pins σ H { s with heap:=h' }:=I.turned (t':=s.toks) (fun b o hb e=>(sb.2 b hb).trans e) f0 f1 f3 f4 f5
  obtain ⟨oi,e',c,dd⟩:=id st'
  exact⟨_,rfl,go_of (s:={ s with heap:=h' }) e' c dd (by decide) ⟨x,H,I1,ru,⟨rfl,hx⟩,st',fun b hb=>(hf b hb).1⟩⟩
 done:=by
  intro X hP hw hK hc i pins s σ H E I hf st hg
  subst hP hw hK
  obtain ⟨e,hi⟩:=hg
  obtain ⟨eo,_⟩:=(show ObjOk X.prog X.w H s.heap d (DzO d o) from I.hok d _ e)
  have hl:ks.length=es.size:=by
   have z:=hk.length
   rw [List.length_map] at z
   exact z.trans Array.length_toList
  obtain ⟨f0,f1,f2,f3,f4,f5⟩:=hf it (by simp)
  exact raw_end (I.ok.hd hc) st ⟨o,eo,ho,hd⟩ (by lia) fun h' eb=>⟨rfl,I.turned (t':=s.toks) (fun b o hb e=>eb b o hb e) f0 f1 f3 f4 f5⟩
 self:=fun _ _ _ _ _ st h=>wpAny_pyIter_keyiter st h
noncomputable def iDictK (P:Program) (w:World) (td:TE):TI:=fun σ H R=>td σ H fun x H1=>∃ (d:Addr) (kvs:List (Key×V)),x=.ref d∧H1 d=some (.dK kvs)∧∀ o,Thaw P w d o kvs→R (ItDz d o (kvs.map fun p=>kV p.1)) (upd H1 d (DzO d o))
section
variable {X:Cx}
theorem pi_dictK {tg l:Expr} {td:TE} (hl:PE X l td):PI X tg l (iDictK X.prog X.w td):=by
 intro pins s σ H R I h
 refine thn (hl pins s σ H _ I h) fun v s1 ⟨x,H1,I1,r1,q1⟩=>?_
 obtain ⟨d,kvs,ex,e,q⟩:=q1
 subst ex
 cases r1
 obtain ⟨z,lo,vs,kv,o,es,ep,eo,exd,dat,kof,prs,nd⟩:=(show ObjOk X.prog X.w H1 s1.heap d (.dK kvs) from I1.hok d _ e)
 refine raw_iter lo ⟨o,eo,exd,dat⟩ ?_
 have I2:Inv X pins σ (upd H1 d (DzO d o)) { s1 with heap:=s1.heap,toks:=s1.toks }:=I1.write (x:=d) (e:=d) (by rw [e];trivial) (.inl rfl) (fun b u hb z=>z) ⟨o,eo⟩ ⟨eo,⟨o,eo⟩,fun h1 h2 p k=>k _ p⟩
 refine⟨s1.heap.objs.size,[s1.heap.objs.size],_,_,_,rfl,I2.kept (t':=s1.toks) fun b o e=>Heap.get?_push_of_some _ e,turn_dict d _ o exd dat (keys_vals prs kv),⟨_,Heap.get?_push_size _ rfl,rfl,rfl⟩,fun b hb=>?_,q o fun H h eh=>⟨z,lo,vs,kv,o,es,ep,eh,exd,dat,kof,prs,nd⟩⟩
 have e:b=s1.heap.objs.size:=by simpa using hb
 subst e
 exact I2.fpOk (Nat.le_refl _) (I2.hok.fresh (Nat.le_refl _))
noncomputable def DzE (P:Program) (w:World) (D:Ends):Ends:={ D with nx:=fun σ2 H2=>∃ d o kvs,Thaw P w d o kvs∧H2 d=some (DzO d o)∧D.nx σ2 (upd H2 d (.dK kvs)) }
noncomputable def tForD (P:Program) (w:World) (td:TE) (g:TG) (tb:TS):TS:=fun D σ H=>tFor (iDictK P w td) g tb (DzE P w D) σ H
theorem ps_forD {tg iter:Expr} {body:List Stmt} {td:TE} {g:TG} {tb:TS} {pos:Pos} (hp:PassesOwn (model X.prog X.w) X.A X.env X.xe) (hc:X.calm=true) (hi:PE X iter td) (hg:PG X tg g) (hb:PSs X body tb)
  (hs:∀ x,foldedSetIterable iter X.env x=pure x:=by intro _;rfl):PS X (.For tg iter body [] pos) (tForD X.prog X.w td g tb):=by
 intro pins s σ H D I h
 refine thn (ps_for hp hc (pi_dictK hi) hg hb hs pins s σ H (DzE X.prog X.w D) I h) fun f s1 q=>?_
 cases f with
 | next =>
  obtain ⟨σ2,H2,J,d,o,kvs,th,e,z⟩:=q
  obtain ⟨eo,_⟩:=(show ObjOk X.prog X.w H2 s1.heap d (DzO d o) from J.hok d _ e)
  refine⟨σ2,_,?_,z⟩
  exact J.write (x:=d) (e:=d) (h':=s1.heap) (t':=s1.toks) (by rw [e];trivial) (.inl rfl) (fun b u hb z=>z) ⟨o,eo⟩ (th _ _ eo)
 | brk=>exact q
 | cont=>exact q
 | ret u=>exact q
end
section
variable {P:Program} {w:World} {g:TG} {tb:TS} {td:TE} {D:Ends} {σ:St} {H:Hp}
theorem r_forD (h:td σ H fun x H1=>∃ (d:Addr) (kvs:List (Key×V)),x=.ref d∧H1 d=some (.dK kvs)∧∀ o,Thaw P w d o kvs→ForGoal g tb (DzE P w D) (ItDz d o (kvs.map fun p=>kV p.1)) σ (upd H1 d (DzO d o))):tForD P w td g tb D σ H:=h
theorem f_dictK {d:Addr} {kvs:List (Key×V)} {o:Obj} (th:Thaw P w d o kvs) (Pv:Nat→St→Hp→Prop) (h0:Pv 0 σ H) (hz:∀ i σ H2,Pv i σ H2→H2 d=some (DzO d o))
  (hs:∀ i p σ H2,kvs[i]?=some p→Pv i σ H2→g (kV p.1) σ H2 fun σ2 H4=>tb { DzE P w D with nx:=Pv (i+1),ct:=Pv (i+1),bk:=(DzE P w D).nx } σ2 H4)
  (hd:∀ σ H2,Pv kvs.length σ H2→D.nx σ (upd H2 d (.dK kvs))):ForGoal g tb (DzE P w D) (ItDz d o (kvs.map fun p=>kV p.1)) σ H:=by
 refine⟨fun i m σ H=>m=kvs.length - i∧i≤kvs.length∧Pv i σ H,⟨kvs.length,by simp,Nat.zero_le _,h0⟩,?_⟩
 rintro i m σ H ⟨rfl,hi,p⟩
 by_cases hlt:i<kvs.length
 ·refine .inr ⟨⟨hz i σ H p,by rw [List.length_map];exact hlt⟩,Pv (i+1),fun σ' H' p'=>⟨kvs.length - (i+1),by lia,rfl,hlt,p'⟩,fun x H' y=>?_⟩
  obtain ⟨e,y⟩:=y
  subst e
  rw [List.getElem?_map,List.getElem?_eq_getElem hlt] at y
  cases y
  exact hs i _ σ _ (List.getElem?_eq_getElem hlt) p
 ·have e:i=kvs.length:=by lia
  subst e
  exact .inl ⟨⟨hz _ σ H p,by rw [List.length_map];exact Nat.le_refl _⟩,d,o,kvs,th,hz _ σ H p,hd σ H p⟩
end
end L2
set_option maxRecDepth 100000
namespace L2
open PySem PySem.Spec PyProof.Rows PySem.W
noncomputable def rNotInK:R2:=fun x y H Q=>∃ (d:Addr) (kvs:List (Key×V)) (i:Int),x=.int i∧y=.ref d∧H d=some (.dK kvs)∧Q (.bl (!(valV kvs (.inl i)).isSome)) H
noncomputable def rIxK:R2:=fun x y H Q=>∃ (d:Addr) (kvs:List (Key×V)) (i:Int) (v:V),x=.ref d∧y=.int i∧H d=some (.dK kvs)∧valV kvs (.inl i)=some v∧Q v H
section
variable {X:Cx}
theorem op_notInK (hu:X.A.units+1<cLine):OpR X (compareOp .NotIn) rNotInK:=by
 intro pins s σ H x y v u Q I rx ry h
 obtain ⟨d,kvs,i,rfl,rfl,e,q⟩:=h
 obtain rfl:u=Value.ref d:=ry
 exact d_notIn hu I (DGet.k (k:=.inl i) e) rx fun s3 I3=>⟨.bl _,H,I3,rfl,q⟩
theorem ix_dictK (hu:X.A.units+1<cLine):IxR X rIxK:=by
 intro value slice pins s σ H x y v u Q I rx ry h hs
 obtain ⟨d,kvs,i,r,rfl,rfl,e,hv,q⟩:=h
 obtain rfl:v=Value.ref d:=rx
 have g:DGet H d (.int i) (some r):=by rw [← hv];exact DGet.k (k:=.inl i) e
 exact tail_any (dict_typeIs I g) PySem.F.slot_dict_getitem.lookup (d_getItem hu I g ry fun w' s3 I3 rw'=>⟨r,H,I3,rw',q⟩) hs
end
section
variable {H:Hp} {Q:VK} {σ:St}
theorem r_notInK {d:Addr} {kvs:List (Key×V)} {i:Int} (e:H d=some (.dK kvs)) (h:Q (.bl (!(valV kvs (.inl i)).isSome)) H):rNotInK (.int i) (.ref d) H Q:=⟨d,kvs,i,rfl,rfl,e,h⟩
theorem r_ixK {d:Addr} {kvs:List (Key×V)} {i:Int} {v:V} (e:H d=some (.dK kvs)) (l:valV kvs (.inl i)=some v) (h:Q v H):rIxK (.ref d) (.int i) H Q:=⟨d,kvs,i,v,rfl,rfl,e,l,h⟩
theorem r_dputK {a:Addr} {kvs:List (Key×V)} {i:Int} {v:V} {R:Hp→Prop} (e:H a=some (.dK kvs)) (n:kvs.length≤1000) (h:R (upd H a (.dK (putK kvs (.inl i) v)))):rDPut (.ref a) (.int i) v H R :=
 ⟨a,_,rfl,DPut.k (k:=.inl i) e (small1000 n),h⟩
theorem r_dnewK (h:∀ p H2,H p=none→Same H H2→H2 p=some (.dK [])→Q (.ref p) H2):tDNewK σ H Q:=fun p hp=>h p _ hp (Same.upd_new hp) upd_same
end
end L2
set_option maxRecDepth 100000
namespace L2
namespace Mat
theorem nd_le:∀ (l m:List Nat),l.Nodup→(∀ x∈l,x∈m)→l.length≤m.length
 | [],m,_,_=>Nat.zero_le _
 | x::l,m,hn,hs=>by
  have hx:x∈m:=hs x (List.mem_cons_self ..)
  have h1:=nd_le l (m.erase x) (List.nodup_cons.mp hn).2 (fun y hy=>by
   have hy2:y≠x:=fun e=>(List.nodup_cons.mp hn).1 (e ▸ hy)
   exact (List.mem_erase_of_ne hy2).mpr (hs y (List.mem_cons_of_mem _ hy)))
  have h2:=List.length_erase_of_mem hx
  have h3:0<m.length:=List.length_pos_of_mem hx
  rw [List.length_cons]
  lia
theorem nd_at {l:List Nat} {i j x:Nat} (h:l.Nodup) (hi:l[i]?=some x) (hj:l[j]?=some x):i=j:=by
 obtain ⟨li,ei⟩:=List.getElem?_eq_some_iff.mp hi
 obtain ⟨lj,ej⟩:=List.getElem?_eq_some_iff.mp hj
 have h2:=List.pairwise_iff_getElem.mp h
 refine Classical.byContradiction fun hne=>?_
 rcases Nat.lt_or_gt_of_ne hne with hlt|hlt
 ·exact h2 i j li lj hlt (ei.trans ej.symm)
 ·exact h2 j i lj li hlt (ej.trans ei.symm)
theorem nd_lt {l:List Nat} {n:Nat} (h:l.Nodup) (hl:∀ x∈l,x<n):l.length≤n:=by
 have:=nd_le l (List.range n) h (fun x hx=>List.mem_range.mpr (hl x hx))
 rwa [List.length_range] at this
theorem free_of {l:List Nat} {n:Nat} (hl:l.length<n):∃ j,j<n∧j∉l:=by
 refine Classical.byContradiction fun h=>?_
 have h1:∀ x∈List.range n,x∈l:=fun x hx=>Classical.byContradiction fun h2=>h ⟨x,List.mem_range.mp hx,h2⟩
 have h2:=nd_le (List.range n) l List.nodup_range h1
 rw [List.length_range] at h2
 lia
structure Mt (n:Nat) (W:Nat→Nat→Int) (u v:Nat→Int) (g c:Nat→Option Nat):Prop where
 feas:∀ t j,t<n→j<n→u t+v j≤W t j
 tight:∀ t j,g t=some j→u t+v j=W t j
 inv:∀ t j,g t=some j↔c j=some t
 ran:∀ t j,g t=some j→t<n∧j<n
structure Tr (n:Nat) (W:Nat→Nat→Int) (u v:Nat→Int) (c:Nat→Option Nat) (first:Nat) (ts:List Nat) (os:List (Nat×Nat)) (cm:Option Nat):Prop where
 len:ts.length=os.length
 nd:ts.Nodup
 ndk:(os.map Prod.fst).Nodup
 lt:∀ t∈ts,t<n
 ltk:∀ p∈os,p.1<n
 tight:∀ p∈os,u p.2+v p.1=W p.2 p.1
 orig:∀ (i:Nat) p,os[i]?=some p→p.2∈ts.take (i+1)
 head:(ts++cm.toList)[0]?=some first
 link:∀ (i:Nat) p,os[i]?=some p→c p.1=(ts++cm.toList)[i+1]?
noncomputable def up (ts:List Nat) (a:Int) (u:Nat→Int):Nat→Int:=fun x=>if x∈ts then u x+a else u x
section
variable {n:Nat} {W:Nat→Nat→Int} {u v:Nat→Int} {g c:Nat→Option Nat} {first:Nat} {ts:List Nat} {os:List (Nat×Nat)}
theorem key_at {i j:Nat} {p q:Nat×Nat} (h:(os.map Prod.fst).Nodup) (hi:os[i]?=some p) (hj:os[j]?=some q) (e:p.1=q.1):i=j:=by
 obtain ⟨li,ei⟩:=List.getElem?_eq_some_iff.mp hi
 obtain ⟨lj,ej⟩:=List.getElem?_eq_some_iff.mp hj
 refine nd_at h (x:=p.1) (by rw [List.getElem?_map,hi];rfl) (by rw [List.getElem?_map,hj,e];rfl)
theorem Tr.fresh {m:Nat} (h:Tr n W u v c first ts os (some m)) (M:Mt n W u v g c) (gf:g first=none) (hf:first<n):m<n∧m∉ts:=by
 have hd:=h.head
 by_cases e:ts=[]
 ·subst e
  simp only [List.nil_append,Option.toList_some,List.getElem?_cons_zero,Option.some.injEq] at hd
  exact⟨hd ▸ hf,List.not_mem_nil⟩
 have hp:0<ts.length:=List.length_pos_iff.mpr e
 have hl:ts.length - 1<os.length:=by rw [← h.len];lia
 have e1:=h.link _ _ (List.getElem?_eq_getElem hl)
 rw [show ts.length - 1+1=ts.length by lia,List.getElem?_append_right (Nat.le_refl _),Nat.sub_self] at e1
 simp only [Option.toList_some,List.getElem?_cons_zero] at e1
 have e2:=(M.inv _ _).mpr e1
 refine⟨(M.ran _ _ e2).1,fun hm=>?_⟩
 obtain ⟨k,hk,ek⟩:=List.mem_iff_getElem.mp hm
 by_cases hz:k=0
 ·subst hz
  rw [List.getElem?_append_left hk,List.getElem?_eq_getElem hk,ek] at hd
  cases hd
  rw [gf] at e2
  cases e2
 have hk1:k - 1<os.length:=by rw [← h.len];lia
 have e3:=h.link _ _ (List.getElem?_eq_getElem hk1)
 rw [show k - 1+1=k by lia,List.getElem?_append_left hk,List.getElem?_eq_getElem hk,ek] at e3
 have e4:=(M.inv _ _).mpr e3
 rw [e2] at e4
 have:=key_at h.ndk (List.getElem?_eq_getElem hl) (List.getElem?_eq_getElem hk1) (Option.some.inj e4)
 lia
theorem Tr.room {m:Nat} (h:Tr n W u v c first ts os (some m)) (M:Mt n W u v g c) (gf:g first=none) (hf:first<n):ts.length<n∧∃ j,j<n∧j∉os.map Prod.fst:=by
 obtain ⟨h1,h2⟩:=h.fresh M gf hf
 have h3:(m::ts).length≤n:=nd_lt (List.nodup_cons.mpr ⟨h2,h.nd⟩) (fun x hx=>by
  rcases List.mem_cons.mp hx with rfl|hx
  ·exact h1
  ·exact h.lt x hx)
 rw [List.length_cons] at h3
 exact⟨by lia,free_of (by rw [List.length_map,← h.len];lia)⟩
theorem Tr.both {m:Nat} (h:Tr n W u v c first ts os (some m)) (M:Mt n W u v g c) (gf:g first=none) {t j:Nat} (e:g t=some j):t∈ts++[m]↔j∈os.map Prod.fst:=by
 constructor
 ·intro ht
  obtain ⟨k,hk,ek⟩:=List.mem_iff_getElem.mp ht
  have ek2:(ts++(some m).toList)[k]?=some t:=by rw [← ek];exact List.getElem?_eq_getElem hk
  by_cases hz:k=0
  ·subst hz
   rw [h.head] at ek2
   cases ek2
   rw [gf] at e
   cases e
  have hk1:k - 1<os.length:=by
   rw [List.length_append,List.length_singleton] at hk
   rw [← h.len];lia
  have e3:=h.link _ _ (List.getElem?_eq_getElem hk1)
  rw [show k - 1+1=k by lia,ek2] at e3
  have e4:=(M.inv _ _).mpr e3
  rw [e] at e4
  rw [Option.some.inj e4]
  exact List.mem_map_of_mem (List.getElem_mem hk1)
 ·intro hj
  obtain ⟨p,hp,rfl⟩:=List.mem_map.mp hj
  obtain ⟨k,hk,ek⟩:=List.mem_iff_getElem.mp hp
  have e3:=h.link k p (by rw [← ek];exact List.getElem?_eq_getElem hk)
  rw [(M.inv _ _).mp e] at e3
  exact List.mem_of_getElem? e3.symm
theorem Tr.step {m t j:Nat} {a:Int} (h:Tr n W u v c first ts os (some m)) (M:Mt n W u v g c) (gf:g first=none) (hf:first<n) (ht:t∈ts++[m]) (hj:j<n) (hjn:j∉os.map Prod.fst) (ha:a=W t j - u t - v j)
  (hmin:∀ t'∈ts++[m],∀ j',j'<n→j'∉os.map Prod.fst→a≤W t' j' - u t' - v j') :
  Mt n W (up (ts++[m]) a u) (up (os.map Prod.fst) (-a) v) g c∧Tr n W (up (ts++[m]) a u) (up (os.map Prod.fst) (-a) v) c first (ts++[m]) (os++[(j,t)]) (c j):=by
 obtain ⟨hm,hmn⟩:=h.fresh M gf hf
 have hlt:∀ x∈ts++[m],x<n:=fun x hx=>by
  rcases List.mem_append.mp hx with hx|hx
  ·exact h.lt x hx
  ·rw [List.mem_singleton.mp hx];exact hm
 have ha0:0≤a:=by have:=M.feas t j (hlt t ht) hj;lia
 refine⟨⟨fun x y hx hy=>?_,fun x y e=>?_,M.inv,M.ran⟩,?_⟩
 ·have h1:=M.feas x y hx hy
  unfold up
  by_cases c1:x∈ts++[m] <;> by_cases c2:y∈os.map Prod.fst
  ·rw [if_pos c1,if_pos c2];lia
  ·rw [if_pos c1,if_neg c2];have:=hmin x c1 y hy c2;lia
  ·rw [if_neg c1,if_pos c2];lia
  ·rw [if_neg c1,if_neg c2];lia
 ·have h1:=M.tight x y e
  have h2:=h.both M gf e
  unfold up
  by_cases c1:x∈ts++[m]
  ·rw [if_pos c1,if_pos (h2.mp c1)];lia
  ·rw [if_neg c1,if_neg (fun z=>c1 (h2.mpr z))];lia
 ·refine⟨by rw [List.length_append,List.length_append,h.len];rfl,?_,?_,hlt,?_,?_,?_,?_,?_⟩
  ·refine List.nodup_append.mpr ⟨h.nd,List.nodup_cons.mpr ⟨List.not_mem_nil,List.nodup_nil⟩,fun x hx y hy e=>?_⟩
   rw [List.mem_singleton.mp hy] at e
   exact hmn (e ▸ hx)
  ·rw [List.map_append]
   refine List.nodup_append.mpr ⟨h.ndk,List.nodup_cons.mpr ⟨List.not_mem_nil,List.nodup_nil⟩,fun x hx y hy e=>?_⟩
   rw [show y=j from List.mem_singleton.mp hy] at e
   rw [e] at hx
   exact hjn hx
  ·intro p hp
   rcases List.mem_append.mp hp with hp|hp
   ·exact h.ltk p hp
   ·rw [List.mem_singleton.mp hp];exact hj
  ·intro p hp
   unfold up
   rcases List.mem_append.mp hp with hp|hp
   ·have h1:=h.tight p hp
    obtain ⟨k,hk,ek⟩:=List.mem_iff_getElem.mp hp
    have h2:=h.orig k p (by rw [← ek];exact List.getElem?_eq_getElem hk)
    rw [if_pos (List.mem_append_left _ (List.mem_of_mem_take h2)),if_pos (List.mem_map_of_mem hp)]
    lia
   ·rw [List.mem_singleton.mp hp]
    rw [if_pos ht,if_neg hjn]
    show u t+a+v j=W t j
    lia
  ·intro i p hp
   by_cases hi:i<os.length
   ·rw [List.getElem?_append_left hi] at hp
    have h2:=h.orig i p hp
    rw [List.take_append_of_le_length (by rw [h.len];lia)]
    exact h2
   ·have hi2:i=os.length:=by
     obtain ⟨l1,_⟩:=List.getElem?_eq_some_iff.mp hp
     rw [List.length_append,List.length_singleton] at l1
     lia
    rw [hi2,List.getElem?_append_right (Nat.le_refl _),Nat.sub_self] at hp
    cases hp
    rw [hi2,List.take_of_length_le (by rw [List.length_append,List.length_singleton,h.len];exact Nat.le_refl _)]
    exact ht
  ·have hd:=h.head
   rw [Option.toList_some] at hd
   rw [List.getElem?_append_left (by rw [List.length_append,List.length_singleton];lia)]
   exact hd
  ·intro i p hp
   by_cases hi:i<os.length
   ·rw [List.getElem?_append_left hi] at hp
    have h2:=h.link i p hp
    rw [h2,List.getElem?_append_left (l₁:=ts++[m]) (by rw [List.length_append,List.length_singleton,h.len];lia)]
    rfl
   ·have hi2:i=os.length:=by
     obtain ⟨l1,_⟩:=List.getElem?_eq_some_iff.mp hp
     rw [List.length_append,List.length_singleton] at l1
     lia
    rw [hi2,List.getElem?_append_right (Nat.le_refl _),Nat.sub_self] at hp
    cases hp
    have hl:(ts++[m]).length=os.length+1:=by rw [List.length_append,List.length_singleton,h.len]
    rw [hi2,List.getElem?_append_right (by rw [hl];exact Nat.le_refl _),hl,Nat.sub_self]
    cases c j <;> rfl
theorem Tr.start (hc:Mt n W u v g c):Tr n W u v c first [] [] (some first) :=
 ⟨rfl,List.nodup_nil,List.nodup_nil,fun _ h=>absurd h List.not_mem_nil,fun _ h=>absurd h List.not_mem_nil,fun _ h=>absurd h List.not_mem_nil,fun _ _ h=>(nomatch h),rfl,fun _ _ h=>(nomatch h)⟩
structure Tn (n:Nat) (W:Nat→Nat→Int) (u v:Nat→Int) (g0:Nat→Option Nat) (ts:List Nat) (os:List (Nat×Nat)) (g c:Nat→Option Nat) (f:Nat) (i:Nat):Prop where
 pl:∃ o,os[i]?=some (f,o)
 part:∀ t b,b≠f→(g t=some b↔c b=some t)
 no:∀ t,g t≠some f
 old:∀ k t,k≤i→ts[k]?=some t→g t=g0 t
 tight:∀ t j,g t=some j→u t+v j=W t j
 ran:∀ t j,g t=some j→t<n∧j<n
 dom:∀ t,(g t).isSome=(g0 t).isSome
noncomputable def st (f:Nat→Option Nat) (i:Nat) (x:Option Nat):Nat→Option Nat:=fun k=>if k=i then x else f k
theorem Tn.start (h:Tr n W u v c first ts os none) (M:Mt n W u v g c) {j t:Nat} {rs:List (Nat×Nat)} (e:os=rs++[(j,t)]):Tn n W u v g ts os g c j rs.length:=by
 have e1:os[rs.length]?=some (j,t):=by rw [e,List.getElem?_append_right (Nat.le_refl _),Nat.sub_self];rfl
 have e2:=h.link _ _ e1
 have hl:ts.length=rs.length+1:=by rw [h.len,e,List.length_append,List.length_singleton]
 rw [Option.toList_none,List.append_nil,List.getElem?_eq_none (by lia)] at e2
 refine⟨⟨t,e1⟩,fun x b _=>M.inv x b,fun x ex=>?_,fun _ _ _ _=>rfl,M.tight,M.ran,fun _=>rfl⟩
 have:=(M.inv _ _).mp ex
 rw [e2] at this
 cases this
theorem Tn.step {g0 c0:Nat→Option Nat} {f i o:Nat} (hT:Tr n W u v c0 first ts os none) (M:Mt n W u v g0 c0) (gf:g0 first=none) (h:Tn n W u v g0 ts os g c f i) (ho:os[i]?=some (f,o)) :
  (∃ b i',g o=some b∧i'<i∧Tn n W u v g0 ts os (st g o (some f)) (st c f (some o)) b i')∨(g o=none∧Mt n W u v (st g o (some f)) (st c f (some o))∧∀ t,((st g o (some f)) t).isSome=true↔(g0 t).isSome=true∨t=first):=by
 have hom:(f,o)∈os:=List.mem_of_getElem? ho
 obtain ⟨k,hk,ek⟩:=List.mem_iff_getElem.mp (hT.orig i _ ho)
 rw [List.length_take] at hk
 rw [List.getElem_take] at ek
 have ek2:ts[k]?=some o:=by rw [show o=ts[k] from ek.symm];exact List.getElem?_eq_getElem (by lia)
 have hg:g o=g0 o:=h.old k o (by lia) ek2
 have hon:o<n:=hT.lt o (List.mem_of_getElem? ek2)
 have hfn:f<n:=hT.ltk _ hom
 have sg:∀ t j,st g o (some f) t=some j→u t+v j=W t j:=fun t j e=>by
  unfold st at e
  by_cases c1:t=o
  ·rw [if_pos c1] at e;cases e;rw [c1];exact hT.tight _ hom
  ·rw [if_neg c1] at e;exact h.tight t j e
 have sr:∀ t j,st g o (some f) t=some j→t<n∧j<n:=fun t j e=>by
  unfold st at e
  by_cases c1:t=o
  ·rw [if_pos c1] at e;cases e;rw [c1];exact⟨hon,hfn⟩
  ·rw [if_neg c1] at e;exact h.ran t j e
 have sp:∀ t b,g o≠some b→(st g o (some f) t=some b↔st c f (some o) b=some t):=fun t b hb=>by
  unfold st
  by_cases c1:t=o <;> by_cases c2:b=f
  ·rw [if_pos c1,if_pos c2,c1,c2];exact⟨fun _=>rfl,fun _=>rfl⟩
  ·rw [if_pos c1,if_neg c2]
   refine⟨fun e=>absurd (Option.some.inj e).symm c2,fun e=>?_⟩
   exact absurd ((h.part o b c2).mpr (c1 ▸ e)) hb
  ·rw [if_neg c1,if_pos c2]
   refine⟨fun e=>absurd (c2 ▸ e) (h.no t),fun e=>absurd (Option.some.inj e).symm c1⟩
  ·rw [if_neg c1,if_neg c2]
   exact h.part t b c2
 cases hgo:g o with
 | none =>
  refine .inr ⟨rfl,⟨M.feas,sg,fun t b=>sp t b (by rw [hgo];exact fun z=>nomatch z),sr⟩,fun t=>?_⟩
  have hz:o=first:=by
   by_cases k0:k=0
   ·subst k0
    have hd:=hT.head
    rw [Option.toList_none,List.append_nil,ek2] at hd
    exact Option.some.inj hd
   ·have hk1:k - 1<os.length:=by rw [← hT.len];lia
    have e3:=hT.link _ _ (List.getElem?_eq_getElem hk1)
    rw [show k - 1+1=k by lia,Option.toList_none,List.append_nil,ek2] at e3
    have e4:=(M.inv _ _).mpr e3
    rw [← hg,hgo] at e4
    cases e4
  unfold st
  by_cases c1:t=o
  ·rw [if_pos c1];exact⟨fun _=>.inr (c1.trans hz),fun _=>rfl⟩
  ·rw [if_neg c1,h.dom t];exact⟨.inl,fun z=>z.elim id (fun z=>absurd (z.trans hz.symm) c1)⟩
 | some b =>
  have hbf:b≠f:=fun z=>h.no o (z ▸ hgo)
  have k0:k≠0:=fun z=>by
   subst z
   have hd:=hT.head
   rw [Option.toList_none,List.append_nil,ek2] at hd
   rw [← Option.some.inj hd,← hg,hgo] at gf
   cases gf
  have hk1:k - 1<os.length:=by rw [← hT.len];lia
  have e3:=hT.link _ _ (List.getElem?_eq_getElem hk1)
  rw [show k - 1+1=k by lia,Option.toList_none,List.append_nil,ek2] at e3
  have e4:=(M.inv _ _).mpr e3
  rw [← hg,hgo] at e4
  have e5:=Option.some.inj e4
  refine .inl ⟨b,k - 1,rfl,by lia,⟨⟨os[k - 1].2,by rw [List.getElem?_eq_getElem hk1,e5]⟩,fun t b' hb'=>sp t b' (by rw [hgo];exact fun z=>hb' (Option.some.inj z).symm),fun t e=>?_,fun k' t' hk' e'=>?_,sg,sr,fun t=>?_⟩⟩
  ·unfold st at e
   by_cases c1:t=o
   ·rw [if_pos c1] at e;exact hbf (Option.some.inj e).symm
   ·rw [if_neg c1] at e
    have h1:=(h.part t b hbf).mp e
    have h2:=(h.part o b hbf).mp hgo
    rw [h1] at h2
    exact c1 (Option.some.inj h2)
  ·unfold st
   have hne:t'≠o:=fun z=>by
    rw [z] at e'
    obtain ⟨l1,e1⟩:=List.getElem?_eq_some_iff.mp e'
    have:=nd_at hT.nd e' ek2
    lia
   rw [if_neg hne]
   exact h.old k' t' (by lia) e'
  ·unfold st
   by_cases c1:t=o
   ·rw [if_pos c1,c1,← h.dom o,hgo];rfl
   ·rw [if_neg c1];exact h.dom t
theorem Mt.full (M:Mt n W u v g c) (ha:∀ t,t<n→(g t).isSome=true):∃ go:Nat→Nat,(∀ t,t<n→g t=some (go t)∧go t<n∧u t+v (go t)=W t (go t))∧(∀ t t',t<n→t'<n→go t=go t'→t=t'):=by
 have h1:∀ t,t<n→g t=some ((g t).getD 0):=fun t ht=>by
  have:=ha t ht
  cases e:g t with
  | none=>rw [e] at this;cases this
  | some x=>rfl
 refine⟨fun t=>(g t).getD 0,fun t ht=>⟨h1 t ht,(M.ran _ _ (h1 t ht)).2,M.tight _ _ (h1 t ht)⟩,fun t t' ht ht' e=>?_⟩
 have e1:=(M.inv _ _).mp (h1 t ht)
 have e2:=(M.inv _ _).mp (h1 t' ht')
 simp only at e
 rw [e,e2] at e1
 exact (Option.some.inj e1).symm
end
end Mat
end L2
set_option maxRecDepth 100000
namespace L2
open PySem PySem.Spec PyProof.Rows PySem.W
theorem lsF_get {α:Type} {n t:Nat} {f:Nat→α} (h:t<n):((List.range n).map f)[t]?=some (f t):=by
 rw [List.getElem?_map,List.getElem?_range h];rfl
theorem lsF_len {α:Type} {n:Nat} {f:Nat→α}:((List.range n).map f).length=n:=by rw [List.length_map,List.length_range]
theorem lsF_set {α:Type} {n t:Nat} {f:Nat→α} {x:α}:((List.range n).map f).set t x=(List.range n).map fun k=>if k=t then x else f k:=by
 refine List.ext_getElem? fun i=>?_
 rw [List.getElem?_set]
 by_cases hi:i<n
 ·rw [lsF_get hi,lsF_get hi]
  by_cases e:t=i
  ·subst e
   rw [if_pos rfl,if_pos (by rw [lsF_len];exact hi),if_pos rfl]
  ·rw [if_neg e,if_neg (fun z:i=t=>e z.symm)]
 ·have h1:∀ f:Nat→α,((List.range n).map f)[i]?=none:=fun f=>List.getElem?_eq_none (by rw [lsF_len];lia)
  rw [h1,h1]
  by_cases e:t=i
  ·subst e
   rw [if_pos rfl,if_neg (by rw [lsF_len];exact hi)]
  ·rw [if_neg e]
theorem lsF_congr {α:Type} {n:Nat} {f g:Nat→α} (h:∀ i,i<n→f i=g i):(List.range n).map f=(List.range n).map g:=List.map_congr_left fun i hi=>h i (List.mem_range.mp hi)
theorem lsF_ix {α:Type} {n t:Nat} {f:Nat→α} (h:t<n):ixN ((List.range n).map f).length (t:Int)=some t:=by
 rw [lsF_len];unfold ixN
 rw [if_pos (Int.natCast_nonneg _),if_pos (Int.ofNat_lt.mpr h),Int.toNat_natCast]
theorem lsF_at {n t:Nat} {f:Nat→V} (h:t<n):atI ((List.range n).map f) (t:Int)=some (f t):=atI_nat (lsF_get h)
noncomputable def oV:Option Nat→V
 | none=>.non
 | some k=>.int (k:Int)
noncomputable def kvO (os:List (Nat×Nat)):List (Key×V):=os.map fun p=>(.inl (p.1:Int),.int (p.2:Int))
theorem kvO_len {os:List (Nat×Nat)}:(kvO os).length=os.length:=List.length_map _
theorem kvO_get {os:List (Nat×Nat)} {i:Nat} {p:Key×V} (h:(kvO os)[i]?=some p):∃ q,os[i]?=some q∧p=(.inl (q.1:Int),.int (q.2:Int)):=by
 unfold kvO at h
 rw [List.getElem?_map] at h
 cases e:os[i]? with
 | none=>rw [e] at h;cases h
 | some q=>rw [e] at h;cases h;exact⟨q,rfl,rfl⟩
theorem kv_has:∀ {os:List (Nat×Nat)} {j:Nat},(valV (kvO os) (.inl (j:Int))).isSome=decide (j∈os.map Prod.fst)
 | [],j=>rfl
 | p::os,j=>by
  have ih:=kv_has (os:=os) (j:=j)
  unfold kvO valV at ih ⊢
  rw [List.map_cons,List.find?_cons,List.map_cons]
  by_cases e:p.1=j
  ·have e1:decide ((Sum.inl (p.1:Int):Key)=.inl (j:Int))=true:=decide_eq_true (by rw [e])
   simp only [e1]
   rw [decide_eq_true (show j∈p.1::os.map Prod.fst by rw [e];exact .head _)]
   rfl
  ·have e1:decide ((Sum.inl (p.1:Int):Key)=.inl (j:Int))=false:=decide_eq_false fun z=>e (Int.ofNat.inj (Sum.inl.inj z))
   simp only [e1]
   refine ih.trans ?_
   by_cases h:j∈os.map Prod.fst
   ·rw [decide_eq_true h,decide_eq_true (List.mem_cons_of_mem _ h)]
   ·rw [decide_eq_false h,decide_eq_false (fun z=>(List.mem_cons.mp z).elim (fun z=>e z.symm) h)]
theorem kv_at:∀ {os:List (Nat×Nat)} {i j o:Nat},(os.map Prod.fst).Nodup→os[i]?=some (j,o)→valV (kvO os) (.inl (j:Int))=some (.int (o:Int))
 | [],i,j,o,_,h=>by cases h
 | p::os,i,j,o,nd,h=>by
  unfold kvO valV
  rw [List.map_cons,List.find?_cons]
  rw [List.map_cons] at nd
  have nd:=List.nodup_cons.mp nd
  match i,h with
  | 0,h =>
   cases h
   rw [decide_eq_true rfl]
   rfl
  | i+1,h =>
   rw [List.getElem?_cons_succ] at h
   have e:p.1≠j:=fun z=>nd.1 (by rw [z];exact List.mem_map.mpr ⟨_,List.mem_of_getElem? h,rfl⟩)
   have e1:decide ((Sum.inl (p.1:Int):Key)=.inl (j:Int))=false:=decide_eq_false fun z=>e (Int.ofNat.inj (Sum.inl.inj z))
   simp only [e1]
   have ih:=kv_at nd.2 h
   unfold kvO valV at ih
   exact ih
theorem kv_put {os:List (Nat×Nat)} {j t:Nat} (h:j∉os.map Prod.fst):putK (kvO os) (.inl (j:Int)) (.int (t:Int))=kvO (os++[(j,t)]):=by
 unfold putK
 rw [if_neg]
 ·unfold kvO;rw [List.map_append];rfl
 ·intro z
  obtain ⟨x,hx,e⟩:=List.any_eq_true.mp z
  obtain ⟨q,hq,rfl⟩:=List.mem_map.mp hx
  have e:=of_decide_eq_true e
  exact h (by rw [← Int.ofNat.inj (Sum.inl.inj e)];exact List.mem_map_of_mem hq)
section
variable {K:PySem.W.Frag} {H:Hp} {σ:St} {Q:VK} {ix:List (Option Nat)}
theorem rd_rangeFilter {n:Nat} {tt:TT} {te:TE} (fr:St) (f:Nat→Bool) (hpk:pick ix σ=none::fr) (hn:n≤1000)
  (tst:∀ (i:Nat) (H':Hp) (Qc:Bool→Hp→Prop),i<n→Same H H'→(∀ H5,Same H' H5→Qc (f i) H5)→tt (some (.int (i:Int))::fr) H' Qc)
  (elt:∀ (i:Nat) (H':Hp) (Qc:VK),i<n→Same H H'→(∀ H5,Same H' H5→Qc (.int (i:Int)) H5)→te (some (.int (i:Int))::fr) H' Qc)
  (hQ:∀ l H',H l=none→Same H H'→H' l=some (.lst (((List.range n).filter f).map fun k:Nat=>V.int (k:Int)))→Q (.ref l) H'):CompGoal ix (gName 0) tt te σ Q (Itr 0 n) H:=by
 refine comp_gen 1 fr n (fun l i ys H'=>ys=((List.range i).filter f).map (fun k:Nat=>V.int (k:Int))∧i≤n) hpk (fun l H' _ _ _=>⟨rfl,Nat.zero_le _⟩) (fun l i ys H' h=>?_) (fun H' s=>Nat.le_refl _) (fun i H' hi s=>hi) (fun l i x H' H2 own ys ho hi hl0 s hl' hp hy Qy Qn ky kn=>?_) (fun l H' ys a b c d=>hQ l H' a b (by rw [c,d.1]))
 ·rw [h.1,List.length_map]
  have:=List.length_filter_le f (List.range i)
  rw [List.length_range] at this
  lia
 ·obtain ⟨o1,rfl⟩:∃ o1,own=[o1]:=by match own,ho with|[o1],_=>exact⟨o1,rfl⟩
  obtain ⟨rfl,rfl⟩:=hy
  dsimp only [gName]
  rw [Int.zero_add]
  refine tst i _ _ hi s fun H3 s3=>?_
  have e:(List.range (i+1)).filter f=(List.range i).filter f++(if f i=true then [i] else []):=by
   rw [List.range_succ,List.filter_append]
   congr 1
   cases h:f i <;> simp [h]
  cases hf:f i with
  | true =>
   rw [if_pos rfl]
   refine elt i _ _ hi (s.trans s3) fun H5 s5=>ky [some (.int i)] _ H5 rfl (s3.trans s5) ⟨?_,hi⟩
   rw [e,hp.1,hf,List.map_append];rfl
  | false =>
   rw [if_neg (by decide)]
   refine kn [some (.int i)] H3 rfl s3 ⟨?_,hi⟩
   rw [e,hp.1,hf,List.map_append];simp
theorem rd_listRowsX {a:Addr} {xs:List V} {te:TE} (fr:St) (f:Nat→List Int) (hpk:pick ix σ=none::fr) (hl:SqL K H a xs) (hn:xs.length≤1000)
  (elt:∀ (i:Nat) (x:V) (H':Hp) (Qc:VK),xs[i]?=some x→Same H H'→(∀ p H5,Same H' H5→SqT K H5 p ((f i).map V.int)→Qc (.ref p) H5)→te (some x::fr) H' Qc)
  (hQ:∀ l H' ys,H l=none→Same H H'→H' l=some (.lst ys)→RowsL K H' ys ((List.range xs.length).map f)→Q (.ref l) H'):CompGoal ix (gName 0) (fun _ H Q=>Q true H) te σ Q (Itl K a) H:=by
 refine comp_rows (K:=K) 1 fr xs.length (fun i=>(List.range (min i 1000)).map f) hpk rfl (fun i=>by rw [lsF_len];lia) (fun H' s=>⟨xs,s.seq hl,Nat.le_refl _⟩) (fun i H' hi s=>⟨xs,xs[i],s.seq hl,List.getElem?_eq_getElem hi⟩) (fun i x H' H2 own ho hi s hy Qy Qn ky kn=>?_) (fun l H' ys h1 h2 h3 h4=>hQ l H' ys h1 h2 h3 (by rwa [Nat.min_eq_left hn] at h4))
 obtain ⟨o1,rfl⟩:∃ o1,own=[o1]:=by match own,ho with|[o1],_=>exact⟨o1,rfl⟩
 obtain ⟨rfl,e⟩:=hy
 dsimp only [gName]
 rw [if_pos rfl]
 refine elt i x _ _ (e xs (s.seq hl)) s fun p H5 s5 hp=>ky [some x] p (f i) H5 rfl s5 hp ?_
 show (List.range (min (i+1) 1000)).map f=(List.range (min i 1000)).map f++[f i]
 rw [Nat.min_eq_left (by lia),Nat.min_eq_left (by lia),List.range_succ,List.map_append];rfl
end
noncomputable def WaysAt (K:PySem.W.Frag) (H:Hp) (wl:Addr) (n:Nat) (wy:Nat→Nat→List Int):Prop :=
 ∃ xs,SqL K H wl xs∧xs.length=n∧∀ t,t<n→∃ (ra:Addr) (ys:List V),xs[t]?=some (.ref ra)∧SqL K H ra ys∧ys.length=n∧∀ j,j<n→∃ p:Addr,ys[j]?=some (.ref p)∧SqT K H p ((wy t j).map V.int)
theorem sqL_T {K:PySem.W.Frag} {P a:Addr} {H H':Hp} {xs:List V} {ps:Array Value} (s:SameT P H H') (hP:H P=some (.tbl ps)) (h:SqL K H a xs):SqL K H' a xs :=
 h.imp (fun z=>z.imp (fun e=>s _ _ (fun w=>by rw [w,hP] at e;cases e) e) fun ⟨o,e⟩=>⟨o,s _ _ (fun w=>by rw [w,hP] at e;cases e) e⟩) id
theorem sqT_T {K:PySem.W.Frag} {P a:Addr} {H H':Hp} {xs:List V} {ps:Array Value} (s:SameT P H H') (hP:H P=some (.tbl ps)) (h:SqT K H a xs):SqT K H' a xs :=
 h.imp (fun z=>z.imp (fun e=>s _ _ (fun w=>by rw [w,hP] at e;cases e) e) fun ⟨o,e⟩=>⟨o,s _ _ (fun w=>by rw [w,hP] at e;cases e) e⟩) id
theorem WaysAt.sameT {K:PySem.W.Frag} {P:Addr} {H H':Hp} {wl:Addr} {n:Nat} {wy:Nat→Nat→List Int} {ps:Array Value} (h:WaysAt K H wl n wy) (s:SameT P H H') (hP:H P=some (.tbl ps)):WaysAt K H' wl n wy:=by
 obtain ⟨xs,h1,h2,h3⟩:=h
 refine⟨xs,sqL_T s hP h1,h2,fun t ht=>?_⟩
 obtain ⟨ra,ys,e1,e2,e3,e4⟩:=h3 t ht
 refine⟨ra,ys,e1,sqL_T s hP e2,e3,fun j hj=>?_⟩
 obtain ⟨p,f1,f2⟩:=e4 j hj
 exact⟨p,f1,sqT_T s hP f2⟩
end L2
set_option maxRecDepth 100000
set_option maxRecDepth 100000
namespace L2
open PySem PySem.Spec PyProof.Rows PySem.W
theorem valsI_of:∀ {ns:List Int} {vs:List Value},Vals (ns.map V.int) vs→IntsAre vs ns
 | [],[],_=>.nil
 | n::ns,_,h=>by
  rw [List.map_cons] at h
  cases h with
  | cons r t =>
   obtain ⟨tk,rfl⟩:=r
   exact .cons n tk (valsI_of t)
theorem valsI_to:∀ {vs:List Value} {ns:List Int},IntsAre vs ns→Vals (ns.map V.int) vs
 | _,_,.nil=>.nil
 | _,_,.cons n t h=>.cons ⟨t,rfl⟩ (valsI_to h)
noncomputable def rSortI (K:Frag):List V→Hp→VK→Prop:=fun vs H Q=>∃ (l:Addr) (ns:List Int),vs=[.ref l]∧SqL K H l (ns.map V.int)∧ns.length<64∧∀ p H' (qs:List Int),H p=none→Same H H'→H' p=some (.lst (qs.map V.int))→qs.Perm ns→qs.Pairwise (·≤·)→Q (.ref p) H'
theorem kN_sortI {X:Cx} (K:Frag) (hK:X.K=K):CallR X (.builtin "sorted") (rSortI K):=by
 subst hK
 rintro pins s σ H xs us Q I r ⟨l,ns,rfl,h1,h2,k⟩
 obtain ⟨u,rfl,ru⟩:=vals1 r
 cases ru
 obtain ⟨vs,hv,pl,_⟩:=I.list h1
 have hl:s.heap.IsList l vs.toArray:=by
  obtain ⟨o,n,h1,h2,h3⟩:=pl
  exact⟨o,h1,h2,n,h3.2⟩
 have lv:=hv.length
 rw [List.length_map] at lv
 refine sorted_ints hl (valsI_of hv) (by lia) fun out qs a1 a2 a3=>?_
 obtain ⟨e,he⟩:=sortedAll_at s.heap vs out
 have hz:qs.length<64:=by rw [a2.length_eq];exact h2
 have hp:=I.hok.fresh (Nat.le_succ s.heap.objs.size)
 refine⟨.ref _,upd H (s.heap.objs.size+1) (.lst (qs.map V.int)),I.laid (t':=s.toks) (fun b o q=>sortedAll_old q) (Nat.le_succ _) ?_,rfl,k _ _ qs hp (Same.upd_new hp) upd_same a2 a3⟩
 exact⟨by rw [List.length_map,sizeLine_eq];lia,out.toList,e,valsI_to a1,he⟩
theorem rd_sortI {K:Frag} {H:Hp} {Q:VK} {l:Addr} {ns:List Int} (hs:SqL K H l (ns.map V.int)) (h64:ns.length<64) (k:∀ p H' (qs:List Int),H p=none→Same H H'→H' p=some (.lst (qs.map V.int))→qs.Perm ns→qs.Pairwise (·≤·)→Q (.ref p) H'):rSortI K [.ref l] H Q:=⟨l,ns,rfl,hs,h64,k⟩
end L2

theorem PySem.W.Fast.tw3328164981384735597 : True := trivial
theorem PySem.W.Fast.tw9110545685001178893 : True := trivial
theorem PySem.W.Fast.tw18070236149064401217 : True := trivial
theorem PySem.W.Fast.tw1985628225184057316 : True := trivial
theorem PySem.W.Fast.tw13398803875169830856 : True := trivial
theorem PySem.W.Fast.tw11038677511661875232 : True := trivial
theorem PySem.W.Fast.tw17945798403406817031 : True := trivial
theorem PySem.W.Fast.tw17251585173421546679 : True := trivial
theorem PySem.W.Fast.tw12978697652783431279 : True := trivial
theorem PySem.W.Fast.tw15824589740010834168 : True := trivial
theorem PySem.W.Fast.tw14866395824441259466 : True := trivial
theorem PySem.W.Fast.tw10633802526395243074 : True := trivial
theorem PySem.W.Fast.tw3020670838165252754 : True := trivial
theorem PySem.W.Fast.tw13820114612653643904 : True := trivial
theorem PySem.W.Fast.tw6872511412808814971 : True := trivial
theorem PySem.W.Fast.tw12302227514517197810 : True := trivial
theorem PySem.W.Fast.tw14576307610972070704 : True := trivial
theorem PySem.W.Fast.tw4938397264610804957 : True := trivial
theorem PySem.W.Fast.tw11405700519741219161 : True := trivial
theorem PySem.W.Fast.tw4626685454663478969 : True := trivial
theorem PySem.W.Fast.tw4030177879099557879 : True := trivial
theorem PySem.W.Fast.tw9048118644019776551 : True := trivial
theorem PySem.W.Fast.tw7506603846690565444 : True := trivial
theorem PySem.W.Fast.tw11958046243216428174 : True := trivial
theorem PySem.W.Fast.tw4643460472293573484 : True := trivial
theorem PySem.W.Fast.tw17328910082444170342 : True := trivial
theorem PySem.W.Fast.tw14300754146833938154 : True := trivial
theorem PySem.W.Fast.tw11424607206984259945 : True := trivial
theorem PySem.W.Fast.tw5056681652629328133 : True := trivial
theorem PySem.W.Fast.tw5265730256574197725 : True := trivial
theorem PySem.W.Fast.tw8363305854021161484 : True := trivial
theorem PySem.W.Fast.tw17573870227765847594 : True := trivial
theorem PySem.W.Fast.tw326087246245710424 : True := trivial
theorem PySem.W.Fast.tw13032183464490472648 : True := trivial
theorem PySem.W.Fast.tw11837808167020510245 : True := trivial
theorem PySem.W.Fast.tw3379940640953504912 : True := trivial
theorem PySem.W.Fast.tw2305559278984211667 : True := trivial
theorem PySem.W.Fast.tw11970195195413843110 : True := trivial
theorem PySem.W.Fast.tw4213863854404507606 : True := trivial
theorem PySem.W.Fast.tw11187822597765991436 : True := trivial
theorem PySem.W.Fast.tw6639436842033494924 : True := trivial
theorem PySem.W.Fast.tw1591326888041613405 : True := trivial
theorem PySem.W.Fast.tw11735854489965943587 : True := trivial
theorem PySem.W.Fast.tw17851780170538942731 : True := trivial
theorem PySem.W.Fast.tw16547421162692524165 : True := trivial
theorem PySem.W.Fast.tw17825905342590810400 : True := trivial
theorem PySem.W.Fast.tw2483785035880423178 : True := trivial
theorem PySem.W.Fast.tw17327354230454873025 : True := trivial
theorem PySem.W.Fast.tw2186559289779774102 : True := trivial
theorem PySem.W.Fast.tw4258303718571684214 : True := trivial
theorem PySem.W.Fast.tw1949722866421698257 : True := trivial
theorem PySem.W.Fast.tw8278730537549728080 : True := trivial
theorem PySem.W.Fast.tw12739688227386368992 : True := trivial
theorem PySem.W.Fast.tw190370083063891240 : True := trivial
theorem PySem.W.Fast.tw17364972409568802681 : True := trivial
theorem PySem.W.Fast.tw12752819115944665797 : True := trivial
theorem PySem.W.Fast.tw5821478123375881100 : True := trivial
theorem PySem.W.Fast.tw14378887842760877305 : True := trivial
theorem PySem.W.Fast.tw1954532441840393985 : True := trivial
theorem PySem.W.Fast.tw7304617498026368044 : True := trivial
theorem PySem.W.Fast.tw9189004271182558753 : True := trivial
theorem PySem.W.Fast.tw8121370008384058106 : True := trivial
theorem PySem.W.Fast.tw16941378417042961982 : True := trivial
theorem PySem.W.Fast.tw17231306806958883875 : True := trivial
theorem PySem.W.Fast.tw7086050079894496510 : True := trivial
theorem PySem.W.Fast.tw4087760861345731662 : True := trivial
theorem PySem.W.Fast.tw5157844211828741361 : True := trivial
theorem PySem.W.Fast.tw10993839408687182851 : True := trivial
theorem PySem.W.Fast.tw11922267617690330232 : True := trivial
theorem PySem.W.Fast.tw15251056102692301596 : True := trivial
theorem PySem.W.Fast.tw8686404962086563042 : True := trivial
theorem PySem.W.Fast.tw8815691434502862002 : True := trivial
theorem PySem.W.Fast.tw7694461761531293998 : True := trivial
theorem PySem.W.Fast.tw2788633820152769455 : True := trivial
theorem PySem.W.Fast.tw887273743979847825 : True := trivial
theorem PySem.W.Fast.tw18348892122582797944 : True := trivial
theorem PySem.W.Fast.tw13904182464936936662 : True := trivial
theorem PySem.W.Fast.tw17616149990462658388 : True := trivial
theorem PySem.W.Fast.tw9560545230062228082 : True := trivial
theorem PySem.W.Fast.tw264602110247983186 : True := trivial
theorem PySem.W.Fast.tw10059651553629376630 : True := trivial
theorem PySem.W.Fast.tw14525122140390621216 : True := trivial
theorem PySem.W.Fast.tw12063285866729257353 : True := trivial
theorem PySem.W.Fast.tw1293017122719585639 : True := trivial
theorem PySem.W.Fast.tw1945228168367920400 : True := trivial
theorem PySem.W.Fast.tw10655387706062837134 : True := trivial
theorem PySem.W.Fast.tw15088869079054519021 : True := trivial
theorem PySem.W.Fast.tw4600979610882825014 : True := trivial
theorem PySem.W.Fast.tw6838358635873562189 : True := trivial
theorem PySem.W.Fast.tw2257397970828580377 : True := trivial
theorem PySem.W.Fast.tw2112356213920334729 : True := trivial
theorem PySem.W.Fast.tw3801241790318426475 : True := trivial
theorem PySem.W.Fast.tw3196788591104625159 : True := trivial
theorem PySem.W.Fast.tw8928200769325432621 : True := trivial
theorem PySem.W.Fast.tw17768142499627346029 : True := trivial
theorem PySem.W.Fast.tw9641520031895540074 : True := trivial
theorem PySem.W.Fast.tw2789368415531309995 : True := trivial
theorem PySem.W.Fast.tw3531086801400023497 : True := trivial
theorem PySem.W.Fast.tw7991309805298550585 : True := trivial
namespace Law
open PySem L2
noncomputable def top (i:Nat):Stmt:=PySem.Challenge.pw_tuningyard_k80_whole_steps_are_a_distanc.main.body.getD i (.Pass ⟨0,0,0,0⟩)
noncomputable abbrev s_way:Stmt:=top 8
noncomputable abbrev s_ways_from:Stmt:=top 10
noncomputable abbrev s_led:Stmt:=top 11
noncomputable abbrev s_least_steps:Stmt:=top 12
noncomputable abbrev s_heard:Stmt:=top 14
noncomputable abbrev s_value:Stmt:=top 15
noncomputable abbrev s_checked_keys:Stmt:=top 18
noncomputable abbrev s_values:Stmt:=top 19
noncomputable abbrev s_law_mixed:Stmt:=top 25
noncomputable abbrev s_law_number:Stmt:=top 26
noncomputable abbrev s_law_row:Stmt:=top 27
noncomputable abbrev s_law_tone:Stmt:=top 28
noncomputable abbrev s_law_plus:Stmt:=top 29
noncomputable abbrev s_law_within:Stmt:=top 30
noncomputable abbrev s_law_dot:Stmt:=top 31
noncomputable abbrev s_law_board_row:Stmt:=top 32
noncomputable abbrev s_law_whole:Stmt:=top 33
noncomputable abbrev s_law_chord:Stmt:=top 34
noncomputable abbrev s_law_other:Stmt:=top 35
noncomputable abbrev s_law_same_sounds:Stmt:=top 36
noncomputable abbrev s_law_moved:Stmt:=top 37
noncomputable abbrev s_law_fits:Stmt:=top 38
noncomputable abbrev s_law:Stmt:=top 39
noncomputable abbrev s_KeyTuning_init:Stmt:=clsItem (top 22) 0
noncomputable abbrev s_Board_init:Stmt:=clsItem (top 23) 0
noncomputable abbrev s_Board_sound:Stmt:=clsItem (top 23) 1
noncomputable abbrev s_Leading_init:Stmt:=clsItem (top 9) 0
noncomputable abbrev s_Leading_room:Stmt:=clsItem (top 9) 1
noncomputable abbrev s_Leading_nearest:Stmt:=clsItem (top 9) 2
noncomputable abbrev s_Leading_shift:Stmt:=clsItem (top 9) 3
noncomputable abbrev s_Leading_turn:Stmt:=clsItem (top 9) 4
noncomputable abbrev s_Leading_lead:Stmt:=clsItem (top 9) 5
@[elab_as_elim] theorem of_len1 {α : Type} {P : List α → Prop} (us : List α) (hl : us.length = 1) (h : ∀ a0 : α, P [a0]) : P us :=
 match us,hl with|[a0],_=>h a0
@[elab_as_elim] theorem of_len2 {α : Type} {P : List α → Prop} (us : List α) (hl : us.length = 2) (h : ∀ a0 a1 : α, P [a0, a1]) : P us :=
 match us,hl with|[a0,a1],_=>h a0 a1
@[elab_as_elim] theorem of_len3 {α : Type} {P : List α → Prop} (us : List α) (hl : us.length = 3) (h : ∀ a0 a1 a2 : α, P [a0, a1, a2]) : P us :=
 match us,hl with|[a0,a1,a2],_=>h a0 a1 a2
@[elab_as_elim] theorem of_len4 {α : Type} {P : List α → Prop} (us : List α) (hl : us.length = 4) (h : ∀ a0 a1 a2 a3 : α, P [a0, a1, a2, a3]) : P us :=
 match us,hl with|[a0,a1,a2,a3],_=>h a0 a1 a2 a3
noncomputable def RB (f h:Int) (r:List Int):Prop:=∃ a0 a1 a2 a3 a4:Int,r=[a0,a1,a2,a3,a4]∧(-f≤a0∧a0≤f)∧(-h≤a1∧a1≤h)∧(-h≤a2∧a2≤h)∧(-h≤a3∧a3≤h)∧(-h≤a4∧a4≤h)
theorem RB.mono {f h f' h':Int} {r:List Int} (x:RB f h r) (h1:f≤f') (h2:h≤h'):RB f' h' r:=by
 obtain ⟨a0,a1,a2,a3,a4,rfl,⟨_,_⟩,⟨_,_⟩,⟨_,_⟩,⟨_,_⟩,⟨_,_⟩⟩:=x
 exact⟨a0,a1,a2,a3,a4,rfl,by lia,by lia,by lia,by lia,by lia⟩
noncomputable def wh:V→Bool
 | .int _=>true
 | _=>false
noncomputable def dot (a b:List Int):Int:=(List.zipWith (·*·) a b).sum
theorem dot_comm:∀ (a b:List Int),dot a b=dot b a
 | [],[]=>rfl
 | [],_::_=>rfl
 | _::_,[]=>rfl
 | x::a,y::b=>by
  have h:=dot_comm a b
  unfold dot at h ⊢
  simp only [List.zipWith_cons_cons,List.sum_cons]
  rw [h,Int.mul_comm]
noncomputable def val (w:List Int) (m:Int) (r:List Int):Int:=if m=0 then dot r w else dot r w % m
noncomputable def Few (n:Nat) (r:List Int):Prop:=∀ x∈r,bitsI x≤n
theorem Few.mul {n m:Nat} {r q:List Int} (h1:Few n r) (h2:Few m q) (h:n+m≤1000000) (hl:r.length=q.length):∀ i,i<r.length→CMulB (r.getD i 0) (q.getD i 0):=fun i hi=>by
 have a:=h1 (r.getD i 0) (by rw [List.getD,List.getElem?_eq_getElem hi];exact List.getElem_mem hi)
 have b:=h2 (q.getD i 0) (by rw [List.getD,List.getElem?_eq_getElem (hl ▸ hi)];exact List.getElem_mem _)
 unfold CMulB
 lia
noncomputable def num (c b:Int):Int:=(c+b) % (2*b+1) - b
theorem num_bd (c:Int) {b:Int} (h:0≤b):-b≤num c b∧num c b≤b:=by
 unfold num
 have h1:=Int.emod_nonneg (c+b) (show 2*b+1≠0 by lia)
 have h2:=Int.emod_lt_of_pos (c+b) (show 0<2*b+1 by lia)
 lia
theorem bits_le {x:Int} {b:Int} {k:Nat} (h:-b≤x∧x≤b) (hb:b<2 ^ k):bitsI x≤k:=by
 rw [Mth.bits_bl]
 apply Mth.bl_le
 have:((2 ^ k:Nat):Int)=(2:Int) ^ k:=by simp
 lia
noncomputable def rowI (ns:List Int) (k b:Int):List Int:=[num (ns.getD (k+0).toNat 0) b,num (ns.getD (k+1).toNat 0) b,num (ns.getD (k+2).toNat 0) b,num (ns.getD (k+3).toNat 0) b,num (ns.getD (k+4).toNat 0) b]
theorem rowI_few (ns:List Int) (k:Int) {b:Int} (h0:0≤b) {n:Nat} (hb:b<2 ^ n):Few n (rowI ns k b):=fun x hx=>by
 simp only [rowI,List.mem_cons,List.not_mem_nil,or_false] at hx
 rcases hx with rfl|rfl|rfl|rfl|rfl <;> exact bits_le (num_bd _ h0) hb
noncomputable def GoodK (k:List Int×Int):Prop:=k.1.length=5∧Few 100 k.1∧(k.2=0∨2≤k.2)
theorem GoodK.mul {k:List Int×Int} {r:List Int} (g:GoodK k) (hl:r.length=5) (hf:Few 100 r):∀ i,i<r.length→CMulB (r.getD i 0) (k.1.getD i 0):=Few.mul hf g.2.1 (by decide) (by rw [hl,g.1])
noncomputable def vals (ks:List (List Int×Int)) (r:List Int):List Int:=ks.map fun k=>val k.1 k.2 r
theorem getD_of {α:Type} {ks:List α} {i:Nat} {k d:α} (h:ks[i]?=some k):ks.getD i d=k:=by rw [List.getD,h];rfl
theorem mem_of {α:Type} {ks:List α} {i:Nat} {k:α} (h:ks[i]?=some k):k∈ks:=by
 obtain ⟨h1,h2⟩:=List.getElem?_eq_some_iff.mp h
 rw [← h2]
 exact List.getElem_mem h1
noncomputable def BoardAt (K:PySem.W.Frag) (H:Hp) (b:Addr) (w:List Int):Prop:=∃ C dx l kk:Addr,PySem.W.nsIn K mainGlobals "Board"=some (some (.ref C))∧H b=some (.ins C dx [("own_keys",.ref l),("octave",.int (w.getD 0 0))])∧H l=some (.lst [.ref kk])∧KeysL K H [.ref kk] [(w,0)]∧w.length=5∧Few 100 w∧1≤w.getD 0 0
theorem BoardAt.same {K:PySem.W.Frag} {H H':Hp} {b:Addr} {w:List Int} (h:BoardAt K H b w) (s:Same H H'):BoardAt K H' b w:=by
 obtain ⟨C,dx,l,kk,h1,h2,h3,h4,h5⟩:=h
 exact⟨C,dx,l,kk,h1,s _ _ h2,s _ _ h3,h4.same s,h5⟩
noncomputable def SameX (x:Addr) (H H':Hp):Prop:=∀ b o,b≠x→H b=some o→H' b=some o
theorem SameX.made {x dx C:Addr} {H H':Hp} (h:SameX x (upd (upd H dx (.own x)) x (.ins C dx [])) H') (h1:H x=none) (h2:H dx=none):Same H H':=fun b o e=>by
 have n1:b≠x:=fun z=>by rw [z,h1] at e;cases e
 have n2:b≠dx:=fun z=>by rw [z,h2] at e;cases e
 exact h b o n1 (by rw [upd_ne n1,upd_ne n2];exact e)
noncomputable def wayV (w a b:List Int):List Int:=let up:=(dot b w - dot a w) % w.getD 0 0;let down:=w.getD 0 0 - up;if up<down then [up,dot a w+up] else [down,dot a w - down]
theorem made_sqT {K:PySem.W.Frag} {H:Hp} {x dx a C:Addr} {xs:List V} (h:SqT K H a xs) (h1:H x=none) (h2:H dx=none):SqT K (upd (upd H dx (.own x)) x (.ins C dx [])) a xs:=by
 have s:Same H (upd (upd H dx (.own x)) x (.ins C dx [])):=fun b o e=>by
  have n1:b≠x:=fun z=>by rw [z,h1] at e;cases e
  have n2:b≠dx:=fun z=>by rw [z,h2] at e;cases e
  rw [upd_ne n1,upd_ne n2];exact e
 exact s.at h
theorem good_key {w:List Int} (h5:w.length=5) (hf:Few 100 w):∀ k∈[(w,(0:Int))],GoodK k:=fun k hk=>by rw [List.mem_singleton.mp hk];exact⟨h5,hf,.inl rfl⟩
theorem RB.few {f h:Int} {r:List Int} (x:RB f h r) (hf:f<2 ^ 100) (hh:h<2 ^ 100):Few 100 r:=fun y hy=>by
 obtain ⟨a0,a1,a2,a3,a4,rfl,h0,h1,h2,h3,h4⟩:=x
 simp only [List.mem_cons,List.not_mem_nil,or_false] at hy
 rcases hy with rfl|rfl|rfl|rfl|rfl
 ·exact bits_le h0 hf
 ·exact bits_le h1 hh
 ·exact bits_le h2 hh
 ·exact bits_le h3 hh
 ·exact bits_le h4 hh
theorem RB.length {f h:Int} {r:List Int} (x:RB f h r):r.length=5:=by
 obtain ⟨a0,a1,a2,a3,a4,rfl,_⟩:=x
 rfl
theorem upd_ins_sqT {K:PySem.W.Frag} {H:Hp} {x a C dx:Addr} {fs gs:List (Str×V)} {xs:List V} (h:SqT K H a xs) (e:H x=some (.ins C dx fs)):SqT K (upd H x (.ins C dx gs)) a xs:=by
 refine h.imp (fun q=>?_) id
 rcases q with q|⟨o,q⟩
 ·exact .inl (by rw [upd_ne (fun z=>by rw [z,e] at q;cases q)];exact q)
 ·exact .inr ⟨o,by rw [upd_ne (fun z=>by rw [z,e] at q;cases q)];exact q⟩
theorem sqT_but {K:PySem.W.Frag} {H H':Hp} {x a C dx:Addr} {fs:List (Str×V)} {xs:List V} (h:SqT K H a xs) (n:∀ b o,b≠x→H b=some o→H' b=some o) (e:H x=some (.ins C dx fs)):SqT K H' a xs:=by
 refine h.imp (fun q=>?_) id
 rcases q with q|⟨o,q⟩
 ·exact .inl (n _ _ (fun z=>by rw [z,e] at q;cases q) q)
 ·exact .inr ⟨o,n _ _ (fun z=>by rw [z,e] at q;cases q) q⟩
theorem keys_off {K:PySem.W.Frag} {H:Hp} {x C dx:Addr} {fs gs:List (Str×V)}:∀ {xs:List V} {ks:List (List Int×Int)},KeysL K H xs ks→H x=some (.ins C dx fs)→KeysL K (upd H x (.ins C dx gs)) xs ks
 | _,_,.nil,_=>.nil
 | _,_,.cons h1 h2 t,e=>.cons (upd_ins_sqT h1 e) (upd_ins_sqT h2 e) (keys_off t e)
theorem keys_off2 {K:PySem.W.Frag} {H H':Hp} {x C dx:Addr} {fs:List (Str×V)}:∀ {xs:List V} {ks:List (List Int×Int)},KeysL K H xs ks→(∀ b o,b≠x→H b=some o→H' b=some o)→H x=some (.ins C dx fs)→KeysL K H' xs ks
 | _,_,.nil,_,_=>.nil
 | _,_,.cons h1 h2 t,n,e=>.cons (sqT_but h1 n e) (sqT_but h2 n e) (keys_off2 t n e)
noncomputable def vLam:Expr→Pos
 | .Call _ _ [⟨_,.Lambda _ _ _ p,_⟩] _=>p
 | _=>⟨0,0,0,0⟩
noncomputable def vRet:Stmt→Expr
 | .Return (some e) _=>e
 | _=>.Name "" ⟨0,0,0,0⟩
noncomputable abbrev lpN:Pos:=vLam (vRet ((defBody s_Leading_nearest).getD 3 (.Pass ⟨0,0,0,0⟩)))
noncomputable abbrev PN (K:PySem.W.Frag):Addr:=tabPM K "Leading" "nearest"
noncomputable abbrev TabL (K:PySem.W.Frag) (H:Hp):Prop:=TabH (PN K) lpN "Leading.nearest.<locals>.<lambda>" H
noncomputable abbrev SmL (K:PySem.W.Frag) (H H':Hp):Prop:=SameT (PN K) H H'
noncomputable abbrev ldF (wl au av ag ac:Addr):List (Str×V):=[("ways",.ref wl),("tone_prices",.ref au),("goal_prices",.ref av),("goals",.ref ag),("comers",.ref ac)]
noncomputable def lsI (n:Nat) (u:Nat→Int):List V:=(List.range n).map fun t=>V.int (u t)
noncomputable def lsO (n:Nat) (g:Nat→Option Nat):List V:=(List.range n).map fun t=>oV (g t)
noncomputable def lsN (ts:List Nat):List V:=ts.map fun k:Nat=>V.int (k:Int)
theorem lsI_at {n t:Nat} {u:Nat→Int} (h:t<n):atI (lsI n u) (t:Int)=some (.int (u t)):=lsF_at h
theorem lsO_at {n t:Nat} {g:Nat→Option Nat} (h:t<n):atI (lsO n g) (t:Int)=some (oV (g t)):=lsF_at h
theorem lsI_ix {n t:Nat} {u:Nat→Int} (h:t<n):ixN (lsI n u).length (t:Int)=some t:=lsF_ix h
theorem lsO_ix {n t:Nat} {g:Nat→Option Nat} (h:t<n):ixN (lsO n g).length (t:Int)=some t:=lsF_ix h
theorem lsO_set {n t:Nat} {g:Nat→Option Nat} (x:Option Nat):(lsO n g).set t (oV x)=lsO n (Mat.st g t x):=by
 unfold lsO
 rw [lsF_set]
 refine lsF_congr fun i _=>?_
 unfold Mat.st
 by_cases e:i=t
 ·rw [if_pos e,if_pos e]
 ·rw [if_neg e,if_neg e]
theorem lsI_set {n t:Nat} {u u':Nat→Int} {x:Int} (h:∀ k,k<n→u' k=if k=t then x else u k):(lsI n u).set t (.int x)=lsI n u':=by
 unfold lsI
 rw [lsF_set]
 refine lsF_congr fun i hi=>?_
 rw [h i hi]
 by_cases e:i=t
 ·rw [if_pos e,if_pos e]
 ·rw [if_neg e,if_neg e]
theorem up_nil {a:Int} {u:Nat→Int}:Mat.up [] a u=u:=by
 funext x
 unfold Mat.up
 rw [if_neg List.not_mem_nil]
theorem up_snoc {ts:List Nat} {a:Int} {u:Nat→Int} {t:Nat} (h:t∉ts) (k:Nat):Mat.up (ts++[t]) a u k=if k=t then Mat.up ts a u t+a else Mat.up ts a u k:=by
 unfold Mat.up
 by_cases e:k=t
 ·subst e
  rw [if_pos (List.mem_append_right _ (List.mem_singleton.mpr rfl)),if_pos rfl,if_neg h]
 ·rw [if_neg e]
  by_cases e2:k∈ts
  ·rw [if_pos e2,if_pos (List.mem_append_left _ e2)]
  ·rw [if_neg e2,if_neg (fun z=>(List.mem_append.mp z).elim e2 (fun z=>e (List.mem_singleton.mp z)))]
theorem take_snoc {α:Type} {ts:List α} {i:Nat} {t:α} (h:ts[i]?=some t):ts.take (i+1)=ts.take i++[t]:=by
 obtain ⟨hi,e⟩:=List.getElem?_eq_some_iff.mp h
 rw [List.take_add_one,h]
 rfl
theorem not_take {ts:List Nat} (nd:ts.Nodup) {i t:Nat} (h:ts[i]?=some t):t∉ts.take i:=fun z=>by
 obtain ⟨k,hk,e⟩:=List.mem_iff_getElem.mp z
 rw [List.length_take] at hk
 rw [List.getElem_take] at e
 have:=Mat.nd_at nd (show ts[k]?=some t by rw [← e];exact List.getElem?_eq_getElem (by lia)) h
 lia
structure LdS (K:PySem.W.Frag) (H0 H:Hp) (x wl au av ag ac:Addr) (n:Nat) (wy:Nat→Nat→List Int) (u v:Nat→Int) (g c:Nat→Option Nat):Prop where
 ins:∃ C dx:Addr,PySem.W.nsIn K mainGlobals "Leading"=some (some (.ref C))∧H x=some (.ins C dx (ldF wl au av ag ac))
 ways:WaysAt K H0 wl n wy
 lu:H au=some (.lst (lsI n u))
 lv:H av=some (.lst (lsI n v))
 lg:H ag=some (.lst (lsO n g))
 lc:H ac=some (.lst (lsO n c))
 fx:H0 x=none
 fu:H0 au=none
 fv:H0 av=none
 fg:H0 ag=none
 fc:H0 ac=none
 duv:au≠av
 dug:au≠ag
 duc:au≠ac
 dvg:av≠ag
 dvc:av≠ac
 dgc:ag≠ac
 sm:SmL K H0 H
 tb0:TabL K H0
 two:∀ t j,∃ a b:Int,wy t j=[a,b]
 few:n≤6
section
variable {K:PySem.W.Frag} {H0 H H':Hp} {x wl au av ag ac:Addr} {n:Nat} {wy:Nat→Nat→List Int} {u v:Nat→Int} {g c:Nat→Option Nat}
theorem LdS.waysAt (h:LdS K H0 H x wl au av ag ac n wy u v g c):WaysAt K H wl n wy:=by
 obtain ⟨ps,hP⟩:=h.tb0.at
 exact h.ways.sameT h.sm hP
theorem LdS.keep (h:LdS K H0 H x wl au av ag ac n wy u v g c) (tb:TabL K H) (s:SmL K H H'):LdS K H0 H' x wl au av ag ac n wy u v g c:=by
 obtain ⟨C,dx,e1,e2⟩:=h.ins
 obtain ⟨ps,hP⟩:=tb.at
 exact { h with
  ins:=⟨C,dx,e1,s _ _ (fun z=>by rw [z,hP] at e2;cases e2) e2⟩
  lu:=s.lst tb h.lu
  lv:=s.lst tb h.lv
  lg:=s.lst tb h.lg
  lc:=s.lst tb h.lc
  sm:=h.sm.trans s }
theorem LdS.setu {u':Nat→Int} (h:LdS K H0 H x wl au av ag ac n wy u v g c):LdS K H0 (upd H au (.lst (lsI n u'))) x wl au av ag ac n wy u' v g c:=by
 obtain ⟨C,dx,e1,e2⟩:=h.ins
 exact { h with
  ins:=⟨C,dx,e1,by rw [upd_ne (fun z=>by rw [z,h.lu] at e2;cases e2)];exact e2⟩
  lu:=upd_same
  lv:=by rw [upd_ne h.duv.symm];exact h.lv
  lg:=by rw [upd_ne h.dug.symm];exact h.lg
  lc:=by rw [upd_ne h.duc.symm];exact h.lc
  sm:=h.sm.upd_old h.fu }
theorem LdS.setv {v':Nat→Int} (h:LdS K H0 H x wl au av ag ac n wy u v g c):LdS K H0 (upd H av (.lst (lsI n v'))) x wl au av ag ac n wy u v' g c:=by
 obtain ⟨C,dx,e1,e2⟩:=h.ins
 exact { h with
  ins:=⟨C,dx,e1,by rw [upd_ne (fun z=>by rw [z,h.lv] at e2;cases e2)];exact e2⟩
  lu:=by rw [upd_ne h.duv];exact h.lu
  lv:=upd_same
  lg:=by rw [upd_ne h.dvg.symm];exact h.lg
  lc:=by rw [upd_ne h.dvc.symm];exact h.lc
  sm:=h.sm.upd_old h.fv }
theorem LdS.setg {g':Nat→Option Nat} (h:LdS K H0 H x wl au av ag ac n wy u v g c):LdS K H0 (upd H ag (.lst (lsO n g'))) x wl au av ag ac n wy u v g' c:=by
 obtain ⟨C,dx,e1,e2⟩:=h.ins
 exact { h with
  ins:=⟨C,dx,e1,by rw [upd_ne (fun z=>by rw [z,h.lg] at e2;cases e2)];exact e2⟩
  lu:=by rw [upd_ne h.dug];exact h.lu
  lv:=by rw [upd_ne h.dvg];exact h.lv
  lg:=upd_same
  lc:=by rw [upd_ne h.dgc.symm];exact h.lc
  sm:=h.sm.upd_old h.fg }
theorem LdS.setc {c':Nat→Option Nat} (h:LdS K H0 H x wl au av ag ac n wy u v g c):LdS K H0 (upd H ac (.lst (lsO n c'))) x wl au av ag ac n wy u v g c':=by
 obtain ⟨C,dx,e1,e2⟩:=h.ins
 exact { h with
  ins:=⟨C,dx,e1,by rw [upd_ne (fun z=>by rw [z,h.lc] at e2;cases e2)];exact e2⟩
  lu:=by rw [upd_ne h.duc];exact h.lu
  lv:=by rw [upd_ne h.dvc];exact h.lv
  lg:=by rw [upd_ne h.dgc];exact h.lg
  lc:=upd_same
  sm:=h.sm.upd_old h.fc }
theorem LdS.other {d:Addr} {o:HO} (h:LdS K H0 H x wl au av ag ac n wy u v g c) (hd:H0 d=none) (nx:d≠x) (n1:d≠au) (n2:d≠av) (n3:d≠ag) (n4:d≠ac):LdS K H0 (upd H d o) x wl au av ag ac n wy u v g c:=by
 obtain ⟨C,dx,e1,e2⟩:=h.ins
 exact { h with
  ins:=⟨C,dx,e1,by rw [upd_ne nx.symm];exact e2⟩
  lu:=by rw [upd_ne n1.symm];exact h.lu
  lv:=by rw [upd_ne n2.symm];exact h.lv
  lg:=by rw [upd_ne n3.symm];exact h.lg
  lc:=by rw [upd_ne n4.symm];exact h.lc
  sm:=h.sm.upd_old hd }
end
noncomputable abbrev Wof (wy:Nat→Nat→List Int):Nat→Nat→Int:=fun t j=>(wy t j).getD 0 0
noncomputable def wyOf (w:List Int) (cs gs:List (List Int)):Nat→Nat→List Int:=fun t j=>wayV w (cs.getD t []) (gs.getD j [])
theorem sqL_but {K:PySem.W.Frag} {H H':Hp} {x a C dx:Addr} {fs:List (Str×V)} {xs:List V} (h:SqL K H a xs) (n:∀ b o,b≠x→H b=some o→H' b=some o) (e:H x=some (.ins C dx fs)):SqL K H' a xs:=by
 refine h.imp (fun q=>?_) id
 rcases q with q|⟨o,q⟩
 ·exact .inl (n _ _ (fun z=>by rw [z,e] at q;cases q) q)
 ·exact .inr ⟨o,n _ _ (fun z=>by rw [z,e] at q;cases q) q⟩
theorem lsN_get {ts:List Nat} {i:Nat} {y:V} (h:(lsN ts)[i]?=some y):∃ t:Nat,ts[i]?=some t∧y=.int (t:Int):=by
 unfold lsN at h
 rw [List.getElem?_map] at h
 cases e:ts[i]? with
 | none=>rw [e] at h;cases h
 | some t=>rw [e] at h;cases h;exact⟨t,rfl,rfl⟩
theorem lsN_len {ts:List Nat}:(lsN ts).length=ts.length:=List.length_map _
theorem LdS.offd {K:PySem.W.Frag} {H0 H:Hp} {x wl au av ag ac d:Addr} {n:Nat} {wy:Nat→Nat→List Int} {u v:Nat→Int} {g c:Nat→Option Nat} {o o':HO} (h:LdS K H0 H x wl au av ag ac n wy u v g c) (hd:H0 d=none) (e:H d=some o) (n1:∀ xs,o≠.lst xs) (n2:∀ C dx fs,o≠.ins C dx fs):LdS K H0 (upd H d o') x wl au av ag ac n wy u v g c:=by
 obtain ⟨C,dx,e1,e2⟩:=h.ins
 exact h.other hd (fun z=>n2 _ _ _ (Option.some.inj (e.symm.trans (z ▸ e2)))) (fun z=>n1 _ (Option.some.inj (e.symm.trans (z ▸ h.lu)))) (fun z=>n1 _ (Option.some.inj (e.symm.trans (z ▸ h.lv)))) (fun z=>n1 _ (Option.some.inj (e.symm.trans (z ▸ h.lg)))) (fun z=>n1 _ (Option.some.inj (e.symm.trans (z ▸ h.lc))))
noncomputable def pq (ts gl:List Nat):List (Nat×Nat):=ts.flatMap fun t=>gl.map fun j=>(t,j)
noncomputable def rw2 (p:Nat×Nat):List Int:=[(p.1:Int),(p.2:Int)]
theorem pq_mem {ts gl:List Nat} {p:Nat×Nat}:p∈pq ts gl↔p.1∈ts∧p.2∈gl:=by
 unfold pq
 rw [List.mem_flatMap]
 constructor
 ·rintro ⟨t,ht,h⟩
  obtain ⟨j,hj,rfl⟩:=List.mem_map.mp h
  exact⟨ht,hj⟩
 ·exact fun h=>⟨p.1,h.1,List.mem_map.mpr ⟨p.2,h.2,rfl⟩⟩
theorem pq_snoc {ts gl:List Nat} {t:Nat}:pq (ts++[t]) gl=pq ts gl++gl.map fun j=>(t,j):=by
 unfold pq
 rw [List.flatMap_append,List.flatMap_cons,List.flatMap_nil,List.append_nil]
theorem pq_len:∀ {ts gl:List Nat},(pq ts gl).length=ts.length*gl.length
 | [],gl=>by unfold pq;rw [List.flatMap_nil,List.length_nil,List.length_nil,Nat.zero_mul]
 | t::ts,gl=>by
  have:=pq_len (ts:=ts) (gl:=gl)
  unfold pq at this ⊢
  rw [List.flatMap_cons,List.length_append,List.length_map,this,List.length_cons,Nat.add_mul,Nat.one_mul,Nat.add_comm]
theorem range_getD {α:Type} (F:Nat→α):∀ (l:List Nat),(List.range l.length).map (fun i=>F (l.getD i 0))=l.map F:=fun l=>by
 refine List.ext_getElem? fun i=>?_
 by_cases h:i<l.length
 ·rw [lsF_get h,List.getElem?_map,List.getD_eq_getElem?_getD,List.getElem?_eq_getElem h];rfl
 ·rw [List.getElem?_eq_none (by rw [lsF_len];lia),List.getElem?_eq_none (by rw [List.length_map];lia)]
theorem TabH.offD {P l:Addr} {lp:Pos} {q:Str} {H:Hp} {ys:List (Key×V)} {o:HO} (t:TabH P lp q H) (e:H l=some (.dK ys)):TabH P lp q (upd H l o):=by
 obtain ⟨ps,h1,h2,h3⟩:=t
 refine⟨ps,by rw [upd_ne (fun z=>by rw [z,e] at h1;cases h1)];exact h1,h2,h3.imp id fun ⟨c,z,y⟩=>⟨c,z,by rw [upd_ne (fun z=>by rw [z,e] at y;cases y)];exact y⟩⟩
theorem TabH.keep2 {P a b:Addr} {lp:Pos} {q:Str} {H H':Hp} {ys zs:List V} (t:TabH P lp q H) (f:∀ x o,x≠a→x≠b→H x=some o→H' x=some o) (ea:H a=some (.lst ys)) (eb:H b=some (.lst zs)):TabH P lp q H':=by
 obtain ⟨ps,h1,h2,h3⟩:=t
 refine⟨ps,f _ _ (fun z=>by rw [z,ea] at h1;cases h1) (fun z=>by rw [z,eb] at h1;cases h1) h1,h2,h3.imp id fun ⟨c,z,y⟩=>⟨c,z,f _ _ (fun z=>by rw [z,ea] at y;cases y) (fun z=>by rw [z,eb] at y;cases y) y⟩⟩
theorem sqT_keep2 {K:PySem.W.Frag} {a b p:Addr} {H H':Hp} {xs ys zs:List V} (h:SqT K H p xs) (f:∀ x o,x≠a→x≠b→H x=some o→H' x=some o) (ea:H a=some (.lst ys)) (eb:H b=some (.lst zs)):SqT K H' p xs:=by
 refine h.imp (fun q=>?_) id
 rcases q with q|⟨o,q⟩
 ·exact .inl (f _ _ (fun z=>by rw [z,ea] at q;cases q) (fun z=>by rw [z,eb] at q;cases q) q)
 ·exact .inr ⟨o,f _ _ (fun z=>by rw [z,ea] at q;cases q) (fun z=>by rw [z,eb] at q;cases q) q⟩
theorem sqT_offD {K:PySem.W.Frag} {d p:Addr} {H:Hp} {o:HO} {xs:List V} {ys:List (Key×V)} (h:SqT K H p xs) (e:H d=some (.dK ys)):SqT K (upd H d o) p xs:=by
 refine h.imp (fun q=>?_) id
 rcases q with q|⟨o,q⟩
 ·exact .inl (by rw [upd_ne (fun z=>by rw [z,e] at q;cases q)];exact q)
 ·exact .inr ⟨o,by rw [upd_ne (fun z=>by rw [z,e] at q;cases q)];exact q⟩
section
variable {K:PySem.W.Frag} {H:Hp} {σ:St} {Q:VK} {ix:List (Option Nat)} {l:Addr} {xs:List V} {rs:List (List Int)}
theorem rd_mapRowLists {te:TE} (fr:St) (F:List Int→List (List Int)) (hpk:pick ix σ=none::fr) (hl:SqL K H l xs) (hr:RowsL K H xs rs) (hn:rs.length≤1000)
  (elt:∀ (a:Addr) (r:List Int) (H':Hp) (Qc:VK),r∈rs→Same H H'→SqT K H' a (r.map V.int)→(∀ p H5 ys,H' p=none→Same H' H5→H5 p=some (.lst ys)→RowsL K H5 ys (F r)→Qc (.ref p) H5)→te (some (.ref a)::fr) H' Qc)
  (hQ:∀ l2 H' zs,H l2=none→Same H H'→H' l2=some (.lst zs)→zs.length=rs.length→(∀ (k:Nat) r,rs[k]?=some r→∃ (p:Addr) (ys:List V),zs[k]?=some (.ref p)∧H' p=some (.lst ys)∧RowsL K H' ys (F r))→Q (.ref l2) H'):CompGoal ix (gName 0) (fun _ H Q=>Q true H) te σ Q (Itl K l) H:=by
 have hlen:=hr.length
 refine comp_gen 1 fr xs.length (fun l i zs H'=>zs.length=i∧i≤xs.length∧∀ (k:Nat) r,k<i→rs[k]?=some r→∃ (p:Addr) (ys:List V),zs[k]?=some (.ref p)∧p≠l∧H' p=some (.lst ys)∧RowsL K H' ys (F r)) hpk (fun l H' _ _ _=>⟨rfl,Nat.zero_le _,fun k r hk=>absurd hk (Nat.not_lt_zero _)⟩) (fun l i ys H' h=>by lia) (fun H' s=>⟨xs,s.seq hl,Nat.le_refl _⟩) (fun i H' hi s=>⟨xs,xs[i],s.seq hl,List.getElem?_eq_getElem hi⟩) (fun l2 i x H' H2 own zs ho hi hl0 s hl' hp hy Qy Qn ky kn=>?_) (fun l2 H' zs a b c d=>hQ l2 H' zs a b c (by lia) fun k r e=>?_)
 ·obtain ⟨o1,rfl⟩:∃ o1,own=[o1]:=by match own,ho with|[o1],_=>exact⟨o1,rfl⟩
  obtain ⟨rfl,e⟩:=hy
  dsimp only [gName]
  rw [if_pos rfl]
  obtain ⟨a,r,rfl,ha,er⟩:=hr.get (e xs (s.seq hl))
  refine elt a r _ _ (List.mem_of_getElem? er) s (s.at ha) fun p H5 ys np s5 mp rp=>ky [some (.ref a)] (.ref p) H5 rfl s5 ?_
  obtain ⟨h1,h2,h3⟩:=hp
  have npl:p≠l2:=fun z=>by rw [z,hl'] at np;cases np
  have hl5:=s5 _ _ hl'
  refine⟨by rw [List.length_append,List.length_singleton,h1],hi,fun k r' hk e'=>?_⟩
  by_cases hki:k<i
  ·obtain ⟨p',ys',f1,f2,f3,f4⟩:=h3 k r' hki e'
   exact⟨p',ys',by rw [List.getElem?_append_left (by lia)];exact f1,f2,by rw [upd_ne f2];exact s5 _ _ f3,(f4.same s5).off hl5⟩
  ·obtain rfl:k=i:=by lia
   rw [er] at e'
   cases e'
   exact⟨p,ys,by rw [List.getElem?_append_right (by lia),h1,Nat.sub_self];rfl,npl,by rw [upd_ne npl];exact mp,rp.off hl5⟩
 ·obtain ⟨hk,_⟩:=List.getElem?_eq_some_iff.mp e
  obtain ⟨p,ys,f1,f2,f3,f4⟩:=d.2.2 k r (by lia) e
  exact⟨p,ys,f1,f3,f4⟩
end
theorem same_made {H:Hp} {x dx C:Addr} (h1:H x=none) (h2:H dx=none):Same H (upd (upd H dx (.own x)) x (.ins C dx [])):=fun b o e=>by
 have n1:b≠x:=fun z=>by rw [z,h1] at e;cases e
 have n2:b≠dx:=fun z=>by rw [z,h2] at e;cases e
 rw [upd_ne n1,upd_ne n2];exact e
theorem Same.new {H H':Hp} (s:Same H H') {a:Addr} (h:H' a=none):H a=none:=by
 match e:H a with
 | none=>rfl
 | some o=>rw [s _ _ e] at h;cases h
theorem wayV_two {w a b:List Int}:∃ x y:Int,wayV w a b=[x,y]:=by
 unfold wayV
 simp only
 split
 ·exact⟨_,_,rfl⟩
 ·exact⟨_,_,rfl⟩
theorem wayV_pos {w a b:List Int} (h:1≤w.getD 0 0):0≤(wayV w a b).getD 0 0:=by
 have h1:=Int.emod_nonneg (dot b w - dot a w) (show w.getD 0 0≠0 by lia)
 have h2:=Int.emod_lt_of_pos (dot b w - dot a w) (show 0<w.getD 0 0 by lia)
 unfold wayV
 simp only
 split
 ·exact h1
 ·show 0≤w.getD 0 0 - (dot b w - dot a w) % w.getD 0 0
  lia
theorem lsO_full {n:Nat} {g:Nat→Option Nat} {go:Nat→Nat} (h:∀ t,t<n→g t=some (go t)):lsO n g=lsN ((List.range n).map go):=by
 unfold lsO lsN
 rw [List.map_map]
 exact lsF_congr fun i hi=>by rw [h i hi];rfl
theorem ways_at {K:PySem.W.Frag} {H:Hp} {wl:Addr} {zs:List V} {w:List Int} {cs gs:List (List Int)} (hz:H wl=some (.lst zs)) (hl:zs.length=cs.length) (he:gs.length=cs.length) (h:∀ (k:Nat) r,cs[k]?=some r→∃ (p:Addr) (ys:List V),zs[k]?=some (.ref p)∧H p=some (.lst ys)∧RowsL K H ys (gs.map (wayV w r))):WaysAt K H wl cs.length (wyOf w cs gs):=by
 refine⟨zs,SqL.of hz,hl,fun t ht=>?_⟩
 obtain ⟨p,ys,e1,e2,e3⟩:=h t _ (List.getElem?_eq_getElem ht)
 have e4:=e3.length
 rw [List.length_map] at e4
 refine⟨p,ys,e1,SqL.of e2,by lia,fun j hj=>?_⟩
 obtain ⟨a,f1,f2⟩:=e3.row (i:=j) (r:=wyOf w cs gs t j) (by
  rw [List.getElem?_map,List.getElem?_eq_getElem (show j<gs.length by lia)]
  unfold wyOf
  rw [List.getD_eq_getElem?_getD,List.getD_eq_getElem?_getD,List.getElem?_eq_getElem ht,List.getElem?_eq_getElem (show j<gs.length by lia)]
  rfl)
 exact⟨a,f1,f2⟩
theorem eqv_lstI (r q:List Int):PyData.eqv (.list (r.map PyData.int)) (.list (q.map PyData.int))=decide (r=q):=by
 show PyData.eqvAll (r.map PyData.int) (q.map PyData.int)=_
 exact eqv_ints r q
theorem shaped_lstI (r:List Int):SeqAt.shaped (.list (r.map PyData.int))=true:=by
 have h:=shaped_row r
 unfold SeqAt.shaped at h ⊢
 simp only [PyData.canLay0,PyData.depth] at h ⊢
 exact h
theorem lsI_ints {n:Nat} {u:Nat→Int}:lsI n u=((List.range n).map u).map V.int:=by unfold lsI;rw [List.map_map];rfl
theorem perm_of_sub:∀ (l m:List Nat),l.Nodup→(∀ x∈l,x∈m)→m.length≤l.length→l.Perm m
 | [],m,_,_,h=>by
  rw [List.length_nil] at h
  rw [List.length_eq_zero_iff.mp (Nat.le_zero.mp h)]
 | x::l,m,hn,hs,h=>by
  have hx:x∈m:=hs x (List.mem_cons_self ..)
  have h1:=perm_of_sub l (m.erase x) (List.nodup_cons.mp hn).2 (fun y hy=>by
   have hy2:y≠x:=fun e=>(List.nodup_cons.mp hn).1 (e ▸ hy)
   exact (List.mem_erase_of_ne hy2).mpr (hs y (List.mem_cons_of_mem _ hy))) (by
   rw [List.length_erase_of_mem hx]
   rw [List.length_cons] at h
   lia)
  exact (h1.cons x).trans (List.perm_cons_erase hx).symm
theorem perm_range {n:Nat} {go:Nat→Nat} (hlt:∀ t,t<n→go t<n) (hinj:∀ t t',t<n→t'<n→go t=go t'→t=t'):((List.range n).map go).Perm (List.range n):=by
 refine perm_of_sub _ _ ?_ (fun x hx=>?_) (by rw [lsF_len,List.length_range];exact Nat.le_refl _)
 ·unfold List.Nodup
  rw [List.pairwise_map]
  refine List.Pairwise.imp_of_mem (fun {a b} ha hb h e=>?_) (List.nodup_range (n:=n))
  exact h (hinj a b (List.mem_range.mp ha) (List.mem_range.mp hb) e)
 ·obtain ⟨t,ht,rfl⟩:=List.mem_map.mp hx
  exact List.mem_range.mpr (hlt t (List.mem_range.mp ht))
theorem sorted_eq:∀ {l m:List Int},l.Perm m→l.Pairwise (·≤·)→m.Pairwise (·≤·)→l=m
 | [],m,h,_,_=>(List.Perm.nil_eq h)
 | x::l,[],h,_,_=>(List.Perm.eq_nil h)
 | x::l,y::m,h,h1,h2=>by
  have g1:=List.pairwise_cons.mp h1
  have g2:=List.pairwise_cons.mp h2
  have e:x=y:=by
   have a:=h.mem_iff.mp (List.mem_cons_self (a:=x) (l:=l))
   have b:=h.mem_iff.mpr (List.mem_cons_self (a:=y) (l:=m))
   rcases List.mem_cons.mp a with a|a
   ·exact a
   rcases List.mem_cons.mp b with b|b
   ·exact b.symm
   have:=g1.1 y b
   have:=g2.1 x a
   lia
  subst e
  rw [sorted_eq (List.Perm.cons_inv h) g1.2 g2.2]
theorem atI_in {α:Type} {xs:List α} {j:Int} (h0:0≤j) (h1:j<xs.length):∃ x,atI xs j=some x∧xs[j.toNat]?=some x:=by
 obtain ⟨k,rfl⟩:=Int.eq_ofNat_of_zero_le h0
 have hk:k<xs.length:=by lia
 exact⟨xs[k],atI_nat (List.getElem?_eq_getElem hk),List.getElem?_eq_getElem hk⟩
theorem kind4 (c:Int):∃ v:Int,atI [V.int 0,V.int 0,V.int 1,V.int 2] (c % 4)=some (.int v):=by
 have h0:=Int.emod_nonneg c (show (4:Int)≠0 by decide)
 have h1:=Int.emod_lt_of_pos c (show (0:Int)<4 by decide)
 generalize c % 4=j at h0 h1
 have:j=0∨j=1∨j=2∨j=3:=by lia
 rcases this with rfl|rfl|rfl|rfl
 ·exact⟨_,rfl⟩
 ·exact⟨_,rfl⟩
 ·exact⟨_,rfl⟩
 ·exact⟨_,rfl⟩
noncomputable def sm (n:Nat) (f:Nat→Int):Int:=((List.range n).map f).sum
theorem sm_succ {n:Nat} {f:Nat→Int}:sm (n+1) f=sm n f+f n:=by
 unfold sm
 rw [List.range_succ,List.map_append,List.sum_append,List.map_singleton,List.sum_singleton]
theorem sm_zero {f:Nat→Int}:sm 0 f=0:=rfl
theorem sm_first {f:Nat→Int}:∀ {n:Nat},sm (n+1) f=f 0+sm n fun i=>f (i+1)
 | 0=>by rw [sm_succ,sm_zero,sm_zero,Int.add_comm]
 | n+1=>by
  rw [sm_succ,sm_first (n:=n),sm_succ (n:=n)]
  lia
theorem sm_add {f g:Nat→Int}:∀ {n:Nat},sm n (fun t=>f t+g t)=sm n f+sm n g
 | 0=>rfl
 | n+1=>by rw [sm_succ,sm_succ,sm_succ,sm_add (n:=n)];lia
theorem sm_le {f g:Nat→Int}:∀ {n:Nat},(∀ t,t<n→f t≤g t)→sm n f≤sm n g
 | 0,_=>Int.le_refl _
 | n+1,h=>by
  rw [sm_succ,sm_succ]
  have h1:=sm_le (n:=n) fun t ht=>h t (by lia)
  have h2:=h n (by lia)
  lia
theorem sm_congr {f g:Nat→Int} {n:Nat} (h:∀ t,t<n→f t=g t):sm n f=sm n g:=by
 unfold sm
 rw [lsF_congr h]
theorem sum_perm:∀ {l m:List Int},l.Perm m→l.sum=m.sum:=fun h=>by
 induction h with
 | nil=>rfl
 | cons x _ ih=>rw [List.sum_cons,List.sum_cons,ih]
 | swap x y l=>rw [List.sum_cons,List.sum_cons,List.sum_cons,List.sum_cons];lia
 | trans _ _ a b=>exact a.trans b
noncomputable def Pm (n:Nat) (p:Nat→Nat):Prop:=(∀ t,t<n→p t<n)∧∀ t t',t<n→t'<n→p t=p t'→t=t'
theorem sm_perm {n:Nat} {p:Nat→Nat} (h:Pm n p) (v:Nat→Int):(sm n fun t=>v (p t))=sm n v:=by
 have:=sum_perm ((perm_range h.1 h.2).map v)
 rw [List.map_map] at this
 exact this
noncomputable def Least (n:Nat) (W:Nat→Nat→Int) (z:Int):Prop:=(∃ p,Pm n p∧z=sm n fun t=>W t (p t))∧∀ p,Pm n p→z≤sm n fun t=>W t (p t)
theorem least_of {n:Nat} {W:Nat→Nat→Int} {u v:Nat→Int} {go:Nat→Nat} (hp:Pm n go) (hf:∀ t j,t<n→j<n→u t+v j≤W t j) (ht:∀ t,t<n→u t+v (go t)=W t (go t)):Least n W (sm n u+sm n v):=by
 have key:∀ p,Pm n p→sm n u+sm n v=sm n fun t=>u t+v (p t):=fun p h=>by rw [sm_add,sm_perm h v]
 refine⟨⟨go,hp,?_⟩,fun p h=>?_⟩
 ·rw [key go hp]
  exact sm_congr ht
 ·rw [key p h]
  exact sm_le fun t ht=>hf t _ ht (h.1 t ht)
theorem Least.uniq {n:Nat} {W:Nat→Nat→Int} {z z':Int} (h:Least n W z) (h':Least n W z'):z=z':=by
 obtain ⟨⟨p,hp,e⟩,hm⟩:=h
 obtain ⟨⟨p',hp',e'⟩,hm'⟩:=h'
 have h1:=hm p' hp'
 have h2:=hm' p hp
 lia
theorem range_getL {α:Type} (F:List Int→α):∀ (l:List (List Int)),(List.range l.length).map (fun i=>F (l.getD i []))=l.map F:=fun l=>by
 refine List.ext_getElem? fun i=>?_
 by_cases h:i<l.length
 ·rw [lsF_get h,List.getElem?_map,List.getD_eq_getElem?_getD,List.getElem?_eq_getElem h];rfl
 ·rw [List.getElem?_eq_none (by rw [lsF_len];lia),List.getElem?_eq_none (by rw [List.length_map];lia)]
theorem num_div {m B d:Int} (h0:0≤m) (h1:m≤B) (hd:d=1∨d=2):0≤m / d∧m / d≤B:=by rcases hd with rfl|rfl <;> lia
theorem cdivB {i j:Int} (h0:0<j) (h1:j<18446744073709551616):CDivB i j:=by
 refine⟨h0,?_⟩
 have h2:j.natAbs<2 ^ 64:=by
  rw [show (2:Nat) ^ 64=18446744073709551616 from rfl]
  lia
 have:=(Nat.log2_lt (show j.natAbs≠0 by lia)).mpr h2
 lia
theorem most4 {c a0 a1 a2 a3:Int} (lo hi:Int) (h0:lo≤a0∧a0≤hi) (h1:lo≤a1∧a1≤hi) (h2:lo≤a2∧a2≤hi) (h3:lo≤a3∧a3≤hi):∃ v:Int,atI [V.int a0,V.int a1,V.int a2,V.int a3] (c % 4)=some (.int v)∧lo≤v∧v≤hi:=by
 have g0:=Int.emod_nonneg c (show (4:Int)≠0 by decide)
 have g1:=Int.emod_lt_of_pos c (show (0:Int)<4 by decide)
 generalize c % 4=j at g0 g1
 have:j=0∨j=1∨j=2∨j=3:=by lia
 rcases this with rfl|rfl|rfl|rfl
 ·exact⟨_,rfl,h0⟩
 ·exact⟨_,rfl,h1⟩
 ·exact⟨_,rfl,h2⟩
 ·exact⟨_,rfl,h3⟩
theorem Pm.surj {n:Nat} {p:Nat→Nat} (h:Pm n p) {j:Nat} (hj:j<n):∃ t,t<n∧p t=j:=by
 have:=(perm_range h.1 h.2).mem_iff.mpr (List.mem_range.mpr hj)
 obtain ⟨t,ht,e⟩:=List.mem_map.mp this
 exact⟨t,List.mem_range.mp ht,e⟩
theorem Pm.inv {n:Nat} {p:Nat→Nat} (h:Pm n p):∃ q,Pm n q∧(∀ t,t<n→p (q t)=t)∧∀ t,t<n→q (p t)=t:=by
 have hq:∀ j,∃ t,j<n→t<n∧p t=j:=fun j=>by
  by_cases hj:j<n
  ·obtain ⟨t,a,b⟩:=h.surj hj
   exact⟨t,fun _=>⟨a,b⟩⟩
  ·exact⟨0,fun z=>absurd z hj⟩
 refine⟨fun j=>(hq j).choose,⟨fun t ht=>((hq t).choose_spec ht).1,fun t t' ht ht' e=>?_⟩,fun t ht=>((hq t).choose_spec ht).2,fun t ht=>?_⟩
 ·have a:=((hq t).choose_spec ht).2
  have b:=((hq t').choose_spec ht').2
  rw [← a,← b]
  exact congrArg p e
 ·have a:=(hq (p t)).choose_spec (h.1 t ht)
  exact h.2 _ _ a.1 ht a.2
theorem Pm.comp {n:Nat} {p q:Nat→Nat} (h:Pm n p) (h':Pm n q):Pm n fun t=>q (p t) :=
 ⟨fun t ht=>h'.1 _ (h.1 t ht),fun t t' ht ht' e=>h.2 t t' ht ht' (h'.2 _ _ (h.1 t ht) (h.1 t' ht') e)⟩
theorem Least.symm {n:Nat} {W V:Nat→Nat→Int} {z:Int} (h:∀ t j,t<n→j<n→V j t=W t j) (hz:Least n W z):Least n V z:=by
 have key:∀ p,Pm n p→∃ q,Pm n q∧(sm n fun j=>V j (p j))=sm n fun t=>W t (q t):=fun p hp=>by
  obtain ⟨q,hq,h1,h2⟩:=hp.inv
  refine⟨q,hq,?_⟩
  rw [← sm_perm hq fun j=>V j (p j)]
  exact sm_congr fun t ht=>by
   show V (q t) (p (q t))=W t (q t)
   rw [h1 t ht]
   exact h t (q t) ht (hq.1 t ht)
 have key2:∀ q,Pm n q→∃ p,Pm n p∧(sm n fun t=>W t (q t))=sm n fun j=>V j (p j):=fun q hq=>by
  obtain ⟨p,hp,h1,h2⟩:=hq.inv
  refine⟨p,hp,?_⟩
  rw [← sm_perm hp fun t=>W t (q t)]
  exact sm_congr fun j hj=>by
   show W (p j) (q (p j))=V j (p j)
   rw [h1 j hj]
   exact (h (p j) j (hp.1 j hj) hj).symm
 obtain ⟨⟨p,hp,e⟩,hm⟩:=hz
 obtain ⟨q,hq,e2⟩:=key2 p hp
 exact⟨⟨q,hq,by rw [e,e2]⟩,fun p' hp'=>by
  obtain ⟨q',hq',e'⟩:=key p' hp'
  rw [e']
  exact hm q' hq'⟩
theorem Least.relabel {n:Nat} {W V:Nat→Nat→Int} {a b:Nat→Nat} {z:Int} (ha:Pm n a) (hb:Pm n b) (h:∀ t j,t<n→j<n→V t j=W (a t) (b j)) (hz:Least n W z):Least n V z:=by
 obtain ⟨a',ha',a1,a2⟩:=ha.inv
 obtain ⟨b',hb',b1,b2⟩:=hb.inv
 have key:∀ p,Pm n p→(sm n fun t=>V t (p t))=sm n fun s=>W s (b (p (a' s))):=fun p hp=>by
  rw [← sm_perm ha' fun t=>V t (p t)]
  exact sm_congr fun s hs=>by
   show V (a' s) (p (a' s))=_
   rw [h _ _ (ha'.1 s hs) (hp.1 _ (ha'.1 s hs)),a1 s hs]
 obtain ⟨⟨p,hp,e⟩,hm⟩:=hz
 refine⟨⟨fun t=>b' (p (a t)),(ha.comp hp).comp hb',?_⟩,fun p' hp'=>?_⟩
 ·rw [e,key _ ((ha.comp hp).comp hb')]
  exact sm_congr fun s hs=>by
   show W s (p s)=W s (b (b' (p (a (a' s)))))
   rw [a1 s hs,b1 _ (hp.1 s hs)]
 ·rw [key p' hp']
  exact hm _ ((ha'.comp hp').comp hb)
theorem Least.tri {n:Nat} {U W V:Nat→Nat→Int} {z1 z2 z3:Int} (h:∀ t j k,t<n→j<n→k<n→U t k≤W t j+V j k) (h1:Least n W z1) (h2:Least n V z2) (h3:Least n U z3):z3≤z1+z2:=by
 obtain ⟨⟨p,hp,rfl⟩,_⟩:=h1
 obtain ⟨⟨q,hq,rfl⟩,_⟩:=h2
 refine Int.le_trans (h3.2 _ (hp.comp hq)) ?_
 rw [← sm_perm hp fun j=>V j (q j),← sm_add]
 exact sm_le fun t ht=>h t (p t) (q (p t)) ht (hp.1 t ht) (hq.1 _ (hp.1 t ht))
theorem sm_pos {f:Nat→Int}:∀ {n:Nat},(∀ t,t<n→0≤f t)→0≤sm n f∧(sm n f=0→∀ t,t<n→f t=0)
 | 0,_=>⟨Int.le_refl _,fun _ t ht=>absurd ht (Nat.not_lt_zero _)⟩
 | n+1,h=>by
  obtain ⟨h1,h2⟩:=sm_pos (n:=n) fun t ht=>h t (by lia)
  have h3:=h n (by lia)
  rw [sm_succ]
  refine⟨by lia,fun e t ht=>?_⟩
  by_cases c:t=n
  ·subst c;lia
  ·exact h2 (by lia) t (by lia)
theorem sm_nil {f:Nat→Int}:∀ {n:Nat},(∀ t,t<n→f t=0)→sm n f=0
 | 0,_=>rfl
 | n+1,h=>by rw [sm_succ,sm_nil (n:=n) fun t ht=>h t (by lia),h n (by lia)];rfl
theorem Least.zero {n:Nat} {W:Nat→Nat→Int} {z:Int} (hW:∀ t j,t<n→j<n→0≤W t j) (h:Least n W z):0≤z∧(z=0↔∃ p,Pm n p∧∀ t,t<n→W t (p t)=0):=by
 obtain ⟨⟨p,hp,e⟩,hm⟩:=h
 have hpos:=sm_pos (n:=n) (f:=fun t=>W t (p t)) fun t ht=>hW t _ ht (hp.1 t ht)
 refine⟨by rw [e];exact hpos.1,fun z0=>⟨p,hp,hpos.2 (by rw [← e,z0])⟩,fun ⟨q,hq,h0⟩=>?_⟩
 have:=hm q hq
 rw [sm_nil h0] at this
 have h1:0≤z:=by rw [e];exact hpos.1
 lia
theorem perm_places {l m:List Int} (h:l.Perm m):∃ p,Pm l.length p∧∀ t,t<l.length→l[t]?=m[p t]?:=by
 induction h with
 | nil=>exact⟨id,⟨fun t h=>h,fun _ _ _ _ e=>e⟩,fun _ _=>rfl⟩
 | cons x _ ih =>
  obtain ⟨p,hp,e⟩:=ih
  refine⟨fun t=>if t=0 then 0 else p (t - 1)+1,⟨fun t ht=>?_,fun t t' ht ht' ee=>?_⟩,fun t ht=>?_⟩
  ·rw [List.length_cons] at ht ⊢
   by_cases c:t=0
   ·simp only [if_pos c];lia
   ·simp only [if_neg c];have:=hp.1 (t - 1) (by lia);lia
  ·rw [List.length_cons] at ht ht'
   by_cases c:t=0 <;> by_cases c':t'=0
   ·lia
   ·simp only [if_pos c,if_neg c'] at ee;lia
   ·simp only [if_neg c,if_pos c'] at ee;lia
   ·simp only [if_neg c,if_neg c'] at ee
    have:=hp.2 (t - 1) (t' - 1) (by lia) (by lia) (by lia)
    lia
  ·rw [List.length_cons] at ht
   by_cases c:t=0
   ·subst c;rfl
   ·simp only [if_neg c]
    obtain ⟨s,rfl⟩:∃ s,t=s+1:=⟨t - 1,by lia⟩
    rw [List.getElem?_cons_succ,List.getElem?_cons_succ,Nat.add_sub_cancel]
    exact e s (by lia)
 | swap x y l =>
  refine⟨fun t=>if t=0 then 1 else if t=1 then 0 else t,⟨fun t ht=>?_,fun t t' ht ht' ee=>?_⟩,fun t ht=>?_⟩
  ·simp only [List.length_cons] at ht ⊢
   split
   ·lia
   ·split <;> lia
  ·revert ee
   simp only
   split <;> split <;> (try split) <;> (try split) <;> lia
  ·match t with
   | 0=>rfl
   | 1=>rfl
   | t+2 =>
    simp only [if_neg (show t+2≠0 by lia),if_neg (show t+2≠1 by lia)]
    rfl
 | trans h1 _ ih1 ih2 =>
  obtain ⟨p,hp,e⟩:=ih1
  obtain ⟨q,hq,f⟩:=ih2
  rw [← h1.length_eq] at hq f
  exact⟨fun t=>q (p t),hp.comp hq,fun t ht=>by rw [e t ht];exact f _ (hp.1 t ht)⟩
noncomputable def cd (o d:Int):Int:=if d % o<o - d % o then d % o else o - d % o
theorem emod_neg1 {o d:Int} (ho:0<o):(-d) % o=if d % o=0 then 0 else o - d % o:=by
 have h1:=Int.emod_nonneg d (show o≠0 by lia)
 have h2:=Int.emod_lt_of_pos d ho
 have h3:=Int.emod_add_mul_ediv d o
 generalize d % o=r at h1 h2 h3
 generalize d / o=q at h3
 subst h3
 by_cases c:r=0
 ·rw [if_pos c,c,show -(0+o*q)=0+o*(-q) by rw [Int.mul_neg];lia,Int.add_mul_emod_self_left]
  rfl
 ·rw [if_neg c,show -(r+o*q)=(o - r)+o*(-q - 1) by rw [Int.mul_sub,Int.mul_neg];lia,Int.add_mul_emod_self_left]
  exact Int.emod_eq_of_lt (by lia) (by lia)
theorem emod_add1 {o d e:Int} (ho:0<o):(d+e) % o=if d % o+e % o<o then d % o+e % o else d % o+e % o - o:=by
 have h1:=Int.emod_nonneg d (show o≠0 by lia)
 have h2:=Int.emod_lt_of_pos d ho
 have g1:=Int.emod_nonneg e (show o≠0 by lia)
 have g2:=Int.emod_lt_of_pos e ho
 rw [Int.add_emod]
 generalize d % o=r at h1 h2
 generalize e % o=s at g1 g2
 by_cases c:r+s<o
 ·rw [if_pos c]
  exact Int.emod_eq_of_lt (by lia) c
 ·rw [if_neg c,show r+s=(r+s - o)+o*1 by lia,Int.add_mul_emod_self_left,show r+s - o+o*1 - o=r+s - o by lia]
  exact Int.emod_eq_of_lt (by lia) (by lia)
theorem cd_neg {o d:Int} (ho:0<o):cd o (-d)=cd o d:=by
 have h1:=Int.emod_nonneg d (show o≠0 by lia)
 have h2:=Int.emod_lt_of_pos d ho
 unfold cd
 rw [emod_neg1 ho]
 generalize d % o=r at h1 h2
 split <;> split <;> split <;> lia
theorem cd_pos {o d:Int} (ho:0<o):0≤cd o d∧(cd o d=0↔d % o=0):=by
 have h1:=Int.emod_nonneg d (show o≠0 by lia)
 have h2:=Int.emod_lt_of_pos d ho
 unfold cd
 generalize d % o=r at h1 h2
 split
 ·exact⟨h1,Iff.rfl⟩
 ·exact⟨by lia,by lia⟩
theorem cd_tri {o d e:Int} (ho:0<o):cd o (d+e)≤cd o d+cd o e:=by
 have h1:=Int.emod_nonneg d (show o≠0 by lia)
 have h2:=Int.emod_lt_of_pos d ho
 have g1:=Int.emod_nonneg e (show o≠0 by lia)
 have g2:=Int.emod_lt_of_pos e ho
 unfold cd
 rw [emod_add1 ho]
 generalize d % o=r at h1 h2
 generalize e % o=s at g1 g2
 split <;> split <;> split <;> split <;> lia
theorem emod_same {o x y:Int} (ho:0<o):(y - x) % o=0↔x % o=y % o:=by
 constructor
 ·intro h
  have:=emod_add1 (o:=o) (d:=y - x) (e:=x) ho
  rw [h,Int.sub_add_cancel,Int.zero_add,if_pos (Int.emod_lt_of_pos x ho)] at this
  exact this.symm
 ·intro h
  rw [Int.sub_emod,h,Int.sub_self,Int.zero_emod]
theorem W_cd {w:List Int} {cs gs:List (List Int)} {t j:Nat}:Wof (wyOf w cs gs) t j=cd (w.getD 0 0) (dot (gs.getD j []) w - dot (cs.getD t []) w):=by
 unfold Wof wyOf wayV cd
 simp only
 split <;> rfl
theorem perm_iff {l m:List Int} (he:m.length=l.length):l.Perm m↔∃ p,Pm l.length p∧∀ t,t<l.length→l[t]?=m[p t]?:=by
 refine⟨perm_places,fun ⟨p,hp,h⟩=>?_⟩
 have h1:∀ (q:List Int),(List.range q.length).map (fun t=>q.getD t 0)=q:=fun q=>by
  refine List.ext_getElem (by rw [List.length_map,List.length_range]) fun i a b=>?_
  rw [List.getElem_map,List.getElem_range,List.getD_eq_getElem?_getD,List.getElem?_eq_getElem b]
  rfl
 have e:l=((List.range l.length).map p).map (fun t=>m.getD t 0):=by
  conv=>lhs;rw [← h1 l]
  rw [List.map_map]
  refine List.map_congr_left fun t ht=>?_
  show l.getD t 0=m.getD (p t) 0
  rw [List.getD_eq_getElem?_getD,List.getD_eq_getElem?_getD,h t (List.mem_range.mp ht)]
 have e2:m=(List.range l.length).map (fun t=>m.getD t 0):=by
  rw [← he]
  exact (h1 m).symm
 rw [e]
 conv=>rhs;rw [e2]
 exact (perm_range hp.1 hp.2).map _
theorem map_at {f:List Int→Int} {cs:List (List Int)} {t:Nat} (h:t<cs.length):(cs.map f)[t]?=some (f (cs.getD t [])):=by
 rw [List.getElem?_map,List.getD_eq_getElem?_getD,List.getElem?_eq_getElem h]
 rfl
theorem zero_same {w:List Int} {cs gs:List (List Int)} {z:Int} (ho:1≤w.getD 0 0) (he:gs.length=cs.length) (hz:Least cs.length (Wof (wyOf w cs gs)) z):0≤z∧(z=0↔(cs.map fun r=>dot r w % w.getD 0 0).Perm (gs.map fun r=>dot r w % w.getD 0 0)):=by
 have ho':0<w.getD 0 0:=by lia
 obtain ⟨h1,h2⟩:=hz.zero fun t j _ _=>by rw [W_cd];exact (cd_pos ho').1
 refine⟨h1,?_⟩
 rw [h2,perm_iff (by rw [List.length_map,List.length_map,he])]
 have key:∀ (p:Nat→Nat) (t:Nat),t<cs.length→p t<cs.length→(Wof (wyOf w cs gs) t (p t)=0↔(cs.map fun r=>dot r w % w.getD 0 0)[t]?=(gs.map fun r=>dot r w % w.getD 0 0)[p t]?):=fun p t ht hp=>by
  rw [W_cd,(cd_pos ho').2,emod_same ho',map_at ht,map_at (by lia)]
  exact⟨fun e=>congrArg some e,fun e=>Option.some.inj e⟩
 rw [List.length_map]
 constructor
 ·rintro ⟨p,hp,h⟩
  exact⟨p,hp,fun t ht=>(key p t ht (hp.1 t ht)).mp (h t ht)⟩
 ·rintro ⟨p,hp,h⟩
  exact⟨p,hp,fun t ht=>(key p t ht (hp.1 t ht)).mpr (h t ht)⟩
theorem back_same {w:List Int} {cs gs:List (List Int)} {z z2:Int} (ho:1≤w.getD 0 0) (he:gs.length=cs.length) (hz:Least cs.length (Wof (wyOf w cs gs)) z) (h2:Least gs.length (Wof (wyOf w gs cs)) z2):z2=z:=by
 rw [he] at h2
 refine h2.uniq (hz.symm fun t j _ _=>?_)
 rw [W_cd,W_cd,← cd_neg (by lia),Int.neg_sub]
theorem three_way {w:List Int} {cs gs ds:List (List Int)} {z z3 z4:Int} (ho:1≤w.getD 0 0) (he:gs.length=cs.length) (hz:Least cs.length (Wof (wyOf w cs gs)) z) (h3:Least cs.length (Wof (wyOf w cs ds)) z3) (h4:Least gs.length (Wof (wyOf w gs ds)) z4):z3≤z+z4:=by
 rw [he] at h4
 refine Least.tri (fun t j k _ _ _=>?_) hz h4 h3
 rw [W_cd,W_cd,W_cd]
 have:=cd_tri (o:=w.getD 0 0) (d:=dot (gs.getD j []) w - dot (cs.getD t []) w) (e:=dot (ds.getD k []) w - dot (gs.getD j []) w) (by lia)
 rwa [show dot (gs.getD j []) w - dot (cs.getD t []) w+(dot (ds.getD k []) w - dot (gs.getD j []) w)=dot (ds.getD k []) w - dot (cs.getD t []) w by lia] at this
theorem rot_at {cs:List (List Int)} {k t:Nat} (hk:k<cs.length) (ht:t<cs.length):(cs.drop k++cs.take k).getD t []=cs.getD (if t+k<cs.length then t+k else t+k - cs.length) []:=by
 rw [List.getD_eq_getElem?_getD,List.getD_eq_getElem?_getD]
 by_cases c:t+k<cs.length
 ·rw [if_pos c,List.getElem?_append_left (by rw [List.length_drop];lia),List.getElem?_drop,Nat.add_comm]
 ·rw [if_neg c,List.getElem?_append_right (by rw [List.length_drop];lia),List.length_drop,List.getElem?_take_of_lt (by lia)]
  congr 2
  lia
theorem rev_at {gs:List (List Int)} {j:Nat} (hj:j<gs.length):gs.reverse.getD j []=gs.getD (gs.length - 1 - j) []:=by
 rw [List.getD_eq_getElem?_getD,List.getD_eq_getElem?_getD,List.getElem?_reverse hj]
theorem turned_same {w:List Int} {cs gs:List (List Int)} {z z2:Int} {k:Nat} (hk:k<cs.length) (he:gs.length=cs.length) (hz:Least cs.length (Wof (wyOf w cs gs)) z) (h2:Least (cs.drop k++cs.take k).length (Wof (wyOf w (cs.drop k++cs.take k) gs.reverse)) z2):z2=z:=by
 rw [show (cs.drop k++cs.take k).length=cs.length by rw [List.length_append,List.length_drop,List.length_take];lia] at h2
 refine h2.uniq (hz.relabel (a:=fun t=>if t+k<cs.length then t+k else t+k - cs.length) (b:=fun j=>cs.length - 1 - j) ⟨fun t ht=>?_,fun t t' ht ht' e=>?_⟩ ⟨fun t ht=>by show cs.length - 1 - t<cs.length;lia,fun t t' ht ht' e=>?_⟩ fun t j ht hj=>?_)
 ·show (if t+k<cs.length then t+k else t+k - cs.length)<cs.length
  split <;> lia
 ·have e':(if t+k<cs.length then t+k else t+k - cs.length)=(if t'+k<cs.length then t'+k else t'+k - cs.length):=e
  split at e' <;> split at e' <;> lia
 ·have e':cs.length - 1 - t=cs.length - 1 - t':=e
  lia
 ·rw [W_cd,W_cd,rot_at hk ht,rev_at (by lia),he]
theorem dot_plus {r q w:List Int} (hr:r.length=5) (hq:q.length=5) (hw:w.length=5):dot (List.zipWith (·+·) r q) w=dot r w+dot q w:=by
 match r,q,w,hr,hq,hw with
 | [a0,a1,a2,a3,a4],[b0,b1,b2,b3,b4],[c0,c1,c2,c3,c4],_,_,_ =>
  simp only [dot,List.zipWith_cons_cons,List.zipWith_nil_left,List.sum_cons,List.sum_nil,Int.add_mul]
  lia
theorem moved_same {w q:List Int} {cs gs:List (List Int)} {z z2:Int} (lw:w.length=5) (lq:q.length=5) (lc:∀ r∈cs,r.length=5) (lg:∀ r∈gs,r.length=5) (he:gs.length=cs.length) (hz:Least cs.length (Wof (wyOf w cs gs)) z) (h2:Least (cs.map fun r=>List.zipWith (·+·) r q).length (Wof (wyOf w (cs.map fun r=>List.zipWith (·+·) r q) (gs.map fun r=>List.zipWith (·+·) r q))) z2):z2=z:=by
 rw [List.length_map] at h2
 refine h2.uniq (hz.relabel (a:=id) (b:=id) ⟨fun t ht=>ht,fun _ _ _ _ e=>e⟩ ⟨fun t ht=>ht,fun _ _ _ _ e=>e⟩ fun t j ht hj=>?_)
 have h1:∀ (l:List (List Int)) (i:Nat),i<l.length→(∀ r∈l,r.length=5)→dot ((l.map fun r=>List.zipWith (·+·) r q).getD i []) w=dot (l.getD i []) w+dot q w:=fun l i hi hl=>by
  rw [List.getD_eq_getElem?_getD,List.getElem?_map,List.getD_eq_getElem?_getD,List.getElem?_eq_getElem hi]
  exact dot_plus (hl _ (List.getElem_mem hi)) lq lw
 rw [W_cd,W_cd,h1 cs t ht lc,h1 gs j (by lia) lg]
 congr 1
 show _=dot (gs.getD j []) w - dot (cs.getD t []) w
 lia
theorem BoardAt.keep {K:PySem.W.Frag} {H H':Hp} {b:Addr} {w:List Int} (h:BoardAt K H b w) (t:TabL K H) (s:SmL K H H'):BoardAt K H' b w:=by
 obtain ⟨C,dx,l,kk,h1,h2,h3,h4,h5⟩:=h
 refine⟨C,dx,l,kk,h1,s _ _ (fun z=>?_) h2,s.lst t h3,h4.sameT s t,h5⟩
 obtain ⟨ps,e,_⟩:=t
 rw [z,e] at h2
 cases h2
theorem rows_rev {K:PySem.W.Frag} {H:Hp}:∀ {xs:List V} {rs:List (List Int)},RowsL K H xs rs→RowsL K H xs.reverse rs.reverse
 | _,_,.nil=>.nil
 | _,_,.cons h t=>by
  rw [List.reverse_cons,List.reverse_cons]
  exact (rows_rev t).append (.cons h .nil)
structure Stg (K:PySem.W.Frag) (H:Hp) (a pw b lc ld lt:Addr) (ns w:List Int) (xs ys vs:List V) (cs gs ds:List (List Int)):Prop where
 hS:SqL K H a (ns.map V.int)
 hw:SqT K H pw (w.map V.int)
 hb:BoardAt K H b w
 hT:TabL K H
 m1:H lc=some (.lst xs)
 r1:RowsL K H xs cs
 m2:H ld=some (.lst ys)
 r2:RowsL K H ys gs
 m3:H lt=some (.lst vs)
 r3:RowsL K H vs ds
theorem Stg.same {K:PySem.W.Frag} {H H':Hp} {a pw b lc ld lt:Addr} {ns w:List Int} {xs ys vs:List V} {cs gs ds:List (List Int)} (h:Stg K H a pw b lc ld lt ns w xs ys vs cs gs ds) (s:Same H H'):Stg K H' a pw b lc ld lt ns w xs ys vs cs gs ds :=
 ⟨s.seq h.hS,s.at h.hw,h.hb.same s,h.hT.same s,s _ _ h.m1,h.r1.same s,s _ _ h.m2,h.r2.same s,s _ _ h.m3,h.r3.same s⟩
theorem Stg.keep {K:PySem.W.Frag} {H H':Hp} {a pw b lc ld lt:Addr} {ns w:List Int} {xs ys vs:List V} {cs gs ds:List (List Int)} (h:Stg K H a pw b lc ld lt ns w xs ys vs cs gs ds) (s:SmL K H H') (t:TabL K H'):Stg K H' a pw b lc ld lt ns w xs ys vs cs gs ds :=
 ⟨s.seq h.hT h.hS,s.at h.hT h.hw,h.hb.keep h.hT s,t,s.lst h.hT h.m1,h.r1.sameT s h.hT,s.lst h.hT h.m2,h.r2.sameT s h.hT,s.lst h.hT h.m3,h.r3.sameT s h.hT⟩
structure Adr where
 a_Board:Addr
 a_KeyTuning:Addr
 a_Leading:Addr
 f_KeyTuning_init:Addr
 f_Board_init:Addr
 f_Board_sound:Addr
 f_Leading_init:Addr
 f_Leading_room:Addr
 f_Leading_nearest:Addr
 f_Leading_shift:Addr
 f_Leading_turn:Addr
 f_Leading_lead:Addr
 t_MOST_KEYS:Tok
 t_MOST_TONES:Tok
 c_lam:Addr
structure Txt (K:PySem.W.Frag) (mg:Str→Option Value) (G:Adr):Prop where
 b_abs:mg "abs"=none
 b_all:mg "all"=none
 b_bool:mg "bool"=none
 b_int:mg "int"=none
 b_isinstance:mg "isinstance"=none
 b_len:mg "len"=none
 b_list:mg "list"=none
 b_max:mg "max"=none
 b_min:mg "min"=none
 b_range:mg "range"=none
 b_reversed:mg "reversed"=none
 b_sorted:mg "sorted"=none
 b_sum:mg "sum"=none
 b_tuple:mg "tuple"=none
 b_zip:mg "zip"=none
 g_MOST_KEYS:mg "MOST_KEYS"=some (.int 6 G.t_MOST_KEYS)
 g_MOST_TONES:mg "MOST_TONES"=some (.int 6 G.t_MOST_TONES)
 g_Board:mg "Board"=some (.ref G.a_Board)
 w_Board:PySem.W.nsIn K mainGlobals "Board"=some (some (.ref G.a_Board))
 c_Board:Cls K G.a_Board
 k_Board:Mk K G.a_Board G.f_Board_init
 m_Board_sound:Meth K G.a_Board "sound" G.f_Board_sound
 n_Board_own_keys:NoAttr K G.a_Board "own_keys"
 n_Board_octave:NoAttr K G.a_Board "octave"
 g_KeyTuning:mg "KeyTuning"=some (.ref G.a_KeyTuning)
 w_KeyTuning:PySem.W.nsIn K mainGlobals "KeyTuning"=some (some (.ref G.a_KeyTuning))
 j_KeyTuning_init:ClsM K G.a_KeyTuning "__init__" G.f_KeyTuning_init
 g_Leading:mg "Leading"=some (.ref G.a_Leading)
 w_Leading:PySem.W.nsIn K mainGlobals "Leading"=some (some (.ref G.a_Leading))
 c_Leading:Cls K G.a_Leading
 k_Leading:Mk K G.a_Leading G.f_Leading_init
 m_Leading_room:Meth K G.a_Leading "room" G.f_Leading_room
 m_Leading_nearest:Meth K G.a_Leading "nearest" G.f_Leading_nearest
 m_Leading_shift:Meth K G.a_Leading "shift" G.f_Leading_shift
 m_Leading_turn:Meth K G.a_Leading "turn" G.f_Leading_turn
 m_Leading_lead:Meth K G.a_Leading "lead" G.f_Leading_lead
 n_Leading_ways:NoAttr K G.a_Leading "ways"
 n_Leading_tone_prices:NoAttr K G.a_Leading "tone_prices"
 n_Leading_goal_prices:NoAttr K G.a_Leading "goal_prices"
 n_Leading_goals:NoAttr K G.a_Leading "goals"
 n_Leading_comers:NoAttr K G.a_Leading "comers"
noncomputable def sp_way (K:PySem.W.Frag):Sp:=fun vs H Q _=>∃ (b p q:Addr) (w ra rb:List Int),vs=[.ref b,.ref p,.ref q]∧BoardAt K H b w∧SqT K H p (ra.map V.int)∧SqT K H q (rb.map V.int)∧ra.length=5∧rb.length=5∧Few 100 ra∧Few 100 rb∧∀ p H',Same H H'→SqT K H' p ((wayV w ra rb).map V.int)→Q (.ref p) H'
noncomputable def sp_ways_from (K:PySem.W.Frag):Sp:=fun vs H Q _=>∃ (b p l:Addr) (w ra:List Int) (xs:List V) (gs:List (List Int)),vs=[.ref b,.ref p,.ref l]∧(BoardAt K H b w)∧(SqT K H p (ra.map V.int))∧(SqL K H l xs)∧(RowsL K H xs gs)∧(ra.length=5)∧(Few 100 ra)∧(gs.length≤6)∧(∀ r∈gs,r.length=5∧Few 100 r)∧∀ (l:Addr) (H':Hp) (ys:List V),H l=none→Same H H'→H' l=some (.lst ys)→RowsL K H' ys (gs.map (wayV w ra))→Q (.ref l) H'
noncomputable def sp_led (K:PySem.W.Frag):Sp:=fun vs H Q _=>∃ (b l m:Addr) (w:List Int) (xs ys:List V) (cs gs:List (List Int)),vs=[.ref b,.ref l,.ref m]∧(BoardAt K H b w)∧(TabL K H)∧(SqL K H l xs)∧(RowsL K H xs cs)∧(SqL K H m ys)∧(RowsL K H ys gs)∧(1≤cs.length)∧(cs.length≤6)∧(gs.length=cs.length)∧(∀ r∈cs,r.length=5∧Few 100 r)∧(∀ r∈gs,r.length=5∧Few 100 r)∧∀ (p ag as au av:Addr) (H':Hp) (go:Nat→Nat) (u v:Nat→Int),SmL K H H'→TabL K H'→SqT K H' p [.ref ag,.ref as,.ref au,.ref av]→H' ag=some (.lst (lsN ((List.range cs.length).map go)))→H' as=some (.lst (lsI cs.length fun t=>(wyOf w cs gs t (go t)).getD 1 0))→H' au=some (.lst (lsI cs.length u))→H' av=some (.lst (lsI cs.length v))→(∀ t,t<cs.length→go t<cs.length)→(∀ t t',t<cs.length→t'<cs.length→go t=go t'→t=t')→(∀ t j,t<cs.length→j<cs.length→u t+v j≤Wof (wyOf w cs gs) t j)→(∀ t,t<cs.length→u t+v (go t)=Wof (wyOf w cs gs) t (go t))→Q (.ref p) H'
noncomputable def sp_least_steps (K:PySem.W.Frag):Sp:=fun vs H Q _=>∃ (b l m:Addr) (w:List Int) (xs ys:List V) (cs gs:List (List Int)),vs=[.ref b,.ref l,.ref m]∧(BoardAt K H b w)∧(TabL K H)∧(SqL K H l xs)∧(RowsL K H xs cs)∧(SqL K H m ys)∧(RowsL K H ys gs)∧(1≤cs.length)∧(cs.length≤6)∧(gs.length=cs.length)∧(∀ r∈cs,r.length=5∧Few 100 r)∧(∀ r∈gs,r.length=5∧Few 100 r)∧∀ (H':Hp) (z:Int),SmL K H H'→TabL K H'→Least cs.length (Wof (wyOf w cs gs)) z→Q (.int z) H'
noncomputable def sp_heard (K:PySem.W.Frag):Sp:=fun vs H Q _=>∃ (w r:Addr) (ws rs:List Int),vs=[.ref w,.ref r]∧SqT K H w (ws.map V.int)∧SqT K H r (rs.map V.int)∧rs.length=ws.length∧rs.length≤1000∧(∀ i,i<rs.length→CMulB (rs.getD i 0) (ws.getD i 0))∧∀ H',Same H H'→Q (.int (dot rs ws)) H'
noncomputable def sp_value (K:PySem.W.Frag):Sp:=fun vs H Q _=>∃ (kk w r:Addr) (m:Int) (ws rs:List Int),vs=[.ref kk,.ref r]∧SqT K H kk [.ref w,.int m]∧SqT K H w (ws.map V.int)∧SqT K H r (rs.map V.int)∧rs.length=ws.length∧rs.length≤1000∧(∀ i,i<rs.length→CMulB (rs.getD i 0) (ws.getD i 0))∧0≤m∧∀ H',Same H H'→Q (.int (val ws m rs)) H'
noncomputable def sp_checked_keys (K:PySem.W.Frag):Sp:=fun vs H Q _=>∃ (l:Addr) (ys:List V) (ks:List (List Int×Int)),vs=[.ref l]∧SqL K H l ys∧KeysL K H ys ks∧ks.length≤6∧(∀ k∈ks,GoodK k)∧Q (.ref l) H
noncomputable def sp_values (K:PySem.W.Frag):Sp:=fun vs H Q _=>∃ (l r:Addr) (ys:List V) (ks:List (List Int×Int)) (rs:List Int),vs=[.ref l,.ref r]∧SqL K H l ys∧KeysL K H ys ks∧ks.length≤6∧(∀ k∈ks,GoodK k)∧SqT K H r (rs.map V.int)∧rs.length=5∧Few 100 rs∧∀ p H',Same H H'→H' p=some (.tup ((vals ks rs).map V.int))→Q (.ref p) H'
noncomputable def sp_law_mixed (K:PySem.W.Frag):Sp:=fun vs H Q E=>∃ (a:Addr) (ns:List Int) (j:Int),vs=[.ref a,.int j]∧SqL K H a (ns.map V.int)∧(0≤j∧j≤1000)∧∀ n:Int,0≤n∧n<2147483629→Q (.int n) H
noncomputable def sp_law_number (K:PySem.W.Frag):Sp:=fun vs H Q E=>∃ (a:Addr) (ns:List Int) (j:Int),vs=[.ref a,.int j]∧SqL K H a (ns.map V.int)∧(0≤j∧j≤100)∧∀ n:Int,0≤n∧n≤2*10 ^ 60→Q (.int n) H
noncomputable def sp_law_row (K:PySem.W.Frag):Sp:=fun vs H Q E=>∃ n f h:Int,vs=[.int n,.int f,.int h]∧0≤n∧(0≤f∧f≤1000)∧(0≤h∧h≤10000000000)∧∀ p r H',Same H H'→H' p=some (.tup (r.map V.int))→RB f h r→Q (.ref p) H'
noncomputable def sp_law_tone (K:PySem.W.Frag):Sp:=fun vs H Q _=>∃ c j:Int,vs=[.int c,.int j]∧0≤c∧∀ p r H',Same H H'→H' p=some (.tup (r.map V.int))→RB 700 60 r→Q (.ref p) H'
noncomputable def sp_law_plus (K:PySem.W.Frag):Sp:=fun vs H Q _=>∃ a b a0 a1 a2 a3 a4 b0 b1 b2 b3 b4,vs=[.ref a,.ref b]∧SqT K H a [.int a0,.int a1,.int a2,.int a3,.int a4]∧SqT K H b [.int b0,.int b1,.int b2,.int b3,.int b4]∧∀ p H',Same H H'→H' p=some (.tup [.int (a0+b0),.int (a1+b1),.int (a2+b2),.int (a3+b3),.int (a4+b4)])→Q (.ref p) H'
noncomputable def sp_law_within (K:PySem.W.Frag):Sp:=fun vs H Q _=>∃ (a:Addr) (r:List Int),vs=[.ref a,.int 700,.int 60]∧(SqT K H a (r.map V.int))∧(r.length=5)∧∀ (b:Bool) (H':Hp),Same H H'→(b=true→RB 700 60 r)→Q (.bl b) H'
noncomputable def sp_law_dot (K:PySem.W.Frag):Sp:=fun vs H Q _=>∃ (a b:Addr) (w r:List Int),vs=[.ref a,.ref b]∧SqT K H a (w.map V.int)∧SqT K H b (r.map V.int)∧w.length=5∧r.length=5∧Few 100 w∧Few 100 r∧∀ H',Same H H'→Q (.int (dot r w)) H'
noncomputable def sp_law_board_row (K:PySem.W.Frag):Sp:=fun vs H Q _=>∃ (c:Int),vs=[.int c]∧(0≤c)∧∀ p H' w,Same H H'→H' p=some (.tup (w.map V.int))→w.length=5→Few 100 w→1≤w.getD 0 0→Q (.ref p) H'
noncomputable def sp_law_whole (K:PySem.W.Frag):Sp:=fun vs H Q _=>∃ i:Int,vs=[.int i]∧Q (.bl true) H
noncomputable def sp_law_chord (K:PySem.W.Frag):Sp:=fun vs H Q _=>∃ (a:Addr) (ns:List Int) (b n:Nat),vs=[.ref a,.int (b:Int),.int (n:Int)]∧(SqL K H a (ns.map V.int))∧(b≤60∧n≤9)∧∀ (l:Addr) (H':Hp) (xs:List V) (rs:List (List Int)),H l=none→Same H H'→H' l=some (.lst xs)→RowsL K H' xs rs→rs.length=n→(∀ r∈rs,RB 700 60 r)→Q (.ref l) H'
noncomputable def sp_law_other (K:PySem.W.Frag):Sp:=fun vs H Q _=>∃ (a l:Addr) (ns:List Int) (xs:List V) (cs:List (List Int)),vs=[.ref a,.ref l]∧(SqL K H a (ns.map V.int))∧(SqL K H l xs)∧(RowsL K H xs cs)∧(1≤cs.length)∧(cs.length≤6)∧(∀ r∈cs,RB 700 60 r)∧∀ (l2:Addr) (H':Hp) (ys:List V) (gs:List (List Int)),Same H H'→H' l2=some (.lst ys)→RowsL K H' ys gs→gs.length=cs.length→(∀ r∈gs,RB 700 60 r)→Q (.ref l2) H'
noncomputable def sp_law_same_sounds (K:PySem.W.Frag):Sp:=fun vs H Q _=>∃ (b l m:Addr) (w:List Int) (xs ys:List V) (cs gs:List (List Int)),vs=[.ref b,.ref l,.ref m]∧(SqT K H b (w.map V.int))∧(SqL K H l xs)∧(RowsL K H xs cs)∧(SqL K H m ys)∧(RowsL K H ys gs)∧(cs.length≤6)∧(gs.length≤6)∧(w.length=5)∧(Few 100 w)∧(1≤w.getD 0 0)∧(∀ r∈cs,r.length=5∧Few 100 r)∧(∀ r∈gs,r.length=5∧Few 100 r)∧∀ (b:Bool) (H':Hp),Same H H'→(b=true↔(cs.map fun r=>dot r w % w.getD 0 0).Perm (gs.map fun r=>dot r w % w.getD 0 0))→Q (.bl b) H'
noncomputable def sp_law_moved (K:PySem.W.Frag):Sp:=fun vs H Q _=>∃ (l m:Addr) (xs:List V) (cs:List (List Int)) (q:List Int),vs=[.ref l,.ref m]∧(SqL K H l xs)∧(RowsL K H xs cs)∧(SqT K H m (q.map V.int))∧(cs.length≤6)∧(q.length=5)∧(∀ r∈cs,r.length=5)∧∀ (l2:Addr) (H':Hp) (ys:List V),H l2=none→Same H H'→H' l2=some (.lst ys)→RowsL K H' ys (cs.map fun r=>List.zipWith (·+·) r q)→Q (.ref l2) H'
noncomputable def sp_law_fits (K:PySem.W.Frag):Sp:=fun vs H Q _=>∃ (l:Addr) (xs:List V) (cs:List (List Int)),vs=[.ref l]∧(SqL K H l xs)∧(RowsL K H xs cs)∧(cs.length≤6)∧(∀ r∈cs,r.length=5)∧∀ (b:Bool) (H':Hp),Same H H'→(b=true→∀ r∈cs,RB 700 60 r)→Q (.bl b) H'
noncomputable def sp_KeyTuning_init (K:PySem.W.Frag):Sp:=fun vs H Q _=>∃ (x kl C dx:Addr) (ys:List V) (ks:List (List Int×Int)),vs=[.ref x,.ref kl]∧PySem.W.nsIn K mainGlobals "Board"=some (some (.ref C))∧H x=some (.ins C dx [])∧SqL K H kl ys∧KeysL K H ys ks∧ks.length≤6∧(∀ k∈ks,GoodK k)∧∀ l H1,H l=none→Same H H1→H1 l=some (.lst ys)→Q .non (upd H1 x (.ins C dx [("own_keys",.ref l)]))
noncomputable def sp_Board_init (K:PySem.W.Frag):Sp:=fun vs H Q _=>∃ (x r C dx:Addr) (w:List Int),vs=[.ref x,.ref r]∧PySem.W.nsIn K mainGlobals "Board"=some (some (.ref C))∧H x=some (.ins C dx [])∧SqT K H r (w.map V.int)∧w.length=5∧Few 100 w∧1≤w.getD 0 0∧∀ H',SameX x H H'→BoardAt K H' x w→Q .non H'
noncomputable def sp_Board_sound (K:PySem.W.Frag):Sp:=fun vs H Q _=>∃ (b r:Addr) (w rs:List Int),vs=[.ref b,.ref r]∧BoardAt K H b w∧SqT K H r (rs.map V.int)∧rs.length=5∧Few 100 rs∧∀ H',Same H H'→Q (.int (dot rs w)) H'
noncomputable def sp_Leading_init (K:PySem.W.Frag):Sp:=fun vs H Q _=>∃ (x wl C dx:Addr) (n:Nat) (xs:List V),vs=[.ref x,.ref wl]∧(PySem.W.nsIn K mainGlobals "Leading"=some (some (.ref C)))∧(H x=some (.ins C dx []))∧(SqL K H wl xs)∧(xs.length=n)∧(n≤6)∧∀ (au av ag ac:Addr) (H':Hp),(∀ b o,b≠x→H b=some o→H' b=some o)→H au=none→H av=none→H ag=none→H ac=none→au≠av→au≠ag→au≠ac→av≠ag→av≠ac→ag≠ac→H' x=some (.ins C dx (ldF wl au av ag ac))→H' au=some (.lst (lsI n fun _=>0))→H' av=some (.lst (lsI n fun _=>0))→H' ag=some (.lst (lsO n fun _=>none))→H' ac=some (.lst (lsO n fun _=>none))→Q .non H'
noncomputable def sp_Leading_room (K:PySem.W.Frag):Sp:=fun vs H Q _=>∃ (H0:Hp) (x wl au av ag ac:Addr) (n:Nat) (wy:Nat→Nat→List Int) (u v:Nat→Int) (g c:Nat→Option Nat) (t j:Nat),vs=[.ref x,.int (t:Int),.int (j:Int)]∧(LdS K H0 H x wl au av ag ac n wy u v g c)∧(t<n)∧(j<n)∧∀ H',Same H H'→Q (.int (Wof wy t j - u t - v j)) H'
noncomputable def sp_Leading_nearest (K:PySem.W.Frag):Sp:=fun vs H Q _=>∃ (H0:Hp) (x wl au av ag ac:Addr) (n:Nat) (wy:Nat→Nat→List Int) (u v:Nat→Int) (g c:Nat→Option Nat) (ta d:Addr) (ts:List Nat) (os:List (Nat×Nat)),vs=[.ref x,.ref ta,.ref d]∧(LdS K H0 H x wl au av ag ac n wy u v g c)∧(TabL K H)∧(SqL K H ta (lsN ts))∧(H d=some (.dK (kvO os)))∧(ts≠[])∧(∀ t∈ts,t<n)∧(ts.length≤6)∧(∃ j,j<n∧j∉os.map Prod.fst)∧∀ (p:Addr) (H':Hp) (t j:Nat),SmL K H H'→TabL K H'→SqT K H' p [.int (t:Int),.int (j:Int)]→t∈ts→j<n→j∉os.map Prod.fst→(∀ t'∈ts,∀ j',j'<n→j'∉os.map Prod.fst→Wof wy t j - u t - v j≤Wof wy t' j' - u t' - v j')→Q (.ref p) H'
noncomputable def sp_Leading_shift (K:PySem.W.Frag):Sp:=fun vs H Q _=>∃ (H0:Hp) (x wl au av ag ac:Addr) (n:Nat) (wy:Nat→Nat→List Int) (u v:Nat→Int) (g c:Nat→Option Nat) (ta d:Addr) (ts:List Nat) (os:List (Nat×Nat)) (a:Int),vs=[.ref x,.ref ta,.ref d,.int a]∧(LdS K H0 H x wl au av ag ac n wy u v g c)∧(H ta=some (.lst (lsN ts)))∧(ta≠au)∧(ta≠av)∧(H d=some (.dK (kvO os)))∧(H0 d=none)∧(∀ t∈ts,t<n)∧(ts.Nodup)∧((os.map Prod.fst).Nodup)∧(∀ p∈os,p.1<n)∧∀ H',(∀ b o,b≠au→b≠av→H b=some o→H' b=some o)→LdS K H0 H' x wl au av ag ac n wy (Mat.up ts a u) (Mat.up (os.map Prod.fst) (-a) v) g c→Q .non H'
noncomputable def sp_Leading_turn (K:PySem.W.Frag):Sp:=fun vs H Q _=>∃ (H0:Hp) (x wl au av ag ac:Addr) (n:Nat) (wy:Nat→Nat→List Int) (u v:Nat→Int) (g c:Nat→Option Nat) (d:Addr) (ts:List Nat) (os:List (Nat×Nat)) (first f i:Nat),vs=[.ref x,.int (f:Int),.ref d]∧(LdS K H0 H x wl au av ag ac n wy u v g c)∧(TabL K H)∧(H d=some (.dK (kvO os)))∧(Mat.Mt n (Wof wy) u v g c)∧(Mat.Tr n (Wof wy) u v c first ts os none)∧(g first=none)∧(Mat.Tn n (Wof wy) u v g ts os g c f i)∧∀ H' g' c',TabL K H'→LdS K H0 H' x wl au av ag ac n wy u v g' c'→Mat.Mt n (Wof wy) u v g' c'→(∀ t,(g' t).isSome=true↔(g t).isSome=true∨t=first)→Q .non H'
noncomputable def sp_Leading_lead (K:PySem.W.Frag):Sp:=fun vs H Q _=>∃ (H0:Hp) (x wl au av ag ac:Addr) (n:Nat) (wy:Nat→Nat→List Int) (u v:Nat→Int) (g c:Nat→Option Nat) (first:Nat),vs=[.ref x,.int (first:Int)]∧(LdS K H0 H x wl au av ag ac n wy u v g c)∧(TabL K H)∧(Mat.Mt n (Wof wy) u v g c)∧(g first=none)∧(first<n)∧∀ H' u' v' g' c',TabL K H'→LdS K H0 H' x wl au av ag ac n wy u' v' g' c'→Mat.Mt n (Wof wy) u' v' g' c'→(∀ t,(g' t).isSome=true↔(g t).isSome=true∨t=first)→Q .non H'
section
variable {K:PySem.W.Frag} {H:Hp} {Q:VK} {E:XK}
theorem c_way {b p q:Addr} {w ra rb:List Int} (hb:BoardAt K H b w) (hp:SqT K H p (ra.map V.int)) (hq:SqT K H q (rb.map V.int)) (la:ra.length=5) (lb:rb.length=5) (fa:Few 100 ra) (fb:Few 100 rb) (k:∀ p H',Same H H'→SqT K H' p ((wayV w ra rb).map V.int)→Q (.ref p) H'):sp_way K [.ref b,.ref p,.ref q] H Q E:=⟨b,p,q,w,ra,rb,rfl,hb,hp,hq,la,lb,fa,fb,k⟩
theorem c_ways_from {b p l:Addr} {w ra:List Int} {xs:List V} {gs:List (List Int)} (hb:BoardAt K H b w) (hp:SqT K H p (ra.map V.int)) (hl:SqL K H l xs) (hg:RowsL K H xs gs) (la:ra.length=5) (fa:Few 100 ra) (hn:gs.length≤6) (lg:∀ r∈gs,r.length=5∧Few 100 r) (k:∀ (l:Addr) (H':Hp) (ys:List V),H l=none→Same H H'→H' l=some (.lst ys)→RowsL K H' ys (gs.map (wayV w ra))→Q (.ref l) H'):sp_ways_from K [.ref b,.ref p,.ref l] H Q E:=⟨b,p,l,w,ra,xs,gs,rfl,hb,hp,hl,hg,la,fa,hn,lg,k⟩
theorem c_led {b l m:Addr} {w:List Int} {xs ys:List V} {cs gs:List (List Int)} (hb:BoardAt K H b w) (hT:TabL K H) (hl:SqL K H l xs) (hc:RowsL K H xs cs) (hm:SqL K H m ys) (hg:RowsL K H ys gs) (h1:1≤cs.length) (h6:cs.length≤6) (he:gs.length=cs.length) (fc:∀ r∈cs,r.length=5∧Few 100 r) (fg:∀ r∈gs,r.length=5∧Few 100 r) (k:∀ (p ag as au av:Addr) (H':Hp) (go:Nat→Nat) (u v:Nat→Int),SmL K H H'→TabL K H'→SqT K H' p [.ref ag,.ref as,.ref au,.ref av]→H' ag=some (.lst (lsN ((List.range cs.length).map go)))→H' as=some (.lst (lsI cs.length fun t=>(wyOf w cs gs t (go t)).getD 1 0))→H' au=some (.lst (lsI cs.length u))→H' av=some (.lst (lsI cs.length v))→(∀ t,t<cs.length→go t<cs.length)→(∀ t t',t<cs.length→t'<cs.length→go t=go t'→t=t')→(∀ t j,t<cs.length→j<cs.length→u t+v j≤Wof (wyOf w cs gs) t j)→(∀ t,t<cs.length→u t+v (go t)=Wof (wyOf w cs gs) t (go t))→Q (.ref p) H'):sp_led K [.ref b,.ref l,.ref m] H Q E:=⟨b,l,m,w,xs,ys,cs,gs,rfl,hb,hT,hl,hc,hm,hg,h1,h6,he,fc,fg,k⟩
theorem c_least_steps {b l m:Addr} {w:List Int} {xs ys:List V} {cs gs:List (List Int)} (hb:BoardAt K H b w) (hT:TabL K H) (hl:SqL K H l xs) (hc:RowsL K H xs cs) (hm:SqL K H m ys) (hg:RowsL K H ys gs) (h1:1≤cs.length) (h6:cs.length≤6) (he:gs.length=cs.length) (fc:∀ r∈cs,r.length=5∧Few 100 r) (fg:∀ r∈gs,r.length=5∧Few 100 r) (k:∀ (H':Hp) (z:Int),SmL K H H'→TabL K H'→Least cs.length (Wof (wyOf w cs gs)) z→Q (.int z) H'):sp_least_steps K [.ref b,.ref l,.ref m] H Q E:=⟨b,l,m,w,xs,ys,cs,gs,rfl,hb,hT,hl,hc,hm,hg,h1,h6,he,fc,fg,k⟩
theorem c_heard {w r:Addr} (ws rs:List Int) (hw:SqT K H w (ws.map V.int)) (hr:SqT K H r (rs.map V.int)) (hl:rs.length=ws.length) (hn:rs.length≤1000) (hm:∀ i,i<rs.length→CMulB (rs.getD i 0) (ws.getD i 0)) (k:∀ H',Same H H'→Q (.int (dot rs ws)) H'):sp_heard K [.ref w,.ref r] H Q E:=⟨w,r,ws,rs,rfl,hw,hr,hl,hn,hm,k⟩
theorem c_value {kk w r:Addr} {m:Int} (ws rs:List Int) (hk:SqT K H kk [.ref w,.int m]) (hw:SqT K H w (ws.map V.int)) (hr:SqT K H r (rs.map V.int)) (hl:rs.length=ws.length) (hn:rs.length≤1000) (hm:∀ i,i<rs.length→CMulB (rs.getD i 0) (ws.getD i 0)) (h0:0≤m) (k:∀ H',Same H H'→Q (.int (val ws m rs)) H'):sp_value K [.ref kk,.ref r] H Q E:=⟨kk,w,r,m,ws,rs,rfl,hk,hw,hr,hl,hn,hm,h0,k⟩
theorem c_checked_keys {l:Addr} {ys:List V} {ks:List (List Int×Int)} (hl:SqL K H l ys) (hk:KeysL K H ys ks) (hn:ks.length≤6) (hg:∀ k∈ks,GoodK k) (k:Q (.ref l) H):sp_checked_keys K [.ref l] H Q E:=⟨l,ys,ks,rfl,hl,hk,hn,hg,k⟩
theorem c_values {l r:Addr} {ys:List V} {ks:List (List Int×Int)} {rs:List Int} (hl:SqL K H l ys) (hk:KeysL K H ys ks) (hn:ks.length≤6) (hg:∀ k∈ks,GoodK k) (hr:SqT K H r (rs.map V.int)) (h5:rs.length=5) (hf:Few 100 rs) (k:∀ p H',Same H H'→H' p=some (.tup ((vals ks rs).map V.int))→Q (.ref p) H'):sp_values K [.ref l,.ref r] H Q E:=⟨l,r,ys,ks,rs,rfl,hl,hk,hn,hg,hr,h5,hf,k⟩
theorem c_law_mixed {a:Addr} {ns:List Int} {j:Int} (ha:SqL K H a (ns.map V.int)) (hj:0≤j∧j≤1000) (k:∀ n:Int,0≤n∧n<2147483629→Q (.int n) H):sp_law_mixed K [.ref a,.int j] H Q E:=⟨a,ns,j,rfl,ha,hj,k⟩
theorem c_law_number {a:Addr} {ns:List Int} {j:Int} (ha:SqL K H a (ns.map V.int)) (hj:0≤j∧j≤100) (k:∀ n:Int,0≤n∧n≤2*10 ^ 60→Q (.int n) H):sp_law_number K [.ref a,.int j] H Q E:=⟨a,ns,j,rfl,ha,hj,k⟩
theorem c_law_row {n f h:Int} (hn:0≤n) (hf:0≤f∧f≤1000) (hh:0≤h∧h≤10000000000) (k:∀ p r H',Same H H'→H' p=some (.tup (r.map V.int))→RB f h r→Q (.ref p) H'):sp_law_row K [.int n,.int f,.int h] H Q E:=⟨n,f,h,rfl,hn,hf,hh,k⟩
theorem c_law_tone {c j:Int} (hc:0≤c) (k:∀ p r H',Same H H'→H' p=some (.tup (r.map V.int))→RB 700 60 r→Q (.ref p) H'):sp_law_tone K [.int c,.int j] H Q E:=⟨c,j,rfl,hc,k⟩
theorem c_law_plus {a b:Addr} {a0 a1 a2 a3 a4 b0 b1 b2 b3 b4:Int} (ha:SqT K H a [.int a0,.int a1,.int a2,.int a3,.int a4]) (hb:SqT K H b [.int b0,.int b1,.int b2,.int b3,.int b4]) (k:∀ p H',Same H H'→H' p=some (.tup [.int (a0+b0),.int (a1+b1),.int (a2+b2),.int (a3+b3),.int (a4+b4)])→Q (.ref p) H'):sp_law_plus K [.ref a,.ref b] H Q E:=⟨a,b,a0,a1,a2,a3,a4,b0,b1,b2,b3,b4,rfl,ha,hb,k⟩
theorem c_law_within {a:Addr} {r:List Int} (ha:SqT K H a (r.map V.int)) (h5:r.length=5) (k:∀ (b:Bool) (H':Hp),Same H H'→(b=true→RB 700 60 r)→Q (.bl b) H'):sp_law_within K [.ref a,.int 700,.int 60] H Q E:=⟨a,r,rfl,ha,h5,k⟩
theorem c_law_dot {a b:Addr} {w r:List Int} (ha:SqT K H a (w.map V.int)) (hb:SqT K H b (r.map V.int)) (lw:w.length=5) (lr:r.length=5) (fw:Few 100 w) (fr:Few 100 r) (k:∀ H',Same H H'→Q (.int (dot r w)) H'):sp_law_dot K [.ref a,.ref b] H Q E:=⟨a,b,w,r,rfl,ha,hb,lw,lr,fw,fr,k⟩
theorem c_law_board_row {c:Int} (hc:0≤c) (k:∀ p H' w,Same H H'→H' p=some (.tup (w.map V.int))→w.length=5→Few 100 w→1≤w.getD 0 0→Q (.ref p) H'):sp_law_board_row K [.int c] H Q E:=⟨c,rfl,hc,k⟩
theorem c_law_whole {i:Int} (k:Q (.bl true) H):sp_law_whole K [.int i] H Q E:=⟨i,rfl,k⟩
theorem c_law_chord {a:Addr} {ns:List Int} {b n:Nat} (ha:SqL K H a (ns.map V.int)) (h6:b≤60∧n≤9) (k:∀ (l:Addr) (H':Hp) (xs:List V) (rs:List (List Int)),H l=none→Same H H'→H' l=some (.lst xs)→RowsL K H' xs rs→rs.length=n→(∀ r∈rs,RB 700 60 r)→Q (.ref l) H'):sp_law_chord K [.ref a,.int (b:Int),.int (n:Int)] H Q E:=⟨a,ns,b,n,rfl,ha,h6,k⟩
theorem c_law_other {a l:Addr} {ns:List Int} {xs:List V} {cs:List (List Int)} (ha:SqL K H a (ns.map V.int)) (hl:SqL K H l xs) (hc:RowsL K H xs cs) (h1:1≤cs.length) (h6:cs.length≤6) (bc:∀ r∈cs,RB 700 60 r) (k:∀ (l2:Addr) (H':Hp) (ys:List V) (gs:List (List Int)),Same H H'→H' l2=some (.lst ys)→RowsL K H' ys gs→gs.length=cs.length→(∀ r∈gs,RB 700 60 r)→Q (.ref l2) H'):sp_law_other K [.ref a,.ref l] H Q E:=⟨a,l,ns,xs,cs,rfl,ha,hl,hc,h1,h6,bc,k⟩
theorem c_law_same_sounds {b l m:Addr} {w:List Int} {xs ys:List V} {cs gs:List (List Int)} (hw:SqT K H b (w.map V.int)) (hl:SqL K H l xs) (hc:RowsL K H xs cs) (hm:SqL K H m ys) (hg:RowsL K H ys gs) (h6:cs.length≤6) (g6:gs.length≤6) (lw:w.length=5) (fw:Few 100 w) (w1:1≤w.getD 0 0) (fc:∀ r∈cs,r.length=5∧Few 100 r) (fg:∀ r∈gs,r.length=5∧Few 100 r) (k:∀ (b:Bool) (H':Hp),Same H H'→(b=true↔(cs.map fun r=>dot r w % w.getD 0 0).Perm (gs.map fun r=>dot r w % w.getD 0 0))→Q (.bl b) H'):sp_law_same_sounds K [.ref b,.ref l,.ref m] H Q E:=⟨b,l,m,w,xs,ys,cs,gs,rfl,hw,hl,hc,hm,hg,h6,g6,lw,fw,w1,fc,fg,k⟩
theorem c_law_moved {l m:Addr} {xs:List V} {cs:List (List Int)} {q:List Int} (hl:SqL K H l xs) (hc:RowsL K H xs cs) (hm:SqT K H m (q.map V.int)) (h6:cs.length≤6) (lq:q.length=5) (lc:∀ r∈cs,r.length=5) (k:∀ (l2:Addr) (H':Hp) (ys:List V),H l2=none→Same H H'→H' l2=some (.lst ys)→RowsL K H' ys (cs.map fun r=>List.zipWith (·+·) r q)→Q (.ref l2) H'):sp_law_moved K [.ref l,.ref m] H Q E:=⟨l,m,xs,cs,q,rfl,hl,hc,hm,h6,lq,lc,k⟩
theorem c_law_fits {l:Addr} {xs:List V} {cs:List (List Int)} (hl:SqL K H l xs) (hc:RowsL K H xs cs) (h6:cs.length≤6) (lc:∀ r∈cs,r.length=5) (k:∀ (b:Bool) (H':Hp),Same H H'→(b=true→∀ r∈cs,RB 700 60 r)→Q (.bl b) H'):sp_law_fits K [.ref l] H Q E:=⟨l,xs,cs,rfl,hl,hc,h6,lc,k⟩
theorem c_KeyTuning_init {x kl C dx:Addr} {ys:List V} {ks:List (List Int×Int)} (hC:PySem.W.nsIn K mainGlobals "Board"=some (some (.ref C))) (hx:H x=some (.ins C dx [])) (hl:SqL K H kl ys) (hk:KeysL K H ys ks) (hn:ks.length≤6) (hg:∀ k∈ks,GoodK k) (k:∀ l H1,H l=none→Same H H1→H1 l=some (.lst ys)→Q .non (upd H1 x (.ins C dx [("own_keys",.ref l)]))):sp_KeyTuning_init K [.ref x,.ref kl] H Q E:=⟨x,kl,C,dx,ys,ks,rfl,hC,hx,hl,hk,hn,hg,k⟩
theorem c_Board_init {x r C dx:Addr} {w:List Int} (hC:PySem.W.nsIn K mainGlobals "Board"=some (some (.ref C))) (hx:H x=some (.ins C dx [])) (hr:SqT K H r (w.map V.int)) (h5:w.length=5) (hf:Few 100 w) (h1:1≤w.getD 0 0) (k:∀ H',SameX x H H'→BoardAt K H' x w→Q .non H'):sp_Board_init K [.ref x,.ref r] H Q E:=⟨x,r,C,dx,w,rfl,hC,hx,hr,h5,hf,h1,k⟩
theorem c_Board_sound {b r:Addr} {w rs:List Int} (hb:BoardAt K H b w) (hr:SqT K H r (rs.map V.int)) (h5:rs.length=5) (hf:Few 100 rs) (k:∀ H',Same H H'→Q (.int (dot rs w)) H'):sp_Board_sound K [.ref b,.ref r] H Q E:=⟨b,r,w,rs,rfl,hb,hr,h5,hf,k⟩
theorem c_Leading_init {x wl C dx:Addr} {n:Nat} {xs:List V} (hC:PySem.W.nsIn K mainGlobals "Leading"=some (some (.ref C))) (hx:H x=some (.ins C dx [])) (hw:SqL K H wl xs) (hn:xs.length=n) (h6:n≤6) (k:∀ (au av ag ac:Addr) (H':Hp),(∀ b o,b≠x→H b=some o→H' b=some o)→H au=none→H av=none→H ag=none→H ac=none→au≠av→au≠ag→au≠ac→av≠ag→av≠ac→ag≠ac→H' x=some (.ins C dx (ldF wl au av ag ac))→H' au=some (.lst (lsI n fun _=>0))→H' av=some (.lst (lsI n fun _=>0))→H' ag=some (.lst (lsO n fun _=>none))→H' ac=some (.lst (lsO n fun _=>none))→Q .non H'):sp_Leading_init K [.ref x,.ref wl] H Q E:=⟨x,wl,C,dx,n,xs,rfl,hC,hx,hw,hn,h6,k⟩
theorem c_Leading_room {H0:Hp} {x wl au av ag ac:Addr} {n:Nat} {wy:Nat→Nat→List Int} {u v:Nat→Int} {g c:Nat→Option Nat} {t j:Nat} (hL:LdS K H0 H x wl au av ag ac n wy u v g c) (ht:t<n) (hj:j<n) (k:∀ H',Same H H'→Q (.int (Wof wy t j - u t - v j)) H'):sp_Leading_room K [.ref x,.int (t:Int),.int (j:Int)] H Q E:=⟨H0,x,wl,au,av,ag,ac,n,wy,u,v,g,c,t,j,rfl,hL,ht,hj,k⟩
theorem c_Leading_nearest {H0:Hp} {x wl au av ag ac:Addr} {n:Nat} {wy:Nat→Nat→List Int} {u v:Nat→Int} {g c:Nat→Option Nat} {ta d:Addr} {ts:List Nat} {os:List (Nat×Nat)} (hL:LdS K H0 H x wl au av ag ac n wy u v g c) (hT:TabL K H) (hta:SqL K H ta (lsN ts)) (hd:H d=some (.dK (kvO os))) (hne:ts≠[]) (hlt:∀ t∈ts,t<n) (hl6:ts.length≤6) (hfree:∃ j,j<n∧j∉os.map Prod.fst) (k:∀ (p:Addr) (H':Hp) (t j:Nat),SmL K H H'→TabL K H'→SqT K H' p [.int (t:Int),.int (j:Int)]→t∈ts→j<n→j∉os.map Prod.fst→(∀ t'∈ts,∀ j',j'<n→j'∉os.map Prod.fst→Wof wy t j - u t - v j≤Wof wy t' j' - u t' - v j')→Q (.ref p) H'):sp_Leading_nearest K [.ref x,.ref ta,.ref d] H Q E:=⟨H0,x,wl,au,av,ag,ac,n,wy,u,v,g,c,ta,d,ts,os,rfl,hL,hT,hta,hd,hne,hlt,hl6,hfree,k⟩
theorem c_Leading_shift {H0:Hp} {x wl au av ag ac:Addr} {n:Nat} {wy:Nat→Nat→List Int} {u v:Nat→Int} {g c:Nat→Option Nat} {ta d:Addr} {ts:List Nat} {os:List (Nat×Nat)} {a:Int} (hL:LdS K H0 H x wl au av ag ac n wy u v g c) (hta:H ta=some (.lst (lsN ts))) (n1:ta≠au) (n2:ta≠av) (hd:H d=some (.dK (kvO os))) (h0d:H0 d=none) (hlt:∀ t∈ts,t<n) (nd:ts.Nodup) (ndk:(os.map Prod.fst).Nodup) (hlk:∀ p∈os,p.1<n) (k:∀ H',(∀ b o,b≠au→b≠av→H b=some o→H' b=some o)→LdS K H0 H' x wl au av ag ac n wy (Mat.up ts a u) (Mat.up (os.map Prod.fst) (-a) v) g c→Q .non H'):sp_Leading_shift K [.ref x,.ref ta,.ref d,.int a] H Q E:=⟨H0,x,wl,au,av,ag,ac,n,wy,u,v,g,c,ta,d,ts,os,a,rfl,hL,hta,n1,n2,hd,h0d,hlt,nd,ndk,hlk,k⟩
theorem c_Leading_turn {H0:Hp} {x wl au av ag ac:Addr} {n:Nat} {wy:Nat→Nat→List Int} {u v:Nat→Int} {g c:Nat→Option Nat} {d:Addr} {ts:List Nat} {os:List (Nat×Nat)} {first f i:Nat} (hL:LdS K H0 H x wl au av ag ac n wy u v g c) (hT:TabL K H) (hd:H d=some (.dK (kvO os))) (hM:Mat.Mt n (Wof wy) u v g c) (hR:Mat.Tr n (Wof wy) u v c first ts os none) (gf:g first=none) (hN:Mat.Tn n (Wof wy) u v g ts os g c f i) (k:∀ H' g' c',TabL K H'→LdS K H0 H' x wl au av ag ac n wy u v g' c'→Mat.Mt n (Wof wy) u v g' c'→(∀ t,(g' t).isSome=true↔(g t).isSome=true∨t=first)→Q .non H'):sp_Leading_turn K [.ref x,.int (f:Int),.ref d] H Q E:=⟨H0,x,wl,au,av,ag,ac,n,wy,u,v,g,c,d,ts,os,first,f,i,rfl,hL,hT,hd,hM,hR,gf,hN,k⟩
theorem c_Leading_lead {H0:Hp} {x wl au av ag ac:Addr} {n:Nat} {wy:Nat→Nat→List Int} {u v:Nat→Int} {g c:Nat→Option Nat} {first:Nat} (hL:LdS K H0 H x wl au av ag ac n wy u v g c) (hT:TabL K H) (hM:Mat.Mt n (Wof wy) u v g c) (gf:g first=none) (hf:first<n) (k:∀ H' u' v' g' c',TabL K H'→LdS K H0 H' x wl au av ag ac n wy u' v' g' c'→Mat.Mt n (Wof wy) u' v' g' c'→(∀ t,(g' t).isSome=true↔(g t).isSome=true∨t=first)→Q .non H'):sp_Leading_lead K [.ref x,.int (first:Int)] H Q E:=⟨H0,x,wl,au,av,ag,ac,n,wy,u,v,g,c,first,rfl,hL,hT,hM,gf,hf,k⟩
end
local macro_rules|`(tactic| walk_at "hf") => `(tactic| first|assumption|exact L2.SqT.of (by assumption)|exact L2.SqL.of (by assumption)|exact L2.Fixed.at (by assumption)|((with_reducible apply L2.sqt_sq);(walk_at "hf"))|((with_reducible apply L2.sql_sq);(walk_at "hf"))|((with_reducible apply L2.Same.at);(assumption);(walk_at "hf"))|((with_reducible apply L2.Same.seq);(assumption);(walk_at "hf"))|((with_reducible apply L2.Same.lst);(assumption);(walk_at "hf"))|((with_reducible apply L2.Same.sq);(assumption);(walk_at "hf")))
local macro_rules|`(tactic| walk_at "sm") => `(tactic| first|exact L2.Same.refl _|assumption|((refine L2.Same.trans ?_ (by assumption));walk_at "sm"))
local macro_rules|`(tactic| walk_at "side") => `(tactic| first|(show (0 : Int)<_;first|decide|lia)|exact⟨by decide, by decide⟩|exact⟨by lia, by lia⟩|exact Or.inl ⟨by decide, by decide⟩|exact Or.inr ⟨by decide, by decide⟩|exact Or.inr ⟨by lia, by lia⟩|exact Or.inl ⟨by lia, by lia⟩|exact⟨by decide, by decide, by decide⟩|assumption)
local macro_rules|`(tactic| walk_at "p") => `(tactic| first
 | (with_reducible refine L2.r_seq ?_)|(with_reducible refine L2.r_asg ?_)|(with_reducible refine L2.r_gname ?_)|(with_reducible refine L2.r_ret ?_)|(with_reducible refine L2.r_drop ?_)|(with_reducible refine L2.r_next ?_)
 | ((with_reducible apply L2.r_var);(exact rfl))|(with_reducible refine L2.r_c ?_)|(with_reducible refine L2.r_op ?_)|(with_reducible refine L2.r_b ?_)|(with_reducible refine L2.r_test ?_)|(with_reducible refine L2.r_isbl ?_)
 | (with_reducible refine L2.r_and ?_)|(with_reducible refine L2.r_or ?_)|(with_reducible refine L2.r_not ?_)|(with_reducible refine L2.r_andV ?_)|(with_reducible refine L2.r_notV ?_)|(with_reducible refine L2.r_ife ?_)
 | (with_reducible refine L2.r_I0 ?_)|((with_reducible refine L2.r_I ?_ ?_);(walk_at "side"))|(with_reducible refine L2.r_eqI ?_)|(with_reducible refine L2.r_neI ?_)|(with_reducible refine L2.r_neB ?_)
 | (with_reducible refine L2.r_nil ?_)|(with_reducible refine L2.r_cons ?_)|(with_reducible refine L2.r_tup ?_)|(with_reducible refine L2.r_lst ?_)|((with_reducible refine L2.r_newT ?_ ?_);(first|exact Nat.le_of_ble_eq_true rfl|(focus (simp;done))|(focus (simp;lia)));intro p_ H_ s_ m_)|((with_reducible refine L2.r_newL ?_ ?_);(first|exact Nat.le_of_ble_eq_true rfl|(focus (simp;done))|(focus (simp;lia)));intro p_ H_ n_ s_ m_)
 | (with_reducible refine L2.r_cb ?_)|(with_reducible refine L2.r_call0 ?_)|(with_reducible refine L2.r_comp ?_)|(with_reducible refine L2.r_sl ?_)|(with_reducible refine L2.r_nopart ?_)|(with_reducible refine L2.r_part ?_)|(with_reducible refine L2.r_isint ?_)|(with_reducible refine L2.r_bm ?_)|(with_reducible refine L2.r_for ?_)|(with_reducible refine L2.r_ilist ?_)|(with_reducible refine L2.r_itup ?_)|(with_reducible refine L2.r_irng ?_)|(with_reducible refine L2.r_izip ?_)
 | ((with_reducible apply L2.r_isl);(walk_at "hf"))|((with_reducible apply L2.r_ist);(walk_at "hf"))|((with_reducible refine L2.r_isr ?_ ?_ ?_);(first|decide|lia);(first|decide|lia))|((with_reducible apply L2.r_isz);(walk_at "hf");(walk_at "hf"))
 | ((with_reducible apply L2.r_lenL);(walk_at "hf"))
 | ((with_reducible apply L2.r_tupleL);(walk_at "hf");intro p_ H_ s_ m_)|((with_reducible apply L2.r_listL);(walk_at "hf");intro p_ H_ n_ s_ m_)|(with_reducible refine L2.r_abs ?_)|(with_reducible refine L2.r_min ?_)|((with_reducible apply L2.r_isiI);(first|exact L2.kit_same _ _|exact rfl))|((with_reducible refine L2.r_typed ?_ ?_);(first|exact rfl|exact Or.inl ⟨rfl,_,by walk_at "hf"⟩))
 | ((with_reducible apply L2.r_cat);(walk_at "hf");(walk_at "hf");(first|exact Nat.le_of_ble_eq_true rfl|(focus (simp;done))|(focus (simp;lia)));intro p_ H_ n_ s_ m_)
 | ((with_reducible apply L2.r_slT1);(walk_at "hf");intro p_ H_ s_ m_)
 | ((with_reducible apply L2.r_catT);(walk_at "hf");(walk_at "hf");(exact List.cons_ne_nil _ _);(exact List.cons_ne_nil _ _);(first|exact Nat.le_of_ble_eq_true rfl|(focus (simp;done))|(focus (simp;lia)));intro p_ H_ s_ m_)
 | (with_reducible refine L2.r_gsub ?_)|(with_reducible refine L2.r_meth ?_)|(with_reducible refine L2.r_make ?_)|(with_reducible refine L2.r_fld ?_)|(with_reducible refine L2.r_sfld ?_)|((with_reducible apply L2.r_fld1);(assumption);(assumption);(assumption);(exact rfl))|((with_reducible apply L2.r_meth1);(assumption);(exact rfl))
 | (with_reducible refine L2.r_revT ?_)|((with_reducible apply L2.r_revL);(walk_at "hf");intro p_ H_ n_ s_ m_)|(with_reducible refine L2.r_dput ?_) )
local macro_rules|`(tactic| walk_at "q") => `(tactic| first|(walk_at "p")|(with_reducible refine L2.r_ifs ?_))
local macro_rules|`(tactic| walk_at "x") => `(tactic| first|((with_reducible apply L2.r_ixT);(walk_at "hf");(exact rfl))|((with_reducible apply L2.r_ixL);(walk_at "hf");(exact rfl)))
local macro_rules|`(tactic| walk_at "r") => `(tactic| first|(walk_at "q")|(walk_at "x"))
local macro_rules|`(tactic| walk_at "v") => `(tactic| repeat walk_at "q")
local macro_rules|`(tactic| walk_at "j") => `(tactic| repeat (first|(walk_at "p")|(walk_at "x")))
local macro_rules|`(tactic| walk_at "p") => `(tactic| ((with_reducible apply c_law_plus);(walk_at "hf");(walk_at "hf");intro p_ H_ s_ m_))
local macro_rules|`(tactic| walk_at "p") => `(tactic| ((with_reducible apply c_law_whole)))
local macro_rules|`(tactic| walk_at "p") => `(tactic| (with_reducible refine L2.r_lR ?_))
local macro_rules|`(tactic| walk_at "p") => `(tactic| (with_reducible refine L2.r_minL ?_))
local macro_rules|`(tactic| walk_at "p") => `(tactic| (with_reducible refine L2.r_forD ?_))
local macro_rules|`(tactic| walk_at "w") => `(tactic| repeat walk_at "r")
section
variable {P:Program} {w:World} {K:PySem.W.Frag} {mg:Str→Option Value} {base:Heap} {G:Adr}
theorem sc_heard:FnScope ["weights","row"] ["weights","row"] (defScope s_heard):=⟨rfl,rfl,rfl,by decide +kernel,rfl,by decide +kernel,by decide +kernel⟩
theorem ok_heard (D:Def K mg "heard" s_heard ["weights","row"]) (T:Txt K mg G):Ok P w K mg base 1 "heard" ["weights","row"] (sp_heard K):=by
 have S:=sc_heard
 refine D.ok S (fun vs H Q E h=>?_) (fun f cdv A outer s H vs Q E hr h=>?_)
 ·obtain ⟨w,r,ws,rs,rfl,hw,hra,hl,hn,hm,k⟩:=h;rfl
 ·obtain ⟨w,r,ws,rs,rfl,hw,hra,hl,hn,hm,k⟩:=h
  have hu:=hu_of hr
  have c_Board:=T.c_Board
  have n_Board_own_keys:=T.n_Board_own_keys
  have n_Board_octave:=T.n_Board_octave
  have c_Leading:=T.c_Leading
  have n_Leading_ways:=T.n_Leading_ways
  have n_Leading_tone_prices:=T.n_Leading_tone_prices
  have n_Leading_goal_prices:=T.n_Leading_goal_prices
  have n_Leading_goals:=T.n_Leading_goals
  have n_Leading_comers:=T.n_Leading_comers
  refine⟨_,(pss_one (ps_ret (pe_callB (kN_sum K rfl rfl) rfl T.b_sum PyProof.Rows.boot_sum (pa_cons (pe_comp (N:=["number","weight"]) (ix:=[none,none]) rfl (kpi_zip2 K rfl true true rfl T.b_zip (pa_cons (pv 1) (pa_cons (pv 0) pa_nil))) (fun _ _ _ _ _=>(kpg_tup (n:=2) K rfl rfl (pgs_cons (pg_name (i:=0) (show List.Nodup (["number","weight"]:List Str) by decide +kernel) rfl (Or.inl rfl)) (pgs_cons (pg_name (i:=1) (show List.Nodup (["number","weight"]:List Str) by decide +kernel) rfl (Or.inl rfl)) pgs_nil)))) (fun _ _ _ _ _=>rfl) (fun _ _ _ _ _=>(pe_op op_mulB (pv 0) (pv 1))) rfl (by decide +kernel) (by decide +kernel) rfl True.intro) pa_nil)))),?_⟩
  walk_at "w"
  refine rd_zipM (r:=rs) (q:=ws) rfl (sqt_sq hra) (sqt_sq hw) hl hn hm fun l H1 hl1 s1 m1=>?_
  walk_at "w"
  refine r_sum (SqL.of m1) ?_
  exact k _ s1
theorem sc_checked_keys:FnScope ["keys","key"] ["keys"] (defScope s_checked_keys):=⟨rfl,rfl,rfl,by decide +kernel,rfl,by decide +kernel,by decide +kernel⟩
theorem ok_checked_keys (D:Def K mg "checked_keys" s_checked_keys ["keys"]) (T:Txt K mg G):Ok P w K mg base 1 "checked_keys" ["keys"] (sp_checked_keys K):=by
 have S:=sc_checked_keys
 refine D.ok S (fun vs H Q E h=>?_) (fun f cdv A outer s H vs Q E hr h=>?_)
 ·obtain ⟨l,ys,ks,rfl,hl,hk,hn,hg,k⟩:=h;rfl
 ·obtain ⟨l,ys,ks,rfl,hl,hk,hn,hg,k⟩:=h
  have hu:=hu_of hr
  have c_Board:=T.c_Board
  have n_Board_own_keys:=T.n_Board_own_keys
  have n_Board_octave:=T.n_Board_octave
  have c_Leading:=T.c_Leading
  have n_Leading_ways:=T.n_Leading_ways
  have n_Leading_tone_prices:=T.n_Leading_tone_prices
  have n_Leading_goal_prices:=T.n_Leading_goal_prices
  have n_Leading_goals:=T.n_Leading_goals
  have n_Leading_comers:=T.n_Leading_comers
  refine⟨_,(pss_cons (ps_if (pt_cmpR op_gt (pe_callB (kN_len K rfl) rfl T.b_len PySem.boot_len (pa_cons (pv 0) pa_nil)) (pe_glob (v:=V.int 6) rfl T.g_MOST_KEYS ⟨_,rfl⟩) (nomark _)) (pss_one ps_never) pss_nil) (pss_cons (ps_for PassesOwn.never rfl (kpi_list K rfl (pv 0)) (pg_name (i:=1) S.nd rfl (Or.inl rfl)) (pss_one (ps_if (PW.pt (pw_or (pt_cmpR op_lt (pe_ix (kx_seq K rfl) (pv 1) pe_int (fun _ _=>rfl)) pe_int (nomark _)) (pw_or1 (pt_cmpR op_eq (pe_ix (kx_seq K rfl) (pv 1) pe_int (fun _ _=>rfl)) pe_int (nomark _))))) (pss_one ps_never) pss_nil))) (pss_one (ps_ret (pv 0))))),?_⟩
  have hy:=hk.length
  walk_at "w"
  refine if_ff (by simp;lia) ?_
  walk_at "w"
  refine f_invL (xs:=ys) (fun i σ H2=>∃ o:Option V,σ=[some (.ref l),o]∧H2=H) ⟨_,rfl,rfl⟩ (fun i σ H2 hp=>by obtain ⟨o,rfl,rfl⟩:=hp;exact hl) (fun i x σ H2 hx hp=>?_) (fun σ H2 hp=>?_)
  ·obtain ⟨o,rfl,rfl⟩:=hp
   obtain ⟨a,w,kk,rfl,h1,h2,h3⟩:=hk.get hx
   have hm:=(hg kk (mem_of h3)).2.2
   walk_at "w"
   refine if_ff (by simp;lia) ?_
   walk_at "w"
   refine if_ff (by simp;lia) ?_
   walk_at "w"
   exact⟨_,rfl,rfl⟩
  ·obtain ⟨o,rfl,rfl⟩:=hp
   walk_at "w"
   exact k
theorem sc_law_mixed:FnScope ["_law_script","_law_k","_law_cell","_law_mixed_here"] ["_law_script","_law_k"] (defScope s_law_mixed):=⟨rfl,rfl,rfl,by decide +kernel,rfl,by decide +kernel,by decide +kernel⟩
theorem ok_law_mixed (D:Def K mg "_law_mixed" s_law_mixed ["_law_script","_law_k"]) (T:Txt K mg G):Ok P w K mg base 1 "_law_mixed" ["_law_script","_law_k"] (sp_law_mixed K):=by
 have S:=sc_law_mixed
 refine D.ok S (fun vs H Q E h=>?_) (fun f cdv A outer s H vs Q E hr h=>?_)
 ·obtain ⟨a,ns,j,rfl,ha,hj,k⟩:=h;rfl
 ·obtain ⟨a,ns,j,rfl,ha,hj,k⟩:=h
  have hu:=hu_of hr
  have c_Board:=T.c_Board
  have n_Board_own_keys:=T.n_Board_own_keys
  have n_Board_octave:=T.n_Board_octave
  have c_Leading:=T.c_Leading
  have n_Leading_ways:=T.n_Leading_ways
  have n_Leading_tone_prices:=T.n_Leading_tone_prices
  have n_Leading_goal_prices:=T.n_Leading_goal_prices
  have n_Leading_goals:=T.n_Leading_goals
  have n_Leading_comers:=T.n_Leading_comers
  refine⟨_,(pss_cons (ps_set (i:=2) S.nd rfl (Or.inl rfl) pe_int) (pss_cons (ps_if (pt_cmpR op_gt (pe_callB (kN_len K rfl) rfl T.b_len PySem.boot_len (pa_cons (pv 0) pa_nil)) pe_int (nomark _)) (pss_one (ps_set (i:=2) S.nd rfl (Or.inl rfl) (pe_ix (kx_seq K rfl) (pv 0) (pe_op op_mod (pv 1) (pe_callB (kN_len K rfl) rfl T.b_len PySem.boot_len (pa_cons (pv 0) pa_nil))) (fun _ _=>rfl)))) pss_nil) (pss_cons (ps_set (i:=3) S.nd rfl (Or.inl rfl) (pe_op op_mod (pe_op op_mul (pe_op op_add (pe_op op_mod (pv 2) pe_int) (pe_op op_mul pe_int (pe_op op_add (pv 1) pe_int))) pe_int) pe_int)) (pss_one (ps_ret (pe_op op_mod (pe_op op_mul (pv 3) pe_int) pe_int)))))),?_⟩
  walk_at "j"
  refine join (fun σ' H'=>∃ c:Int,σ'=[some (.ref a),some (.int j),some (.int c),none]∧H=H') (fun nx kn=>?_) (fun σ' H' hp=>?_)
  ·walk_at "w"
   refine if_both (fun hc=>?_) (fun hc=>?_)
   ·have hpos:0<ns.length:=by simp at hc;lia
    walk_at "v"
    rw [List.length_map]
    walk_at "v"
    have hm0:=Int.emod_nonneg j (show (ns.length:Int)≠0 by lia)
    have hm1:=Int.emod_lt_of_pos j (show (0:Int)<(ns.length:Int) by lia)
    obtain ⟨z,hz⟩:∃ z:Nat,j % (ns.length:Int)=(z:Int):=Int.eq_ofNat_of_zero_le hm0
    rw [hz]
    refine r_ixL ha (atI_nat (int_at (by lia))) ?_
    walk_at "w"
    exact kn _ _ ⟨_,rfl,rfl⟩
   ·walk_at "w"
    exact kn _ _ ⟨_,rfl,rfl⟩
  obtain ⟨c,rfl,rfl⟩:=hp
  walk_at "w"
  exact k _ (by lia)
theorem sc_law_row:FnScope ["_law_number_here","_law_first","_law_half","_law_row_here","_law_digits","_law_k"] ["_law_number_here","_law_first","_law_half"] (defScope s_law_row):=⟨rfl,rfl,rfl,by decide +kernel,rfl,by decide +kernel,by decide +kernel⟩
set_option maxHeartbeats 4000000 in
theorem ok_law_row (D:Def K mg "_law_row" s_law_row ["_law_number_here","_law_first","_law_half"]) (T:Txt K mg G):Ok P w K mg base 1 "_law_row" ["_law_number_here","_law_first","_law_half"] (sp_law_row K):=by
 have S:=sc_law_row
 refine D.ok S (fun vs H Q E h=>?_) (fun f cdv A outer s H vs Q E hr h=>?_)
 ·obtain ⟨n,f,h,rfl,hn,hf,hh,k⟩:=h;rfl
 ·obtain ⟨n,f,h,rfl,hn,hf,hh,k⟩:=h
  have hu:=hu_of hr
  have c_Board:=T.c_Board
  have n_Board_own_keys:=T.n_Board_own_keys
  have n_Board_octave:=T.n_Board_octave
  have c_Leading:=T.c_Leading
  have n_Leading_ways:=T.n_Leading_ways
  have n_Leading_tone_prices:=T.n_Leading_tone_prices
  have n_Leading_goal_prices:=T.n_Leading_goal_prices
  have n_Leading_goals:=T.n_Leading_goals
  have n_Leading_comers:=T.n_Leading_comers
  refine⟨_,(pss_cons (ps_set (i:=3) S.nd rfl (Or.inl rfl) (pe_lst (pa_cons (pe_op op_sub (pe_op op_mod (pv 0) (pe_op op_add (pe_op op_mul pe_int (pv 1)) pe_int)) (pv 1)) pa_nil))) (pss_cons (ps_set (i:=4) S.nd rfl (Or.inl rfl) (pe_op op_fdiv (pv 0) (pe_op op_add (pe_op op_mul pe_int (pv 1)) pe_int))) (pss_cons (ps_for PassesOwn.never rfl (pi_range1 rfl T.b_range (pa_cons pe_int pa_nil)) (pg_name (i:=5) S.nd rfl (Or.inl rfl)) (pss_cons (ps_expr (pe_bm PySem.F.plainAttrs_list PySem.F.slot_list_append PySem.F.type_list_append mt_append (pv 3) (pa_cons (pe_op op_sub (pe_op op_mod (pv 4) (pe_op op_add (pe_op op_mul pe_int (pv 2)) pe_int)) (pv 2)) pa_nil))) (pss_one (ps_set (i:=4) S.nd rfl (Or.inl rfl) (pe_op op_fdivB (pv 4) (pe_op op_add (pe_op op_mul pe_int (pv 2)) pe_int)))))) (pss_one (ps_ret (pe_callTy (kN_tuple K rfl) rfl T.b_tuple PyProof.Rows.boot_tuple (pa_cons (pv 3) pa_nil))))))),?_⟩
  walk_at "w"
  rename_i l H2 n2 s2 m2
  refine f_invR (fun i σ H3=>∃ (o:Option V) (d:Int) (zs:List Int),σ=[some (.int n),some (.int f),some (.int h),some (.ref l),some (.int d),o]∧Same H H3∧H3 l=some (.lst (((n % (2*f+1) - f)::zs).map V.int))∧zs.length=i∧∀ z∈zs,-h≤z∧z≤h) ⟨_,_,[],rfl,s2,m2,rfl,fun _ z=>nomatch z⟩ (fun i σ H3 hi hp=>?_) (fun σ H3 hp=>?_)
  ·obtain ⟨o,d,zs,rfl,s3,m3,hz,hb⟩:=hp
   have hi4:i<4:=hi
   walk_at "w"
   refine r_append m3 (by simp;lia) ?_
   walk_at "w"
   refine r_I (cdivB (by lia) (by lia)) ?_
   walk_at "w"
   refine⟨_,_,zs++[d % (2*h+1) - h],rfl,s3.upd_old n2,by rw [upd_same];simp,by simp [hz],fun z hz=>?_⟩
   rcases List.mem_append.mp hz with q|q
   ·exact hb z q
   ·rw [List.mem_singleton.mp q]
    have g1:=Int.emod_nonneg d (show 2*h+1≠0 by lia)
    have g2:=Int.emod_lt_of_pos d (show 0<2*h+1 by lia)
    lia
  ·obtain ⟨o,d,zs,rfl,s3,m3,hz,hb⟩:=hp
   have g1:=Int.emod_nonneg n (show 2*f+1≠0 by lia)
   have g2:=Int.emod_lt_of_pos n (show 0<2*f+1 by lia)
   match zs,hz,hb,m3 with
   | [z1,z2,z3,z4],_,hb,m3 =>
    walk_at "w"
    exact k _ [_,z1,z2,z3,z4] _ (by walk_at "sm") (by assumption) ⟨_,z1,z2,z3,z4,rfl,by lia,hb _ (by simp),hb _ (by simp),hb _ (by simp),hb _ (by simp)⟩
theorem sc_law_plus:FnScope ["_law_one","_law_other_here"] ["_law_one","_law_other_here"] (defScope s_law_plus):=⟨rfl,rfl,rfl,by decide +kernel,rfl,by decide +kernel,by decide +kernel⟩
theorem ok_law_plus (D:Def K mg "_law_plus" s_law_plus ["_law_one","_law_other_here"]) (T:Txt K mg G):Ok P w K mg base 1 "_law_plus" ["_law_one","_law_other_here"] (sp_law_plus K):=by
 have S:=sc_law_plus
 refine D.ok S (fun vs H Q E h=>?_) (fun f cdv A outer s H vs Q E hr h=>?_)
 ·obtain ⟨a,b,a0,a1,a2,a3,a4,b0,b1,b2,b3,b4,rfl,ha,hb,k⟩:=h;rfl
 ·obtain ⟨a,b,a0,a1,a2,a3,a4,b0,b1,b2,b3,b4,rfl,ha,hb,k⟩:=h
  have hu:=hu_of hr
  have c_Board:=T.c_Board
  have n_Board_own_keys:=T.n_Board_own_keys
  have n_Board_octave:=T.n_Board_octave
  have c_Leading:=T.c_Leading
  have n_Leading_ways:=T.n_Leading_ways
  have n_Leading_tone_prices:=T.n_Leading_tone_prices
  have n_Leading_goal_prices:=T.n_Leading_goal_prices
  have n_Leading_goals:=T.n_Leading_goals
  have n_Leading_comers:=T.n_Leading_comers
  refine⟨_,(pss_one (ps_ret (pe_callTy (kN_tuple K rfl) rfl T.b_tuple PyProof.Rows.boot_tuple (pa_cons (pe_comp (N:=["_law_x","_law_y"]) (ix:=[none,none]) rfl (kpi_zip2 K rfl true true rfl T.b_zip (pa_cons (pv 0) (pa_cons (pv 1) pa_nil))) (fun _ _ _ _ _=>(kpg_tup (n:=2) K rfl rfl (pgs_cons (pg_name (i:=0) (show List.Nodup (["_law_x","_law_y"]:List Str) by decide +kernel) rfl (Or.inl rfl)) (pgs_cons (pg_name (i:=1) (show List.Nodup (["_law_x","_law_y"]:List Str) by decide +kernel) rfl (Or.inl rfl)) pgs_nil)))) (fun _ _ _ _ _=>rfl) (fun _ _ _ _ _=>(pe_op op_add (pv 0) (pv 1))) rfl (by decide +kernel) (by decide +kernel) rfl True.intro) pa_nil)))),?_⟩
  refine⟨_,rfl,_,rfl,a,b,rfl,⟨_,ha⟩,⟨_,hb⟩,rd_zipRows (r:=[a0,a1,a2,a3,a4]) (q:=[b0,b1,b2,b3,b4]) (·+·) rfl ha hb rfl (by show 5≤1000;decide) fun l H' hl hs hl'=>?_⟩
  exact r_tupleL (SqL.of hl') fun p H2 s2 m=>k p H2 (hs.trans s2) m
theorem sc_law_within:FnScope ["_law_row_here","_law_first","_law_half"] ["_law_row_here","_law_first","_law_half"] (defScope s_law_within):=⟨rfl,rfl,rfl,by decide +kernel,rfl,by decide +kernel,by decide +kernel⟩
theorem ok_law_within (D:Def K mg "_law_within" s_law_within ["_law_row_here","_law_first","_law_half"]) (T:Txt K mg G):Ok P w K mg base 1 "_law_within" ["_law_row_here","_law_first","_law_half"] (sp_law_within K):=by
 have S:=sc_law_within
 refine D.ok S (fun vs H Q E h=>?_) (fun f cdv A outer s H vs Q E hr h=>?_)
 ·obtain ⟨a,r,rfl,ha,h5,k⟩:=h;rfl
 ·obtain ⟨a,r,rfl,ha,h5,k⟩:=h
  have hu:=hu_of hr
  have c_Board:=T.c_Board
  have n_Board_own_keys:=T.n_Board_own_keys
  have n_Board_octave:=T.n_Board_octave
  have c_Leading:=T.c_Leading
  have n_Leading_ways:=T.n_Leading_ways
  have n_Leading_tone_prices:=T.n_Leading_tone_prices
  have n_Leading_goal_prices:=T.n_Leading_goal_prices
  have n_Leading_goals:=T.n_Leading_goals
  have n_Leading_comers:=T.n_Leading_comers
  refine⟨_,(pss_one (ps_ret (pe_and (pe_cmpR op_le (pe_callB callN_abs rfl T.b_abs PyProof.Rows.boot_abs (pa_cons (pe_ix (kx_seq K rfl) (pv 0) pe_int (fun _ _=>rfl)) pa_nil)) (pv 1) (nomark _)) (pe_one (pe_cmpR op_le (pe_callB (kN_maxL K rfl rfl) rfl T.b_max PyProof.Rows.boot_max (pa_cons (pe_comp (N:=["_law_number_here"]) (ix:=[none]) rfl (kpi_tup K rfl (pe_slice (ksl_tup K rfl) (pv 0) (po_some pe_int) po_none)) (fun _ _ _ _ _=>(pg_name (i:=0) (show List.Nodup (["_law_number_here"]:List Str) by decide +kernel) rfl (Or.inl rfl))) (fun _ _ _ _ _=>rfl) (fun _ _ _ _ _=>(pe_callB callN_abs rfl T.b_abs PyProof.Rows.boot_abs (pa_cons (pv 0) pa_nil))) rfl (by decide +kernel) (by decide +kernel) rfl True.intro) pa_nil)) (pv 2) (nomark _)))))),?_⟩
  obtain ⟨x0,x1,x2,x3,x4,rfl⟩:∃ x0 x1 x2 x3 x4:Int,r=[x0,x1,x2,x3,x4]:=by
   match r,h5 with
   | [x0,x1,x2,x3,x4],_=>exact⟨x0,x1,x2,x3,x4,rfl⟩
  have ha':SqT K H a [.int x0,.int x1,.int x2,.int x3,.int x4]:=ha
  walk_at "w"
  refine if_both (fun hc=>?_) (fun hc=>?_)
  ·walk_at "w"
   refine rd_mapRow (r:=[x1,x2,x3,x4]) (fun x=>.int (if x<0 then -x else x)) [] rfl (by walk_at "hf") (Nat.le_of_ble_eq_true rfl) (fun x H' Qc _ s kc=>?_) (fun l H2 hl s2 m2=>?_)
   ·walk_at "w"
    exact kc _ (Same.refl _)
   walk_at "w"
   refine r_maxL (ns:=[if x1<0 then -x1 else x1,if x2<0 then -x2 else x2,if x3<0 then -x3 else x3,if x4<0 then -x4 else x4]) (SqL.of m2) (List.cons_ne_nil _ _) fun m hm1 hm2=>?_
   walk_at "w"
   refine k _ _ (by walk_at "sm") fun hm=>?_
   have hm':=of_decide_eq_true hm
   have hc':=of_decide_eq_true hc
   have g1:=hm2 (if x1<0 then -x1 else x1) (by simp)
   have g2:=hm2 (if x2<0 then -x2 else x2) (by simp)
   have g3:=hm2 (if x3<0 then -x3 else x3) (by simp)
   have g4:=hm2 (if x4<0 then -x4 else x4) (by simp)
   exact⟨x0,x1,x2,x3,x4,rfl,by split at hc' <;> lia,by split at g1 <;> lia,by split at g2 <;> lia,by split at g3 <;> lia,by split at g4 <;> lia⟩
  ·exact k false _ (Same.refl _) (fun z=>nomatch z)
theorem sc_law_dot:FnScope ["_law_w","_law_row_here"] ["_law_w","_law_row_here"] (defScope s_law_dot):=⟨rfl,rfl,rfl,by decide +kernel,rfl,by decide +kernel,by decide +kernel⟩
theorem ok_law_dot (D:Def K mg "_law_dot" s_law_dot ["_law_w","_law_row_here"]) (T:Txt K mg G):Ok P w K mg base 1 "_law_dot" ["_law_w","_law_row_here"] (sp_law_dot K):=by
 have S:=sc_law_dot
 refine D.ok S (fun vs H Q E h=>?_) (fun f cdv A outer s H vs Q E hr h=>?_)
 ·obtain ⟨a,b,w,r,rfl,ha,hb,lw,lr,fw,fr,k⟩:=h;rfl
 ·obtain ⟨a,b,w,r,rfl,ha,hb,lw,lr,fw,fr,k⟩:=h
  have hu:=hu_of hr
  have c_Board:=T.c_Board
  have n_Board_own_keys:=T.n_Board_own_keys
  have n_Board_octave:=T.n_Board_octave
  have c_Leading:=T.c_Leading
  have n_Leading_ways:=T.n_Leading_ways
  have n_Leading_tone_prices:=T.n_Leading_tone_prices
  have n_Leading_goal_prices:=T.n_Leading_goal_prices
  have n_Leading_goals:=T.n_Leading_goals
  have n_Leading_comers:=T.n_Leading_comers
  refine⟨_,(pss_one (ps_ret (pe_callB (kN_sum K rfl rfl) rfl T.b_sum PyProof.Rows.boot_sum (pa_cons (pe_comp (N:=["_law_x","_law_y"]) (ix:=[none,none]) rfl (kpi_zip2 K rfl true true rfl T.b_zip (pa_cons (pv 0) (pa_cons (pv 1) pa_nil))) (fun _ _ _ _ _=>(kpg_tup (n:=2) K rfl rfl (pgs_cons (pg_name (i:=0) (show List.Nodup (["_law_x","_law_y"]:List Str) by decide +kernel) rfl (Or.inl rfl)) (pgs_cons (pg_name (i:=1) (show List.Nodup (["_law_x","_law_y"]:List Str) by decide +kernel) rfl (Or.inl rfl)) pgs_nil)))) (fun _ _ _ _ _=>rfl) (fun _ _ _ _ _=>(pe_op op_mulB (pv 0) (pv 1))) rfl (by decide +kernel) (by decide +kernel) rfl True.intro) pa_nil)))),?_⟩
  walk_at "w"
  refine rd_zipM (r:=w) (q:=r) rfl (sqt_sq ha) (sqt_sq hb) (by lia) (by lia) (Few.mul fw fr (by decide) (by lia)) fun l H1 hl1 s1 m1=>?_
  walk_at "w"
  refine r_sum (SqL.of m1) ?_
  have ed:(List.zipWith (·*·) w r).sum=dot r w:=dot_comm w r
  rw [ed]
  exact k _ s1
theorem sc_law_whole:FnScope ["_law_found"] ["_law_found"] (defScope s_law_whole):=⟨rfl,rfl,rfl,by decide +kernel,rfl,by decide +kernel,by decide +kernel⟩
theorem ok_law_whole (D:Def K mg "_law_whole" s_law_whole ["_law_found"]) (T:Txt K mg G):Ok P w K mg base 1 "_law_whole" ["_law_found"] (sp_law_whole K):=by
 have S:=sc_law_whole
 refine D.ok S (fun vs H Q E h=>?_) (fun f cdv A outer s H vs Q E hr h=>?_)
 ·obtain ⟨i,rfl,k⟩:=h;rfl
 ·obtain ⟨i,rfl,k⟩:=h
  have hu:=hu_of hr
  have c_Board:=T.c_Board
  have n_Board_own_keys:=T.n_Board_own_keys
  have n_Board_octave:=T.n_Board_octave
  have c_Leading:=T.c_Leading
  have n_Leading_ways:=T.n_Leading_ways
  have n_Leading_tone_prices:=T.n_Leading_tone_prices
  have n_Leading_goal_prices:=T.n_Leading_goal_prices
  have n_Leading_goals:=T.n_Leading_goals
  have n_Leading_comers:=T.n_Leading_comers
  refine⟨_,(pss_one (ps_ret (pe_and (pe_callB (kN_isinst K rfl) rfl T.b_isinstance PyProof.Rows.boot_isinstance (pa_cons (pv 0) (pa_cons (pe_bltn (v:=V.ty "int") rfl T.b_int PyProof.Rows.boot_int rfl) pa_nil))) (pe_one (pe_not (pe_callB (kN_isinst K rfl) rfl T.b_isinstance PyProof.Rows.boot_isinstance (pa_cons (pv 0) (pa_cons (pe_bltn (v:=V.ty "bool") rfl T.b_bool PyProof.Rows.boot_bool rfl) pa_nil)))))))),?_⟩
  walk_at "w"
  refine iteT ?_
  walk_at "w"
  exact k
theorem sc_Leading_init:FnScope ["self","ways"] ["self","ways"] (defScope s_Leading_init):=⟨rfl,rfl,rfl,by decide +kernel,rfl,by decide +kernel,by decide +kernel⟩
theorem ok_Leading_init (D:DefM K G.f_Leading_init "__init__" "Leading.__init__" s_Leading_init ["self","ways"]) (T:Txt K mg G):OkM P w K mg base 1 G.f_Leading_init ["self","ways"] (sp_Leading_init K):=by
 have S:=sc_Leading_init
 refine D.ok S (fun vs H Q E h=>?_) (fun f cdv A outer s H vs Q E hr h=>?_)
 ·obtain ⟨x,wl,C,dx,n,xs,rfl,hC,hx,hw,hn,h6,k⟩:=h;rfl
 ·obtain ⟨x,wl,C,dx,n,xs,rfl,hC,hx,hw,hn,h6,k⟩:=h
  have hu:=hu_of hr
  have c_Board:=T.c_Board
  have n_Board_own_keys:=T.n_Board_own_keys
  have n_Board_octave:=T.n_Board_octave
  have c_Leading:=T.c_Leading
  have n_Leading_ways:=T.n_Leading_ways
  have n_Leading_tone_prices:=T.n_Leading_tone_prices
  have n_Leading_goal_prices:=T.n_Leading_goal_prices
  have n_Leading_goals:=T.n_Leading_goals
  have n_Leading_comers:=T.n_Leading_comers
  refine⟨_,(pss_cons (kps_fld K rfl (pv 0) (pv 1) rfl) (pss_cons (kps_fld K rfl (pv 0) (pe_comp (N:=["row"]) (ix:=[none]) rfl (kpi_list K rfl (pv 1)) (fun _ _ _ _ _=>(pg_name (i:=0) (show List.Nodup (["row"]:List Str) by decide +kernel) rfl (Or.inl rfl))) (fun _ _ _ _ _=>rfl) (fun _ _ _ _ _=>pe_int) rfl (by decide +kernel) (by decide +kernel) rfl True.intro) rfl) (pss_cons (kps_fld K rfl (pv 0) (pe_comp (N:=["row"]) (ix:=[none]) rfl (kpi_list K rfl (pv 1)) (fun _ _ _ _ _=>(pg_name (i:=0) (show List.Nodup (["row"]:List Str) by decide +kernel) rfl (Or.inl rfl))) (fun _ _ _ _ _=>rfl) (fun _ _ _ _ _=>pe_int) rfl (by decide +kernel) (by decide +kernel) rfl True.intro) rfl) (pss_cons (kps_fld K rfl (pv 0) (pe_comp (N:=["row"]) (ix:=[none]) rfl (kpi_list K rfl (pv 1)) (fun _ _ _ _ _=>(pg_name (i:=0) (show List.Nodup (["row"]:List Str) by decide +kernel) rfl (Or.inl rfl))) (fun _ _ _ _ _=>rfl) (fun _ _ _ _ _=>pe_non) rfl (by decide +kernel) (by decide +kernel) rfl True.intro) rfl) (pss_one (kps_fld K rfl (pv 0) (pe_comp (N:=["row"]) (ix:=[none]) rfl (kpi_list K rfl (pv 1)) (fun _ _ _ _ _=>(pg_name (i:=0) (show List.Nodup (["row"]:List Str) by decide +kernel) rfl (Or.inl rfl))) (fun _ _ _ _ _=>rfl) (fun _ _ _ _ _=>pe_non) rfl (by decide +kernel) (by decide +kernel) rfl True.intro) rfl)))))),?_⟩
  obtain rfl:G.a_Leading=C:=by have:=T.w_Leading;rw [hC] at this;cases this;rfl
  walk_at "w"
  refine r_sfld1 hx c_Leading n_Leading_ways (by show 0<1000;decide) ?_
  have e1:(upd H x (.ins G.a_Leading dx (putF "ways" (.ref wl) []))) x=some (.ins G.a_Leading dx [("ways",.ref wl)]):=upd_same
  have f1:∀ b o,b≠x→H b=some o→(upd H x (.ins G.a_Leading dx (putF "ways" (.ref wl) []))) b=some o:=fun b o n e=>by rw [upd_ne n];exact e
  have g1:∀ b,b≠x→(upd H x (.ins G.a_Leading dx (putF "ways" (.ref wl) []))) b=none→H b=none:=fun b n e=>by rw [upd_ne n] at e;exact e
  generalize upd H x (.ins G.a_Leading dx (putF "ways" (.ref wl) []))=H1 at e1 f1 g1 ⊢
  have w1:SqL K H1 wl xs:=sqL_but hw f1 hx
  walk_at "w"
  refine rd_compL [] (fun _=>.int 0) rfl w1 (by lia) (fun i y H' Qc _ _ kc=>?_) (fun l1 K1 o1 s1 m1=>?_)
  ·walk_at "w"
   exact kc _ (Same.refl _)
  have y1:=s1 _ _ e1
  walk_at "w"
  refine r_sfld1 y1 c_Leading n_Leading_tone_prices (by show 1<1000;decide) ?_
  have d1:l1≠x:=fun z=>by rw [z,e1] at o1;cases o1
  have e2:(upd K1 x (.ins G.a_Leading dx (putF "tone_prices" (.ref l1) [("ways",.ref wl)]))) x=some (.ins G.a_Leading dx [("ways",.ref wl),("tone_prices",.ref l1)]):=upd_same
  have f2:∀ b o,b≠x→H1 b=some o→(upd K1 x (.ins G.a_Leading dx (putF "tone_prices" (.ref l1) [("ways",.ref wl)]))) b=some o:=fun b o n e=>by rw [upd_ne n];exact s1 _ _ e
  have m1':(upd K1 x (.ins G.a_Leading dx (putF "tone_prices" (.ref l1) [("ways",.ref wl)]))) l1=some (.lst ((List.range xs.length).map fun _=>.int 0)):=by rw [upd_ne d1];exact m1
  generalize upd K1 x (.ins G.a_Leading dx (putF "tone_prices" (.ref l1) [("ways",.ref wl)]))=H2 at e2 f2 m1' ⊢
  have w2:SqL K H2 wl xs:=sqL_but w1 f2 e1
  walk_at "w"
  refine rd_compL [] (fun _=>.int 0) rfl w2 (by lia) (fun i y H' Qc _ _ kc=>?_) (fun l2 K2 o2 s2 m2=>?_)
  ·walk_at "w"
   exact kc _ (Same.refl _)
  have y2:=s2 _ _ e2
  walk_at "w"
  refine r_sfld1 y2 c_Leading n_Leading_goal_prices (by show 2<1000;decide) ?_
  have d2:l2≠x:=fun z=>by rw [z,e2] at o2;cases o2
  have e3:(upd K2 x (.ins G.a_Leading dx (putF "goal_prices" (.ref l2) [("ways",.ref wl),("tone_prices",.ref l1)]))) x=some (.ins G.a_Leading dx [("ways",.ref wl),("tone_prices",.ref l1),("goal_prices",.ref l2)]):=upd_same
  have f3:∀ b o,b≠x→H2 b=some o→(upd K2 x (.ins G.a_Leading dx (putF "goal_prices" (.ref l2) [("ways",.ref wl),("tone_prices",.ref l1)]))) b=some o:=fun b o n e=>by rw [upd_ne n];exact s2 _ _ e
  have m2':(upd K2 x (.ins G.a_Leading dx (putF "goal_prices" (.ref l2) [("ways",.ref wl),("tone_prices",.ref l1)]))) l2=some (.lst ((List.range xs.length).map fun _=>.int 0)):=by rw [upd_ne d2];exact m2
  generalize upd K2 x (.ins G.a_Leading dx (putF "goal_prices" (.ref l2) [("ways",.ref wl),("tone_prices",.ref l1)]))=H3 at e3 f3 m2' ⊢
  have w3:SqL K H3 wl xs:=sqL_but w2 f3 e2
  walk_at "w"
  refine rd_compL [] (fun _=>.non) rfl w3 (by lia) (fun i y H' Qc _ _ kc=>?_) (fun l3 K3 o3 s3 m3=>?_)
  ·walk_at "w"
   exact kc _ (Same.refl _)
  have y3:=s3 _ _ e3
  walk_at "w"
  refine r_sfld1 y3 c_Leading n_Leading_goals (by show 3<1000;decide) ?_
  have d3:l3≠x:=fun z=>by rw [z,e3] at o3;cases o3
  have e4:(upd K3 x (.ins G.a_Leading dx (putF "goals" (.ref l3) [("ways",.ref wl),("tone_prices",.ref l1),("goal_prices",.ref l2)]))) x=some (.ins G.a_Leading dx [("ways",.ref wl),("tone_prices",.ref l1),("goal_prices",.ref l2),("goals",.ref l3)]):=upd_same
  have f4:∀ b o,b≠x→H3 b=some o→(upd K3 x (.ins G.a_Leading dx (putF "goals" (.ref l3) [("ways",.ref wl),("tone_prices",.ref l1),("goal_prices",.ref l2)]))) b=some o:=fun b o n e=>by rw [upd_ne n];exact s3 _ _ e
  have m3':(upd K3 x (.ins G.a_Leading dx (putF "goals" (.ref l3) [("ways",.ref wl),("tone_prices",.ref l1),("goal_prices",.ref l2)]))) l3=some (.lst ((List.range xs.length).map fun _=>.non)):=by rw [upd_ne d3];exact m3
  generalize upd K3 x (.ins G.a_Leading dx (putF "goals" (.ref l3) [("ways",.ref wl),("tone_prices",.ref l1),("goal_prices",.ref l2)]))=H4 at e4 f4 m3' ⊢
  have w4:SqL K H4 wl xs:=sqL_but w3 f4 e3
  walk_at "w"
  refine rd_compL [] (fun _=>.non) rfl w4 (by lia) (fun i y H' Qc _ _ kc=>?_) (fun l4 K4 o4 s4 m4=>?_)
  ·walk_at "w"
   exact kc _ (Same.refl _)
  have y4:=s4 _ _ e4
  walk_at "w"
  refine r_sfld1 y4 c_Leading n_Leading_comers (by show 4<1000;decide) ?_
  have d4:l4≠x:=fun z=>by rw [z,e4] at o4;cases o4
  have e5:(upd K4 x (.ins G.a_Leading dx (putF "comers" (.ref l4) [("ways",.ref wl),("tone_prices",.ref l1),("goal_prices",.ref l2),("goals",.ref l3)]))) x=some (.ins G.a_Leading dx [("ways",.ref wl),("tone_prices",.ref l1),("goal_prices",.ref l2),("goals",.ref l3),("comers",.ref l4)]):=upd_same
  have f5:∀ b o,b≠x→H4 b=some o→(upd K4 x (.ins G.a_Leading dx (putF "comers" (.ref l4) [("ways",.ref wl),("tone_prices",.ref l1),("goal_prices",.ref l2),("goals",.ref l3)]))) b=some o:=fun b o n e=>by rw [upd_ne n];exact s4 _ _ e
  have m4':(upd K4 x (.ins G.a_Leading dx (putF "comers" (.ref l4) [("ways",.ref wl),("tone_prices",.ref l1),("goal_prices",.ref l2),("goals",.ref l3)]))) l4=some (.lst ((List.range xs.length).map fun _=>.non)):=by rw [upd_ne d4];exact m4
  generalize upd K4 x (.ins G.a_Leading dx (putF "comers" (.ref l4) [("ways",.ref wl),("tone_prices",.ref l1),("goal_prices",.ref l2),("goals",.ref l3)]))=H5 at e5 f5 m4' ⊢
  have w5:SqL K H5 wl xs:=sqL_but w4 f5 e4
  have q1:H l1=none:=g1 _ d1 o1
  have b1:∀ b,b≠x→H2 b=none→H1 b=none:=fun b n e=>by
   match h:H1 b with
   | none=>rfl
   | some o=>rw [f2 b o n h] at e;cases e
  have b2:∀ b,b≠x→H3 b=none→H2 b=none:=fun b n e=>by
   match h:H2 b with
   | none=>rfl
   | some o=>rw [f3 b o n h] at e;cases e
  have b3:∀ b,b≠x→H4 b=none→H3 b=none:=fun b n e=>by
   match h:H3 b with
   | none=>rfl
   | some o=>rw [f4 b o n h] at e;cases e
  have q2:=g1 _ d2 (b1 _ d2 o2)
  have q3:=g1 _ d3 (b1 _ d3 (b2 _ d3 o3))
  have q4:=g1 _ d4 (b1 _ d4 (b2 _ d4 (b3 _ d4 o4)))
  have h1:=f5 _ _ d1 (f4 _ _ d1 (f3 _ _ d1 m1'))
  have h2:=f5 _ _ d2 (f4 _ _ d2 m2')
  have h3:=f5 _ _ d3 m3'
  subst hn
  exact k l1 l2 l3 l4 H5 (fun b o n e=>f5 _ _ n (f4 _ _ n (f3 _ _ n (f2 _ _ n (f1 _ _ n e))))) q1 q2 q3 q4 (fun z=>by rw [← z,m1'] at o2;cases o2) (fun z=>by rw [← z,f3 _ _ d1 m1'] at o3;cases o3) (fun z=>by rw [← z,f4 _ _ d1 (f3 _ _ d1 m1')] at o4;cases o4) (fun z=>by rw [← z,m2'] at o3;cases o3) (fun z=>by rw [← z,f4 _ _ d2 m2'] at o4;cases o4) (fun z=>by rw [← z,m3'] at o4;cases o4) e5 h1 h2 h3 m4'
theorem sc_Leading_room:FnScope ["self","tone","goal"] ["self","tone","goal"] (defScope s_Leading_room):=⟨rfl,rfl,rfl,by decide +kernel,rfl,by decide +kernel,by decide +kernel⟩
theorem ok_Leading_room (D:DefM K G.f_Leading_room "room" "Leading.room" s_Leading_room ["self","tone","goal"]) (T:Txt K mg G):OkM P w K mg base 1 G.f_Leading_room ["self","tone","goal"] (sp_Leading_room K):=by
 have S:=sc_Leading_room
 refine D.ok S (fun vs H Q E h=>?_) (fun f cdv A outer s H vs Q E hr h=>?_)
 ·obtain ⟨H0,x,wl,au,av,ag,ac,n,wy,u,v,g,c,t,j,rfl,hL,ht,hj,k⟩:=h;rfl
 ·obtain ⟨H0,x,wl,au,av,ag,ac,n,wy,u,v,g,c,t,j,rfl,hL,ht,hj,k⟩:=h
  have hu:=hu_of hr
  have c_Board:=T.c_Board
  have n_Board_own_keys:=T.n_Board_own_keys
  have n_Board_octave:=T.n_Board_octave
  have c_Leading:=T.c_Leading
  have n_Leading_ways:=T.n_Leading_ways
  have n_Leading_tone_prices:=T.n_Leading_tone_prices
  have n_Leading_goal_prices:=T.n_Leading_goal_prices
  have n_Leading_goals:=T.n_Leading_goals
  have n_Leading_comers:=T.n_Leading_comers
  refine⟨_,(pss_one (ps_ret (pe_op op_sub (pe_op op_sub (pe_ix (kx_seq K rfl) (pe_ix (kx_seq K rfl) (pe_ix (kx_seq K rfl) (kpe_fld K rfl (pv 0) rfl) (pv 1) (fun _ _=>rfl)) (pv 2) (fun _ _=>rfl)) pe_int (fun _ _=>rfl)) (pe_ix (kx_seq K rfl) (kpe_fld K rfl (pv 0) rfl) (pv 1) (fun _ _=>rfl))) (pe_ix (kx_seq K rfl) (kpe_fld K rfl (pv 0) rfl) (pv 2) (fun _ _=>rfl))))),?_⟩
  obtain ⟨C,dx,hC,hx⟩:=hL.ins
  obtain rfl:G.a_Leading=C:=by have:=T.w_Leading;rw [hC] at this;cases this;rfl
  obtain ⟨xs,w1,w2,w3⟩:=hL.waysAt
  obtain ⟨ra,ys,e1,e2,e3,e4⟩:=w3 t ht
  obtain ⟨p,f1,f2⟩:=e4 j hj
  obtain ⟨a,b,hw⟩:=hL.two t j
  have hlu:=SqL.of (K:=K) hL.lu
  have hlv:=SqL.of (K:=K) hL.lv
  walk_at "v"
  refine r_ixL w1 (atI_nat e1) ?_
  walk_at "v"
  refine r_ixL e2 (atI_nat f1) ?_
  walk_at "v"
  refine r_ixT f2 (atI_nat (j:=0) (v:=.int (Wof wy t j)) (by rw [show Wof wy t j=(wy t j).getD 0 0 from rfl,hw];rfl)) ?_
  walk_at "v"
  refine r_ixL hlu (lsI_at ht) ?_
  walk_at "v"
  refine r_ixL hlv (lsI_at hj) ?_
  walk_at "v"
  exact k _ (Same.refl _)
theorem sc_Leading_shift:FnScope ["self","tones","origins","amount","tone","goal"] ["self","tones","origins","amount"] (defScope s_Leading_shift):=⟨rfl,rfl,rfl,by decide +kernel,rfl,by decide +kernel,by decide +kernel⟩
theorem ok_Leading_shift (D:DefM K G.f_Leading_shift "shift" "Leading.shift" s_Leading_shift ["self","tones","origins","amount"]) (T:Txt K mg G):OkM P w K mg base 1 G.f_Leading_shift ["self","tones","origins","amount"] (sp_Leading_shift K):=by
 have S:=sc_Leading_shift
 refine D.ok S (fun vs H Q E h=>?_) (fun f cdv A outer s H vs Q E hr h=>?_)
 ·obtain ⟨H0,x,wl,au,av,ag,ac,n,wy,u,v,g,c,ta,d,ts,os,a,rfl,hL,hta,n1,n2,hd,h0d,hlt,nd,ndk,hlk,k⟩:=h;rfl
 ·obtain ⟨H0,x,wl,au,av,ag,ac,n,wy,u,v,g,c,ta,d,ts,os,a,rfl,hL,hta,n1,n2,hd,h0d,hlt,nd,ndk,hlk,k⟩:=h
  have hu:=hu_of hr
  have c_Board:=T.c_Board
  have n_Board_own_keys:=T.n_Board_own_keys
  have n_Board_octave:=T.n_Board_octave
  have c_Leading:=T.c_Leading
  have n_Leading_ways:=T.n_Leading_ways
  have n_Leading_tone_prices:=T.n_Leading_tone_prices
  have n_Leading_goal_prices:=T.n_Leading_goal_prices
  have n_Leading_goals:=T.n_Leading_goals
  have n_Leading_comers:=T.n_Leading_comers
  refine⟨_,(pss_cons (ps_for PassesOwn.never rfl (kpi_list K rfl (pv 1)) (pg_name (i:=4) S.nd rfl (Or.inl rfl)) (pss_one (ps_asg (pe_op op_add (pe_ix (kx_seq K rfl) (kpe_fld K rfl (pv 0) rfl) (pv 4) (fun _ _=>rfl)) (pv 3)) (pg_sub (kpe_fld K rfl (pv 0) rfl) (pv 4) set_list)))) (pss_one (ps_forD PassesOwn.never rfl (pv 2) (pg_name (i:=5) S.nd rfl (Or.inl rfl)) (pss_one (ps_asg (pe_op op_sub (pe_ix (kx_seq K rfl) (kpe_fld K rfl (pv 0) rfl) (pv 5) (fun _ _=>rfl)) (pv 3)) (pg_sub (kpe_fld K rfl (pv 0) rfl) (pv 5) set_list)))))),?_⟩
  obtain ⟨C,dx,hC,hx⟩:=hL.ins
  obtain rfl:G.a_Leading=C:=by have:=T.w_Leading;rw [hC] at this;cases this;rfl
  walk_at "v"
  refine f_invL (xs:=lsN ts) (fun i σ' H'=>∃ o4:Option V,σ'=[some (.ref x),some (.ref ta),some (.ref d),some (.int a),o4,none]∧LdS K H0 H' x wl au av ag ac n wy (Mat.up (ts.take i) a u) v g c∧(∀ b o,b≠au→H b=some o→H' b=some o)) ⟨none,rfl,by rw [List.take_zero,up_nil];exact hL,fun _ _ _ e=>e⟩ (fun i σ' H' hP=>?_) (fun i y σ' H2 hy hP=>?_) (fun σ' H2 hP=>?_)
  ·obtain ⟨o4,_,_,f⟩:=hP
   exact SqL.of (f _ _ n1 hta)
  ·obtain ⟨o4,rfl,hL2,f⟩:=hP
   obtain ⟨t,hy',rfl⟩:=lsN_get hy
   have ht:=hlt t (List.mem_of_getElem? hy')
   obtain ⟨C2,dx2,hC2,hx2⟩:=hL2.ins
   obtain rfl:G.a_Leading=C2:=by have:=T.w_Leading;rw [hC2] at this;cases this;rfl
   walk_at "v"
   refine r_ixL (SqL.of hL2.lu) (lsI_at ht) ?_
   walk_at "v"
   refine r_setL hL2.lu (lsI_ix ht) ?_
   rw [lsI_set (u':=Mat.up (ts.take (i+1)) a u) (fun k _=>by rw [take_snoc hy'];exact up_snoc (not_take nd hy') k)]
   exact⟨_,rfl,hL2.setu,fun b o nb e=>by rw [upd_ne nb];exact f b o nb e⟩
  obtain ⟨o4,rfl,hL2,f⟩:=hP
  rw [lsN_len,List.take_length] at hL2
  have du:d≠au:=fun z=>by rw [z,hL.lu] at hd;cases hd
  have hd2:=f _ _ du hd
  walk_at "v"
  refine⟨d,kvO os,rfl,hd2,fun o th=>?_⟩
  have hLz:=hL2.offd (o':=DzO d o) h0d hd2 (fun _=>HO.noConfusion) (fun _ _ _=>HO.noConfusion)
  refine f_dictK th (fun i σ' H'=>∃ o5:Option V,σ'=[some (.ref x),some (.ref ta),some (.ref d),some (.int a),o4,o5]∧LdS K H0 H' x wl au av ag ac n wy (Mat.up ts a u) (Mat.up ((os.map Prod.fst).take i) (-a) v) g c∧H' d=some (DzO d o)∧(∀ b o,b≠au→b≠av→b≠d→H b=some o→H' b=some o)) ⟨none,rfl,by rw [List.take_zero,up_nil];exact hLz,upd_same,fun b o' nb _ nd' e=>by rw [upd_ne nd'];exact f b o' nb e⟩ (fun i σ' H' hP=>?_) (fun i p σ' H2 hy hP=>?_) (fun σ' H2 hP=>?_)
  ·obtain ⟨_,_,_,e,_⟩:=hP
   exact e
  ·obtain ⟨o5,rfl,hL3,ed,f3⟩:=hP
   obtain ⟨q,hq,rfl⟩:=kvO_get hy
   have ht:=hlk q (List.mem_of_getElem? hq)
   have hq':(os.map Prod.fst)[i]?=some q.1:=by rw [List.getElem?_map,hq];rfl
   obtain ⟨C2,dx2,hC2,hx2⟩:=hL3.ins
   obtain rfl:G.a_Leading=C2:=by have:=T.w_Leading;rw [hC2] at this;cases this;rfl
   have dv:d≠av:=fun z=>by rw [z,hL3.lv] at ed;cases ed
   show gName 5 (.int (q.1:Int)) _ _ _
   walk_at "v"
   refine r_ixL (SqL.of hL3.lv) (lsI_at ht) ?_
   walk_at "v"
   refine r_setL hL3.lv (lsI_ix ht) ?_
   rw [lsI_set (u':=Mat.up ((os.map Prod.fst).take (i+1)) (-a) v) (fun k _=>by rw [take_snoc hq',Int.sub_eq_add_neg];exact up_snoc (not_take ndk hq') k)]
   exact⟨_,rfl,hL3.setv,by rw [upd_ne dv];exact ed,fun b o nb nv ndd e=>by rw [upd_ne nv];exact f3 b o nb nv ndd e⟩
  obtain ⟨o5,rfl,hL3,ed,f3⟩:=hP
  rw [kvO_len,← List.length_map (f:=Prod.fst),List.take_length] at hL3
  have hL4:=hL3.offd (o':=.dK (kvO os)) h0d ed (fun _=>HO.noConfusion) (fun _ _ _=>HO.noConfusion)
  refine k _ (fun b o' nu nv e=>?_) hL4
  by_cases eb:b=d
  ·subst eb
   rw [hd] at e
   cases e
   exact upd_same
  ·rw [upd_ne eb]
   exact f3 b o' nu nv eb e
theorem sc_Leading_turn:FnScope ["self","goal","origins","free","tone","left"] ["self","goal","origins"] (defScope s_Leading_turn):=⟨rfl,rfl,rfl,by decide +kernel,rfl,by decide +kernel,by decide +kernel⟩
theorem ok_Leading_turn (D:DefM K G.f_Leading_turn "turn" "Leading.turn" s_Leading_turn ["self","goal","origins"]) (T:Txt K mg G):OkM P w K mg base 1 G.f_Leading_turn ["self","goal","origins"] (sp_Leading_turn K):=by
 have S:=sc_Leading_turn
 refine D.ok S (fun vs H Q E h=>?_) (fun f cdv A outer s H vs Q E hr h=>?_)
 ·obtain ⟨H0,x,wl,au,av,ag,ac,n,wy,u,v,g,c,d,ts,os,first,f,i,rfl,hL,hT,hd,hM,hR,gf,hN,k⟩:=h;rfl
 ·obtain ⟨H0,x,wl,au,av,ag,ac,n,wy,u,v,g,c,d,ts,os,first,f,i,rfl,hL,hT,hd,hM,hR,gf,hN,k⟩:=h
  have hu:=hu_of hr
  have c_Board:=T.c_Board
  have n_Board_own_keys:=T.n_Board_own_keys
  have n_Board_octave:=T.n_Board_octave
  have c_Leading:=T.c_Leading
  have n_Leading_ways:=T.n_Leading_ways
  have n_Leading_tone_prices:=T.n_Leading_tone_prices
  have n_Leading_goal_prices:=T.n_Leading_goal_prices
  have n_Leading_goals:=T.n_Leading_goals
  have n_Leading_comers:=T.n_Leading_comers
  refine⟨_,(pss_cons (ps_set (i:=3) S.nd rfl (Or.inl rfl) (pv 1)) (pss_one (ps_while PassesOwn.never (pt_cmpR op_notN (pv 3) pe_non (nomark _)) (pss_cons (ps_set (i:=4) S.nd rfl (Or.inl rfl) (pe_ix (ix_dictK (Nat.lt_of_le_of_lt (Nat.add_le_add_left (by decide) _) hr.units)) (pv 2) (pv 3) (fun _ _=>rfl))) (pss_cons (ps_set (i:=5) S.nd rfl (Or.inl rfl) (pe_ix (kx_seq K rfl) (kpe_fld K rfl (pv 0) rfl) (pv 4) (fun _ _=>rfl))) (pss_cons (ps_asg (pv 3) (pg_sub (kpe_fld K rfl (pv 0) rfl) (pv 4) set_list)) (pss_cons (ps_asg (pv 4) (pg_sub (kpe_fld K rfl (pv 0) rfl) (pv 3) set_list)) (pss_one (ps_set (i:=3) S.nd rfl (Or.inl rfl) (pv 5)))))))))),?_⟩
  obtain ⟨C,dx,hC,hx⟩:=hL.ins
  obtain rfl:G.a_Leading=C:=by have:=T.w_Leading;rw [hC] at this;cases this;rfl
  walk_at "v"
  refine f_while (fun m σ' H'=>∃ (o4 o5:Option V) (f':Option Nat) (i':Nat) (g' c':Nat→Option Nat),σ'=[some (.ref x),some (.int (f:Int)),some (.ref d),some (oV f'),o4,o5]∧LdS K H0 H' x wl au av ag ac n wy u v g' c'∧TabL K H'∧H' d=some (.dK (kvO os))∧((∃ f1 i1,f'=some f1∧i1+1=m∧Mat.Tn n (Wof wy) u v g ts os g' c' f1 i1)∨(f'=none∧Mat.Mt n (Wof wy) u v g' c'∧∀ t,(g' t).isSome=true↔(g t).isSome=true∨t=first))) (i+1) ⟨none,none,some f,i,g,c,rfl,hL,hT,hd,.inl ⟨f,i,rfl,rfl,hN⟩⟩ (fun m σ' H' hP=>?_)
  obtain ⟨o4,o5,f',i',g',c',rfl,hL2,hT2,hd2,hc⟩:=hP
  rcases hc with ⟨f1,i1,rfl,rfl,hN2⟩|⟨rfl,hM2,hdom⟩
  ·walk_at "v"
   refine⟨rfl,?_⟩
   rw [show (!decide (oV (some f1)=V.non))=true from rfl]
   walk_at "v"
   rw [if_pos rfl]
   refine w_go ?_
   obtain ⟨o,ho⟩:=hN2.pl
   have hon:o<n:=by
    have:=hR.orig i1 _ ho
    exact hR.lt o (List.mem_of_mem_take this)
   have hfn:f1<n:=hR.ltk _ (List.mem_of_getElem? ho)
   obtain ⟨C2,dx2,hC2,hx2⟩:=hL2.ins
   obtain rfl:G.a_Leading=C2:=by have:=T.w_Leading;rw [hC2] at this;cases this;rfl
   walk_at "v"
   refine r_ixK hd2 (kv_at hR.ndk ho) ?_
   walk_at "v"
   refine r_ixL (SqL.of hL2.lg) (lsO_at hon) ?_
   walk_at "v"
   refine r_setL (v:=oV (some f1)) hL2.lg (lsO_ix hon) ?_
   rw [lsO_set]
   have hL3:=hL2.setg (g':=Mat.st g' o (some f1))
   have hT3:=hT2.off (zs:=lsO n (Mat.st g' o (some f1))) hL2.lg
   have hd3:(upd H' ag (.lst (lsO n (Mat.st g' o (some f1))))) d=some (.dK (kvO os)):=by rw [upd_ne (fun z=>by rw [z,hL2.lg] at hd2;cases hd2)];exact hd2
   generalize upd H' ag (.lst (lsO n (Mat.st g' o (some f1))))=H3 at hL3 hT3 hd3 ⊢
   obtain ⟨C3,dx3,hC3,hx3⟩:=hL3.ins
   obtain rfl:G.a_Leading=C3:=by have:=T.w_Leading;rw [hC3] at this;cases this;rfl
   walk_at "v"
   refine r_setL (v:=oV (some o)) hL3.lc (lsO_ix hfn) ?_
   rw [lsO_set]
   have hL4:=hL3.setc (c':=Mat.st c' f1 (some o))
   have hT4:=hT3.off (zs:=lsO n (Mat.st c' f1 (some o))) hL3.lc
   have hd4:(upd H3 ac (.lst (lsO n (Mat.st c' f1 (some o))))) d=some (.dK (kvO os)):=by rw [upd_ne (fun z=>by rw [z,hL3.lc] at hd3;cases hd3)];exact hd3
   generalize upd H3 ac (.lst (lsO n (Mat.st c' f1 (some o))))=H4 at hL4 hT4 hd4 ⊢
   walk_at "v"
   rcases Mat.Tn.step hR hM gf hN2 ho with ⟨b,i2,e1,e2,e3⟩|⟨e1,e2,e3⟩
   ·exact⟨i2+1,by lia,_,_,g' o,i2,_,_,rfl,hL4,hT4,hd4,.inl ⟨b,i2,e1,rfl,e3⟩⟩
   ·exact⟨0,by lia,_,_,g' o,0,_,_,rfl,hL4,hT4,hd4,.inr ⟨e1,e2,e3⟩⟩
  ·walk_at "v"
   refine⟨rfl,?_⟩
   rw [show (!decide (oV none=V.non))=false from rfl]
   walk_at "v"
   rw [if_neg (by decide)]
   exact k H' g' c' hT2 hL2 hM2 hdom
theorem sc_value:FnScope ["key","row","total"] ["key","row"] (defScope s_value):=⟨rfl,rfl,rfl,by decide +kernel,rfl,by decide +kernel,by decide +kernel⟩
structure Os_value (P:Program) (w:World) (K:PySem.W.Frag) (mg:Str→Option Value) (base:Heap) (G:Adr):Prop where
 heard:Ok P w K mg base 1 "heard" ["weights","row"] (sp_heard K)
theorem ok_value (D:Def K mg "value" s_value ["key","row"]) (T:Txt K mg G) (O:Os_value P w K mg base G):Ok P w K mg base 2 "value" ["key","row"] (sp_value K):=by
 have S:=sc_value
 refine D.ok S (fun vs H Q E h=>?_) (fun f cdv A outer s H vs Q E hr h=>?_)
 ·obtain ⟨kk,w,r,m,ws,rs,rfl,hk,hw,hra,hl,hn,hm,h0,k⟩:=h;rfl
 ·obtain ⟨kk,w,r,m,ws,rs,rfl,hk,hw,hra,hl,hn,hm,h0,k⟩:=h
  have hu:=hu_of hr
  have c_Board:=T.c_Board
  have n_Board_own_keys:=T.n_Board_own_keys
  have n_Board_octave:=T.n_Board_octave
  have c_Leading:=T.c_Leading
  have n_Leading_ways:=T.n_Leading_ways
  have n_Leading_tone_prices:=T.n_Leading_tone_prices
  have n_Leading_goal_prices:=T.n_Leading_goal_prices
  have n_Leading_goals:=T.n_Leading_goals
  have n_Leading_comers:=T.n_Leading_comers
  refine⟨_,(pss_cons (ps_set (i:=2) S.nd rfl (Or.inl rfl) (pcall O.heard (hr.mono (by decide)) (pa_cons (pe_ix (kx_seq K rfl) (pv 0) pe_int (fun _ _=>rfl)) (pa_cons (pv 1) pa_nil)))) (pss_one (ps_ret (pe_ifExp (pt_cmpR op_eq (pe_ix (kx_seq K rfl) (pv 0) pe_int (fun _ _=>rfl)) pe_int (nomark _)) (pv 2) (pe_op op_mod (pv 2) (pe_ix (kx_seq K rfl) (pv 0) pe_int (fun _ _=>rfl))))))),?_⟩
  walk_at "w"
  refine c_heard ws rs hw hra hl hn hm fun H1 s1=>?_
  walk_at "w"
  refine if_both (fun hc=>?_) (fun hc=>?_)
  ·walk_at "w"
   unfold val at k
   rw [if_pos (of_decide_eq_true hc)] at k
   exact k _ s1
  ·have hz:m≠0:=of_decide_eq_false hc
   unfold val at k
   rw [if_neg hz] at k
   walk_at "w"
   exact k _ s1
theorem sc_law_number:FnScope ["_law_script","_law_k","_law_number_here","_law_turn"] ["_law_script","_law_k"] (defScope s_law_number):=⟨rfl,rfl,rfl,by decide +kernel,rfl,by decide +kernel,by decide +kernel⟩
structure Os_law_number (P:Program) (w:World) (K:PySem.W.Frag) (mg:Str→Option Value) (base:Heap) (G:Adr):Prop where
 law_mixed:Ok P w K mg base 1 "_law_mixed" ["_law_script","_law_k"] (sp_law_mixed K)
set_option maxHeartbeats 4000000 in
theorem ok_law_number (D:Def K mg "_law_number" s_law_number ["_law_script","_law_k"]) (T:Txt K mg G) (O:Os_law_number P w K mg base G):Ok P w K mg base 2 "_law_number" ["_law_script","_law_k"] (sp_law_number K):=by
 have S:=sc_law_number
 refine D.ok S (fun vs H Q E h=>?_) (fun f cdv A outer s H vs Q E hr h=>?_)
 ·obtain ⟨a,ns,j,rfl,ha,hj,k⟩:=h;rfl
 ·obtain ⟨a,ns,j,rfl,ha,hj,k⟩:=h
  have hu:=hu_of hr
  have c_Board:=T.c_Board
  have n_Board_own_keys:=T.n_Board_own_keys
  have n_Board_octave:=T.n_Board_octave
  have c_Leading:=T.c_Leading
  have n_Leading_ways:=T.n_Leading_ways
  have n_Leading_tone_prices:=T.n_Leading_tone_prices
  have n_Leading_goal_prices:=T.n_Leading_goal_prices
  have n_Leading_goals:=T.n_Leading_goals
  have n_Leading_comers:=T.n_Leading_comers
  refine⟨_,(pss_cons (ps_set (i:=2) S.nd rfl (Or.inl rfl) pe_int) (pss_cons (ps_if (PW.pt (pw_and (pt_cmpR op_gt (pe_callB (kN_len K rfl) rfl T.b_len PySem.boot_len (pa_cons (pv 0) pa_nil)) pe_int (nomark _)) (pw_and1 (pt_cmpR op_eq (pe_op op_mod (pe_ix (kx_seq K rfl) (pv 0) pe_int (fun _ _=>rfl)) pe_int) pe_int (nomark _))))) (pss_cons (ps_if (pt_cmpR op_lt (pv 1) (pe_callB (kN_len K rfl) rfl T.b_len PySem.boot_len (pa_cons (pv 0) pa_nil)) (nomark _)) (pss_one (ps_set (i:=2) S.nd rfl (Or.inl rfl) (pe_op op_fdiv (pe_op op_mod (pe_ix (kx_seq K rfl) (pv 0) (pv 1) (fun _ _=>rfl)) (pe_op op_mul pe_int (pe_op op_pow pe_int pe_int))) (pe_op op_sub pe_int (pe_callB (callN_min rfl) rfl T.b_min PyProof.Rows.boot_min (pa_cons (pv 1) (pa_cons pe_int pa_nil))))))) pss_nil) (pss_one (ps_ret (pv 2)))) pss_nil) (pss_cons (ps_for PassesOwn.never rfl (pi_range1 rfl T.b_range (pa_cons pe_int pa_nil)) (pg_name (i:=3) S.nd rfl (Or.inl rfl)) (pss_one (ps_set (i:=2) S.nd rfl (Or.inl rfl) (pe_op op_add (pe_op op_mul (pv 2) pe_int) (pcall O.law_mixed (hr.mono (by decide)) (pa_cons (pv 0) (pa_cons (pe_op op_add (pe_op op_mul pe_int (pv 1)) (pv 3)) pa_nil))))))) (pss_one (ps_ret (pe_op op_mod (pv 2) (pe_op op_pow pe_int pe_int))))))),?_⟩
  walk_at "j"
  refine join (fun σ' H'=>σ'=[some (.ref a),some (.int j),some (.int 0),none]∧H=H') (fun nx kn=>?_) (fun σ' H' hp=>?_)
  ·walk_at "w"
   refine if_both (fun hc=>?_) (fun hc=>?_)
   ·have hpos:0<ns.length:=by simp at hc;lia
    walk_at "v"
    refine r_ixL ha (atI_nat (j:=0) (int_at hpos)) ?_
    walk_at "w"
    refine if_both (fun hc2=>?_) (fun hc2=>?_)
    ·walk_at "j"
     refine join (fun σ' H'=>∃ n:Int,σ'=[some (.ref a),some (.int j),some (.int n),none]∧H=H'∧0≤n∧n≤2*10 ^ 60) (fun nx2 kn2=>?_) (fun σ' H' hp=>?_)
     ·walk_at "w"
      refine if_both (fun hc3=>?_) (fun hc3=>?_)
      ·obtain ⟨i,rfl⟩:=Int.eq_ofNat_of_zero_le hj.1
       have hlt:i<ns.length:=by simp at hc3;lia
       walk_at "v"
       refine r_ixL ha (atI_nat (int_at hlt)) ?_
       walk_at "w"
       refine kn2 _ _ ⟨_,rfl,rfl,num_div (B:=2*10 ^ 60) (Int.emod_nonneg _ (by decide)) (Int.le_of_lt (Int.emod_lt_of_pos _ (by decide))) ?_⟩
       split <;> lia
      ·walk_at "w"
       exact kn2 _ _ ⟨_,rfl,rfl,by decide,by decide⟩
     obtain ⟨n,rfl,rfl,h1,h2⟩:=hp
     walk_at "w"
     exact k _ ⟨h1,h2⟩
    ·walk_at "w"
     exact kn _ _ ⟨rfl,rfl⟩
   ·walk_at "w"
    exact kn _ _ ⟨rfl,rfl⟩
  obtain ⟨rfl,rfl⟩:=hp
  walk_at "w"
  refine f_invR (fun i σ H3=>∃ (n:Int) (o:Option V),σ=[some (.ref a),some (.int j),some (.int n),o]∧H=H3∧0≤n) ⟨_,_,rfl,rfl,by decide⟩ (fun i σ H3 hi hp=>?_) (fun σ H3 hp=>?_)
  ·obtain ⟨n,o,rfl,rfl,h1⟩:=hp
   have hi7:i<7:=hi
   walk_at "w"
   refine c_law_mixed ha (by lia) fun m hm=>?_
   walk_at "w"
   exact⟨_,_,rfl,rfl,by lia⟩
  ·obtain ⟨n,o,rfl,rfl,h1⟩:=hp
   walk_at "w"
   exact k _ ⟨Int.emod_nonneg _ (by decide),Int.le_trans (Int.le_of_lt (Int.emod_lt_of_pos _ (by decide))) (show (10:Int) ^ Int.toNat 60≤2*10 ^ 60 by decide)⟩
theorem sc_law_tone:FnScope ["_law_number_here","_law_kind","_law_row_here"] ["_law_number_here","_law_kind"] (defScope s_law_tone):=⟨rfl,rfl,rfl,by decide +kernel,rfl,by decide +kernel,by decide +kernel⟩
structure Os_law_tone (P:Program) (w:World) (K:PySem.W.Frag) (mg:Str→Option Value) (base:Heap) (G:Adr):Prop where
 law_row:Ok P w K mg base 1 "_law_row" ["_law_number_here","_law_first","_law_half"] (sp_law_row K)
set_option maxHeartbeats 4000000 in
theorem ok_law_tone (D:Def K mg "_law_tone" s_law_tone ["_law_number_here","_law_kind"]) (T:Txt K mg G) (O:Os_law_tone P w K mg base G):Ok P w K mg base 2 "_law_tone" ["_law_number_here","_law_kind"] (sp_law_tone K):=by
 have S:=sc_law_tone
 refine D.ok S (fun vs H Q E h=>?_) (fun f cdv A outer s H vs Q E hr h=>?_)
 ·obtain ⟨c,j,rfl,hc,k⟩:=h;rfl
 ·obtain ⟨c,j,rfl,hc,k⟩:=h
  have hu:=hu_of hr
  have c_Board:=T.c_Board
  have n_Board_own_keys:=T.n_Board_own_keys
  have n_Board_octave:=T.n_Board_octave
  have c_Leading:=T.c_Leading
  have n_Leading_ways:=T.n_Leading_ways
  have n_Leading_tone_prices:=T.n_Leading_tone_prices
  have n_Leading_goal_prices:=T.n_Leading_goal_prices
  have n_Leading_goals:=T.n_Leading_goals
  have n_Leading_comers:=T.n_Leading_comers
  refine⟨_,(pss_cons (ps_if (pt_cmpR op_eq (pv 1) pe_int (nomark _)) (pss_one (ps_ret (pcall O.law_row (hr.mono (by decide)) (pa_cons (pv 0) (pa_cons pe_int (pa_cons pe_int pa_nil)))))) pss_nil) (pss_cons (ps_if (pt_cmpR op_eq (pv 1) pe_int (nomark _)) (pss_one (ps_ret (pcall O.law_row (hr.mono (by decide)) (pa_cons (pv 0) (pa_cons pe_int (pa_cons pe_int pa_nil)))))) pss_nil) (pss_cons (ps_if (pt_cmpR op_eq (pv 1) pe_int (nomark _)) (pss_one (ps_ret (pcall O.law_row (hr.mono (by decide)) (pa_cons (pv 0) (pa_cons pe_int (pa_cons pe_int pa_nil)))))) pss_nil) (pss_cons (ps_set (i:=2) S.nd rfl (Or.inl rfl) (pcall O.law_row (hr.mono (by decide)) (pa_cons (pv 0) (pa_cons pe_int (pa_cons pe_int pa_nil))))) (pss_one (ps_ret (pe_op (kop_catT K rfl) (pe_tup (pa_cons (pe_op op_mul pe_int (pe_ix (kx_seq K rfl) (pv 2) pe_int (fun _ _=>rfl))) pa_nil)) (pe_callTy (kN_tuple K rfl) rfl T.b_tuple PyProof.Rows.boot_tuple (pa_cons (pe_comp (N:=["_law_one"]) (ix:=[none]) rfl (kpi_tup K rfl (pe_slice (ksl_tup K rfl) (pv 2) (po_some pe_int) po_none)) (fun _ _ _ _ _=>(pg_name (i:=0) (show List.Nodup (["_law_one"]:List Str) by decide +kernel) rfl (Or.inl rfl))) (fun _ _ _ _ _=>rfl) (fun _ _ _ _ _=>(pe_op op_mul pe_int (pv 0))) rfl (by decide +kernel) (by decide +kernel) rfl True.intro) pa_nil))))))))),?_⟩
  walk_at "w"
  refine if_both (fun h1=>?_) (fun h1=>?_)
  ·walk_at "w"
   refine c_law_row hc (by decide) (by decide) fun p r H1 s1 m1 hr=>?_
   exact k _ r _ s1 m1 (hr.mono (by decide) (by decide))
  walk_at "w"
  refine if_both (fun h2=>?_) (fun h2=>?_)
  ·walk_at "w"
   refine c_law_row hc (by decide) (by decide) fun p r H1 s1 m1 hr=>?_
   exact k _ r _ s1 m1 (hr.mono (by decide) (by decide))
  walk_at "w"
  refine if_both (fun h3=>?_) (fun h3=>?_)
  ·walk_at "w"
   refine c_law_row hc (by decide) (by decide) fun p r H1 s1 m1 hr=>?_
   exact k _ r _ s1 m1 hr
  walk_at "w"
  refine c_law_row hc (by decide) (by decide) fun p r H1 s1 m1 hr=>?_
  obtain ⟨a0,a1,a2,a3,a4,rfl,_,_,_,_,_⟩:=hr
  have m1':H1 p=some (.tup [.int a0,.int a1,.int a2,.int a3,.int a4]):=m1
  walk_at "w"
  refine rd_mapRow (r:=[a1,a2,a3,a4]) (fun x=>.int (60*x)) [] rfl (by walk_at "hf") (Nat.le_of_ble_eq_true rfl) (fun x H' Qc _ s kc=>?_) (fun l H2 hl s2 m2=>?_)
  ·walk_at "w"
   exact kc _ (Same.refl _)
  walk_at "w"
  rename_i p9 H9 s9 m9
  exact k _ [700*a0,60*a1,60*a2,60*a3,60*a4] _ (by walk_at "sm") m9 ⟨_,_,_,_,_,rfl,by lia,by lia,by lia,by lia,by lia⟩
theorem sc_law_board_row:FnScope ["_law_number_here","_law_most"] ["_law_number_here"] (defScope s_law_board_row):=⟨rfl,rfl,rfl,by decide +kernel,rfl,by decide +kernel,by decide +kernel⟩
structure Os_law_board_row (P:Program) (w:World) (K:PySem.W.Frag) (mg:Str→Option Value) (base:Heap) (G:Adr):Prop where
 law_row:Ok P w K mg base 1 "_law_row" ["_law_number_here","_law_first","_law_half"] (sp_law_row K)
set_option maxHeartbeats 4000000 in
theorem ok_law_board_row (D:Def K mg "_law_board_row" s_law_board_row ["_law_number_here"]) (T:Txt K mg G) (O:Os_law_board_row P w K mg base G):Ok P w K mg base 2 "_law_board_row" ["_law_number_here"] (sp_law_board_row K):=by
 have S:=sc_law_board_row
 refine D.ok S (fun vs H Q E h=>?_) (fun f cdv A outer s H vs Q E hr h=>?_)
 ·obtain ⟨c,rfl,hc,k⟩:=h;rfl
 ·obtain ⟨c,rfl,hc,k⟩:=h
  have hu:=hu_of hr
  have c_Board:=T.c_Board
  have n_Board_own_keys:=T.n_Board_own_keys
  have n_Board_octave:=T.n_Board_octave
  have c_Leading:=T.c_Leading
  have n_Leading_ways:=T.n_Leading_ways
  have n_Leading_tone_prices:=T.n_Leading_tone_prices
  have n_Leading_goal_prices:=T.n_Leading_goal_prices
  have n_Leading_goals:=T.n_Leading_goals
  have n_Leading_comers:=T.n_Leading_comers
  refine⟨_,(pss_cons (ps_set (i:=1) S.nd rfl (Or.inl rfl) (pe_ix (kx_seq K rfl) (pe_lst (pa_cons pe_int (pa_cons pe_int (pa_cons pe_int (pa_cons (pe_op op_pow pe_int pe_int) pa_nil))))) (pe_op op_mod (pv 0) pe_int) (fun _ _=>rfl))) (pss_one (ps_ret (pe_op (kop_catT K rfl) (pe_tup (pa_cons (pe_op op_add pe_int (pe_op op_mod (pe_op op_fdiv (pv 0) pe_int) (pv 1))) pa_nil)) (pe_slice (ksl_tup K rfl) (pcall O.law_row (hr.mono (by decide)) (pa_cons (pe_op op_fdivB (pe_op op_fdiv (pv 0) pe_int) (pv 1)) (pa_cons pe_int (pa_cons (pe_ix (kx_seq K rfl) (pe_lst (pa_cons pe_int (pa_cons pe_int (pa_cons pe_int (pa_cons (pe_op op_pow pe_int pe_int) pa_nil))))) (pe_op op_mod (pv 0) pe_int) (fun _ _=>rfl)) pa_nil)))) (po_some pe_int) po_none))))),?_⟩
  walk_at "w"
  rename_i p1 H1 n1 s1 m1
  have e10:(10:Int) ^ Int.toNat 10=10000000000:=by decide
  rw [e10] at m1
  obtain ⟨v,hv,v1,v2⟩:=most4 (c:=c) (a0:=8) (a1:=60) (a2:=9999) (a3:=10000000000) 8 10000000000 (by decide) (by decide) (by decide) (by decide)
  refine r_ixL (SqL.of m1) hv ?_
  walk_at "w"
  rename_i p2 H2 s2 m2
  refine r_I (cdivB (by lia) (by lia)) ?_
  walk_at "w"
  rename_i p3 H3 n3 s3 m3
  rw [e10] at m3
  obtain ⟨v',hv',v1',v2'⟩:=most4 (c:=c) (a0:=9) (a1:=99) (a2:=9999) (a3:=10000000000) 9 10000000000 (by decide) (by decide) (by decide) (by decide)
  refine r_ixL (SqL.of m3) hv' ?_
  walk_at "w"
  refine c_law_row (Int.ediv_nonneg (by lia) (by lia)) (by decide) (by lia) fun p4 rs H4 s4 m4 hrb=>?_
  obtain ⟨a0,a1,a2,a3,a4,rfl,g0,g1,g2,g3,g4⟩:=hrb
  have hm0:=Int.emod_nonneg (c / 4) (show v≠0 by lia)
  have hm1:=Int.emod_lt_of_pos (c / 4) (show 0<v by lia)
  walk_at "w"
  rename_i p5 H5 s5 m5 p6 H6 s6 m6
  exact k p6 H6 [1+c / 4 % v,a1,a2,a3,a4] ((((((s1.trans s2).trans s3).trans s4).trans s5).trans s6)) m6 rfl (RB.few (f:=10000000000) (h:=10000000000) ⟨_,_,_,_,_,rfl,by lia,by lia,by lia,by lia,by lia⟩ (by decide) (by decide)) (show 1≤1+c / 4 % v by lia)
theorem sc_law_same_sounds:FnScope ["_law_w","_law_one","_law_other_here","_law_left"] ["_law_w","_law_one","_law_other_here"] (defScope s_law_same_sounds):=⟨rfl,rfl,rfl,by decide +kernel,rfl,by decide +kernel,by decide +kernel⟩
structure Os_law_same_sounds (P:Program) (w:World) (K:PySem.W.Frag) (mg:Str→Option Value) (base:Heap) (G:Adr):Prop where
 law_dot:Ok P w K mg base 1 "_law_dot" ["_law_w","_law_row_here"] (sp_law_dot K)
theorem ok_law_same_sounds (D:Def K mg "_law_same_sounds" s_law_same_sounds ["_law_w","_law_one","_law_other_here"]) (T:Txt K mg G) (O:Os_law_same_sounds P w K mg base G):Ok P w K mg base 2 "_law_same_sounds" ["_law_w","_law_one","_law_other_here"] (sp_law_same_sounds K):=by
 have S:=sc_law_same_sounds
 refine D.ok S (fun vs H Q E h=>?_) (fun f cdv A outer s H vs Q E hr h=>?_)
 ·obtain ⟨b,l,m,w,xs,ys,cs,gs,rfl,hw,hl,hc,hm,hg,h6,g6,lw,fw,w1,fc,fg,k⟩:=h;rfl
 ·obtain ⟨b,l,m,w,xs,ys,cs,gs,rfl,hw,hl,hc,hm,hg,h6,g6,lw,fw,w1,fc,fg,k⟩:=h
  have hu:=hu_of hr
  have c_Board:=T.c_Board
  have n_Board_own_keys:=T.n_Board_own_keys
  have n_Board_octave:=T.n_Board_octave
  have c_Leading:=T.c_Leading
  have n_Leading_ways:=T.n_Leading_ways
  have n_Leading_tone_prices:=T.n_Leading_tone_prices
  have n_Leading_goal_prices:=T.n_Leading_goal_prices
  have n_Leading_goals:=T.n_Leading_goals
  have n_Leading_comers:=T.n_Leading_comers
  refine⟨_,(pss_cons (ps_set (i:=3) S.nd rfl (Or.inl rfl) (pe_callB (kN_sortI K rfl) rfl T.b_sorted PyProof.Rows.boot_sorted (pa_cons (pe_comp (N:=["_law_row_here","_law_w"]) (ix:=[none,some 0]) rfl (kpi_list K rfl (pv 1)) (fun _ _ _ _ _=>(pg_name (i:=0) (show List.Nodup (["_law_row_here","_law_w"]:List Str) by decide +kernel) rfl (Or.inl rfl))) (fun _ _ _ _ _=>rfl) (fun _ _ _ _ _=>(pe_op op_mod (pcall O.law_dot (hr.mono (by decide)) (pa_cons (pv 1) (pa_cons (pv 0) pa_nil))) (pe_ix (kx_seq K rfl) (pv 1) pe_int (fun _ _=>rfl)))) rfl (by decide +kernel) (by decide +kernel) rfl ⟨⟨rfl,Or.inr (Or.inl rfl),rfl,rfl⟩,True.intro⟩) pa_nil))) (pss_one (ps_ret (pe_cmpR (kop_eqD K rfl hr.units) (pv 3) (pe_callB (kN_sortI K rfl) rfl T.b_sorted PyProof.Rows.boot_sorted (pa_cons (pe_comp (N:=["_law_row_here","_law_w"]) (ix:=[none,some 0]) rfl (kpi_list K rfl (pv 2)) (fun _ _ _ _ _=>(pg_name (i:=0) (show List.Nodup (["_law_row_here","_law_w"]:List Str) by decide +kernel) rfl (Or.inl rfl))) (fun _ _ _ _ _=>rfl) (fun _ _ _ _ _=>(pe_op op_mod (pcall O.law_dot (hr.mono (by decide)) (pa_cons (pv 1) (pa_cons (pv 0) pa_nil))) (pe_ix (kx_seq K rfl) (pv 1) pe_int (fun _ _=>rfl)))) rfl (by decide +kernel) (by decide +kernel) rfl ⟨⟨rfl,Or.inr (Or.inl rfl),rfl,rfl⟩,True.intro⟩) pa_nil)) (nomark _))))),?_⟩
  have hcl:=hc.length
  have hgl:=hg.length
  have hpos:(0:Int)<w.getD 0 0:=by lia
  walk_at "w"
  refine rd_compL [some (.ref b)] (fun i=>.int (dot (cs.getD i []) w % w.getD 0 0)) rfl hl (by lia) (fun i x H' Qc hx s kc=>?_) (fun l1 H1 n1 s1 m1=>?_)
  ·obtain ⟨q,r,rfl,hq,er⟩:=hc.get hx
   have hr':=fc r (List.mem_of_getElem? er)
   have hw':=s.at hw
   walk_at "w"
   refine c_law_dot hw' (s.at hq) lw hr'.1 fw hr'.2 fun H2 s2=>?_
   walk_at "v"
   refine r_ixT (s2.at hw') (atI_nat (j:=0) (int_at (by lia))) ?_
   walk_at "v"
   have kc':=kc _ s2
   rw [List.getD_eq_getElem?_getD (l:=cs),er] at kc'
   exact kc'
  have m1':H1 l1=some (.lst ((cs.map fun r=>dot r w % w.getD 0 0).map V.int)):=by rw [m1,← hcl,range_getL (fun r=>V.int (dot r w % w.getD 0 0)),List.map_map];rfl
  clear m1
  walk_at "w"
  refine rd_sortI (SqL.of m1') (by rw [List.length_map];lia) fun p2 H2 qs n2 s2 m2 hp2 ho2=>?_
  have s12:=s1.trans s2
  walk_at "w"
  refine rd_compL [some (.ref b)] (fun i=>.int (dot (gs.getD i []) w % w.getD 0 0)) rfl (s12.seq hm) (by lia) (fun i x H' Qc hx s kc=>?_) (fun l3 H3 n3 s3 m3=>?_)
  ·obtain ⟨q,r,rfl,hq,er⟩:=hg.get hx
   have hr':=fg r (List.mem_of_getElem? er)
   have hw':=(s12.trans s).at hw
   walk_at "w"
   refine c_law_dot hw' ((s12.trans s).at hq) lw hr'.1 fw hr'.2 fun H2 s2=>?_
   walk_at "v"
   refine r_ixT (s2.at hw') (atI_nat (j:=0) (int_at (by lia))) ?_
   walk_at "v"
   have kc':=kc _ s2
   rw [List.getD_eq_getElem?_getD (l:=gs),er] at kc'
   exact kc'
  have m3':H3 l3=some (.lst ((gs.map fun r=>dot r w % w.getD 0 0).map V.int)):=by rw [m3,← hgl,range_getL (fun r=>V.int (dot r w % w.getD 0 0)),List.map_map];rfl
  clear m3
  walk_at "w"
  refine rd_sortI (SqL.of m3') (by rw [List.length_map];lia) fun p4 H4 qs4 n4 s4 m4 hp4 ho4=>?_
  walk_at "w"
  refine r_eqD (.lst (SqL.of (s4 _ _ (s3 _ _ m2))) (Tells.ints qs)) (.lst (SqL.of m4) (Tells.ints qs4)) (shaped_lstI _) (shaped_lstI _) ?_
  rw [eqv_lstI]
  refine k _ _ ((s12.trans s3).trans s4) ⟨fun z=>?_,fun z=>decide_eq_true (sorted_eq ((hp2.trans z).trans hp4.symm) ho2 ho4)⟩
  have e:=of_decide_eq_true z
  subst e
  exact hp2.symm.trans hp4
theorem sc_law_moved:FnScope ["_law_chord_here","_law_span"] ["_law_chord_here","_law_span"] (defScope s_law_moved):=⟨rfl,rfl,rfl,by decide +kernel,rfl,by decide +kernel,by decide +kernel⟩
structure Os_law_moved (P:Program) (w:World) (K:PySem.W.Frag) (mg:Str→Option Value) (base:Heap) (G:Adr):Prop where
 law_plus:Ok P w K mg base 1 "_law_plus" ["_law_one","_law_other_here"] (sp_law_plus K)
theorem ok_law_moved (D:Def K mg "_law_moved" s_law_moved ["_law_chord_here","_law_span"]) (T:Txt K mg G) (O:Os_law_moved P w K mg base G):Ok P w K mg base 2 "_law_moved" ["_law_chord_here","_law_span"] (sp_law_moved K):=by
 have S:=sc_law_moved
 refine D.ok S (fun vs H Q E h=>?_) (fun f cdv A outer s H vs Q E hr h=>?_)
 ·obtain ⟨l,m,xs,cs,q,rfl,hl,hc,hm,h6,lq,lc,k⟩:=h;rfl
 ·obtain ⟨l,m,xs,cs,q,rfl,hl,hc,hm,h6,lq,lc,k⟩:=h
  have hu:=hu_of hr
  have c_Board:=T.c_Board
  have n_Board_own_keys:=T.n_Board_own_keys
  have n_Board_octave:=T.n_Board_octave
  have c_Leading:=T.c_Leading
  have n_Leading_ways:=T.n_Leading_ways
  have n_Leading_tone_prices:=T.n_Leading_tone_prices
  have n_Leading_goal_prices:=T.n_Leading_goal_prices
  have n_Leading_goals:=T.n_Leading_goals
  have n_Leading_comers:=T.n_Leading_comers
  refine⟨_,(pss_one (ps_ret (pe_comp (N:=["_law_row_here","_law_span"]) (ix:=[none,some 1]) rfl (kpi_list K rfl (pv 0)) (fun _ _ _ _ _=>(pg_name (i:=0) (show List.Nodup (["_law_row_here","_law_span"]:List Str) by decide +kernel) rfl (Or.inl rfl))) (fun _ _ _ _ _=>rfl) (fun _ _ _ _ _=>(pcall O.law_plus (hr.mono (by decide)) (pa_cons (pv 0) (pa_cons (pv 1) pa_nil)))) rfl (by decide +kernel) (by decide +kernel) rfl ⟨⟨rfl,Or.inr (Or.inl rfl),rfl,rfl⟩,True.intro⟩))),?_⟩
  obtain ⟨y0,y1,y2,y3,y4,rfl⟩:∃ x0 x1 x2 x3 x4:Int,q=[x0,x1,x2,x3,x4]:=by
   match q,lq with
   | [x0,x1,x2,x3,x4],_=>exact⟨x0,x1,x2,x3,x4,rfl⟩
  walk_at "w"
  refine rd_mapRows [some (.ref m)] (fun r=>List.zipWith (·+·) r [y0,y1,y2,y3,y4]) rfl hl hc (by lia) (fun a r H' Qc hr s ha kc=>?_) (fun l2 H' ys n2 s2 m2 r2=>?_)
  ·have h5:=lc r hr
   obtain ⟨x0,x1,x2,x3,x4,rfl⟩:∃ x0 x1 x2 x3 x4:Int,r=[x0,x1,x2,x3,x4]:=by
    match r,h5 with
    | [x0,x1,x2,x3,x4],_=>exact⟨x0,x1,x2,x3,x4,rfl⟩
   have ha':SqT K H' a [.int x0,.int x1,.int x2,.int x3,.int x4]:=ha
   have hm':SqT K H' m [.int y0,.int y1,.int y2,.int y3,.int y4]:=s.at hm
   walk_at "w"
   rename_i p5 H5 s5 m5
   exact kc p5 H5 s5 (SqT.of m5)
  exact k l2 H' ys n2 s2 m2 r2
theorem sc_law_fits:FnScope ["_law_rows"] ["_law_rows"] (defScope s_law_fits):=⟨rfl,rfl,rfl,by decide +kernel,rfl,by decide +kernel,by decide +kernel⟩
structure Os_law_fits (P:Program) (w:World) (K:PySem.W.Frag) (mg:Str→Option Value) (base:Heap) (G:Adr):Prop where
 law_within:Ok P w K mg base 1 "_law_within" ["_law_row_here","_law_first","_law_half"] (sp_law_within K)
theorem ok_law_fits (D:Def K mg "_law_fits" s_law_fits ["_law_rows"]) (T:Txt K mg G) (O:Os_law_fits P w K mg base G):Ok P w K mg base 2 "_law_fits" ["_law_rows"] (sp_law_fits K):=by
 have S:=sc_law_fits
 refine D.ok S (fun vs H Q E h=>?_) (fun f cdv A outer s H vs Q E hr h=>?_)
 ·obtain ⟨l,xs,cs,rfl,hl,hc,h6,lc,k⟩:=h;rfl
 ·obtain ⟨l,xs,cs,rfl,hl,hc,h6,lc,k⟩:=h
  have hu:=hu_of hr
  have c_Board:=T.c_Board
  have n_Board_own_keys:=T.n_Board_own_keys
  have n_Board_octave:=T.n_Board_octave
  have c_Leading:=T.c_Leading
  have n_Leading_ways:=T.n_Leading_ways
  have n_Leading_tone_prices:=T.n_Leading_tone_prices
  have n_Leading_goal_prices:=T.n_Leading_goal_prices
  have n_Leading_goals:=T.n_Leading_goals
  have n_Leading_comers:=T.n_Leading_comers
  refine⟨_,(pss_one (ps_ret (pe_callB (kN_all K rfl rfl) rfl T.b_all PyProof.Rows.boot_all (pa_cons (pe_comp (N:=["_law_row_here"]) (ix:=[none]) rfl (kpi_list K rfl (pv 0)) (fun _ _ _ _ _=>(pg_name (i:=0) (show List.Nodup (["_law_row_here"]:List Str) by decide +kernel) rfl (Or.inl rfl))) (fun _ _ _ _ _=>rfl) (fun _ _ _ _ _=>(pcall O.law_within (hr.mono (by decide)) (pa_cons (pv 0) (pa_cons pe_int (pa_cons pe_int pa_nil))))) rfl (by decide +kernel) (by decide +kernel) rfl True.intro) pa_nil)))),?_⟩
  have hcl:=hc.length
  walk_at "w"
  refine comp_gen 1 [] xs.length (fun l i zs H'=>∃ bs:List Bool,zs=bs.map V.bl∧bs.length=i∧i≤xs.length∧∀ (k:Nat) r,bs[k]?=some true→cs[k]?=some r→RB 700 60 r) rfl (fun l H' _ _ _=>⟨[],rfl,rfl,Nat.zero_le _,fun k r e=>by cases e⟩) (fun l i zs H' h=>?_) (fun H' s=>⟨xs,s.seq hl,Nat.le_refl _⟩) (fun i H' hi s=>⟨xs,xs[i],s.seq hl,List.getElem?_eq_getElem hi⟩) (fun l2 i x H' H2 own zs ho hi hl0 s hl' hp hy Qy Qn ky kn=>?_) (fun l2 H' zs a b c d=>?_)
  ·obtain ⟨bs,rfl,e,_⟩:=h
   rw [List.length_map]
   lia
  ·obtain ⟨o1,rfl⟩:∃ o1,own=[o1]:=by match own,ho with|[o1],_=>exact⟨o1,rfl⟩
   obtain ⟨rfl,e⟩:=hy
   obtain ⟨bs,rfl,e1,e2,e3⟩:=hp
   obtain ⟨p,r,rfl,hp,er⟩:=hc.get (e xs (s.seq hl))
   dsimp only [gName]
   rw [if_pos rfl]
   show tCall _ _ _ _ [some (.ref p)] _ _
   walk_at "w"
   refine c_law_within (s.at hp) (lc r (List.mem_of_getElem? er)) fun b H5 s5 hb=>ky [some (.ref p)] (.bl b) H5 rfl s5 ⟨bs++[b],by rw [List.map_append];rfl,by rw [List.length_append,List.length_singleton,e1],hi,fun k r' f1 f2=>?_⟩
   by_cases hk:k<bs.length
   ·rw [List.getElem?_append_left hk] at f1
    exact e3 k r' f1 f2
   ·obtain rfl:k=i:=by
     have:=(List.getElem?_eq_some_iff.mp f1).1
     rw [List.length_append,List.length_singleton] at this
     lia
    rw [List.getElem?_append_right (by lia),show k - bs.length=0 by lia] at f1
    cases f1
    rw [er] at f2
    cases f2
    exact hb rfl
  obtain ⟨bs,rfl,e1,_,e3⟩:=d
  walk_at "w"
  refine r_all (SqL.of c) ?_
  refine k _ _ b fun hall r hr=>?_
  obtain ⟨i,hi,ei⟩:=List.mem_iff_getElem.mp hr
  refine e3 i r ?_ (by rw [← ei];exact List.getElem?_eq_getElem hi)
  have hib:i<bs.length:=by lia
  have:=List.all_eq_true.mp hall bs[i] (List.getElem_mem hib)
  rw [List.getElem?_eq_getElem hib]
  exact congrArg some this
theorem sc_KeyTuning_init:FnScope ["self","keys"] ["self","keys"] (defScope s_KeyTuning_init):=⟨rfl,rfl,rfl,by decide +kernel,rfl,by decide +kernel,by decide +kernel⟩
structure Os_KeyTuning_init (P:Program) (w:World) (K:PySem.W.Frag) (mg:Str→Option Value) (base:Heap) (G:Adr):Prop where
 checked_keys:Ok P w K mg base 1 "checked_keys" ["keys"] (sp_checked_keys K)
theorem ok_KeyTuning_init (D:DefM K G.f_KeyTuning_init "__init__" "KeyTuning.__init__" s_KeyTuning_init ["self","keys"]) (T:Txt K mg G) (O:Os_KeyTuning_init P w K mg base G):OkM P w K mg base 2 G.f_KeyTuning_init ["self","keys"] (sp_KeyTuning_init K):=by
 have S:=sc_KeyTuning_init
 refine D.ok S (fun vs H Q E h=>?_) (fun f cdv A outer s H vs Q E hr h=>?_)
 ·obtain ⟨x,kl,C,dx,ys,ks,rfl,hC,hx,hl,hk,hn,hg,k⟩:=h;rfl
 ·obtain ⟨x,kl,C,dx,ys,ks,rfl,hC,hx,hl,hk,hn,hg,k⟩:=h
  have hu:=hu_of hr
  have c_Board:=T.c_Board
  have n_Board_own_keys:=T.n_Board_own_keys
  have n_Board_octave:=T.n_Board_octave
  have c_Leading:=T.c_Leading
  have n_Leading_ways:=T.n_Leading_ways
  have n_Leading_tone_prices:=T.n_Leading_tone_prices
  have n_Leading_goal_prices:=T.n_Leading_goal_prices
  have n_Leading_goals:=T.n_Leading_goals
  have n_Leading_comers:=T.n_Leading_comers
  refine⟨_,(pss_one (kps_fld K rfl (pv 0) (pe_callTy (kN_list K rfl) rfl T.b_list PyProof.Rows.boot_list (pa_cons (pcall O.checked_keys (hr.mono (by decide)) (pa_cons (pv 1) pa_nil)) pa_nil)) rfl)),?_⟩
  obtain rfl:G.a_Board=C:=by have:=T.w_Board;rw [hC] at this;cases this;rfl
  walk_at "w"
  refine c_checked_keys hl hk hn hg ?_
  walk_at "w"
  rename_i l1 H1 n1 s1 m1
  refine r_sfld1 (s1 _ _ hx) c_Board n_Board_own_keys (by decide) ?_
  exact k l1 H1 n1 s1 m1
theorem sc_values:FnScope ["keys","row"] ["keys","row"] (defScope s_values):=⟨rfl,rfl,rfl,by decide +kernel,rfl,by decide +kernel,by decide +kernel⟩
structure Os_values (P:Program) (w:World) (K:PySem.W.Frag) (mg:Str→Option Value) (base:Heap) (G:Adr):Prop where
 value:Ok P w K mg base 2 "value" ["key","row"] (sp_value K)
 checked_keys:Ok P w K mg base 1 "checked_keys" ["keys"] (sp_checked_keys K)
theorem ok_values (D:Def K mg "values" s_values ["keys","row"]) (T:Txt K mg G) (O:Os_values P w K mg base G):Ok P w K mg base 3 "values" ["keys","row"] (sp_values K):=by
 have S:=sc_values
 refine D.ok S (fun vs H Q E h=>?_) (fun f cdv A outer s H vs Q E hr h=>?_)
 ·obtain ⟨l,r,ys,ks,rs,rfl,hl,hk,hn,hg,hra,h5,hf,k⟩:=h;rfl
 ·obtain ⟨l,r,ys,ks,rs,rfl,hl,hk,hn,hg,hra,h5,hf,k⟩:=h
  have hu:=hu_of hr
  have c_Board:=T.c_Board
  have n_Board_own_keys:=T.n_Board_own_keys
  have n_Board_octave:=T.n_Board_octave
  have c_Leading:=T.c_Leading
  have n_Leading_ways:=T.n_Leading_ways
  have n_Leading_tone_prices:=T.n_Leading_tone_prices
  have n_Leading_goal_prices:=T.n_Leading_goal_prices
  have n_Leading_goals:=T.n_Leading_goals
  have n_Leading_comers:=T.n_Leading_comers
  refine⟨_,(pss_one (ps_ret (pe_callTy (kN_tuple K rfl) rfl T.b_tuple PyProof.Rows.boot_tuple (pa_cons (pe_comp (N:=["key","row"]) (ix:=[none,some 1]) rfl (kpi_list K rfl (pcall O.checked_keys (hr.mono (by decide)) (pa_cons (pv 0) pa_nil))) (fun _ _ _ _ _=>(pg_name (i:=0) (show List.Nodup (["key","row"]:List Str) by decide +kernel) rfl (Or.inl rfl))) (fun _ _ _ _ _=>rfl) (fun _ _ _ _ _=>(pcall O.value (hr.mono (by decide)) (pa_cons (pv 0) (pa_cons (pv 1) pa_nil)))) rfl (by decide +kernel) (by decide +kernel) rfl ⟨⟨rfl,Or.inr (Or.inl rfl),rfl,rfl⟩,True.intro⟩) pa_nil)))),?_⟩
  have hy:=hk.length
  walk_at "w"
  refine c_checked_keys hl hk hn hg ?_
  walk_at "w"
  refine rd_compL (xs:=ys) [some (.ref r)] (fun i=>.int (val (ks.getD i ([],0)).1 (ks.getD i ([],0)).2 rs)) rfl hl (by lia) (fun i x H2 Qc hx s kc=>?_) (fun p H2 np s m=>?_)
  ·obtain ⟨a,w,kk,rfl,h1,h2,h3⟩:=hk.get hx
   have g:=hg kk (mem_of h3)
   walk_at "w"
   refine c_value kk.1 rs (s.at h1) (s.at h2) (s.at hra) (by rw [h5,g.1]) (by lia) (g.mul h5 hf) (by have:=g.2.2;lia) fun H3 s3=>?_
   have q:=kc _ s3
   rw [getD_of h3] at q
   exact q
  ·rw [← hy,range_map ks ([],0) (fun k=>V.int (val k.1 k.2 rs))] at m
   have e:ks.map (fun k=>V.int (val k.1 k.2 rs))=(vals ks rs).map V.int:=by rw [vals,List.map_map];rfl
   rw [e] at m
   walk_at "w"
   rename_i p3 H3 s3 m3
   exact k _ _ (s.trans s3) m3
theorem sc_law_chord:FnScope ["_law_script","_law_at","_law_count","_law_made","_law_k","_law_number_here"] ["_law_script","_law_at","_law_count"] (defScope s_law_chord):=⟨rfl,rfl,rfl,by decide +kernel,rfl,by decide +kernel,by decide +kernel⟩
structure Os_law_chord (P:Program) (w:World) (K:PySem.W.Frag) (mg:Str→Option Value) (base:Heap) (G:Adr):Prop where
 law_number:Ok P w K mg base 2 "_law_number" ["_law_script","_law_k"] (sp_law_number K)
 law_tone:Ok P w K mg base 2 "_law_tone" ["_law_number_here","_law_kind"] (sp_law_tone K)
theorem ok_law_chord (D:Def K mg "_law_chord" s_law_chord ["_law_script","_law_at","_law_count"]) (T:Txt K mg G) (O:Os_law_chord P w K mg base G):Ok P w K mg base 3 "_law_chord" ["_law_script","_law_at","_law_count"] (sp_law_chord K):=by
 have S:=sc_law_chord
 refine D.ok S (fun vs H Q E h=>?_) (fun f cdv A outer s H vs Q E hr h=>?_)
 ·obtain ⟨a,ns,b,n,rfl,ha,h6,k⟩:=h;rfl
 ·obtain ⟨a,ns,b,n,rfl,ha,h6,k⟩:=h
  have hu:=hu_of hr
  have c_Board:=T.c_Board
  have n_Board_own_keys:=T.n_Board_own_keys
  have n_Board_octave:=T.n_Board_octave
  have c_Leading:=T.c_Leading
  have n_Leading_ways:=T.n_Leading_ways
  have n_Leading_tone_prices:=T.n_Leading_tone_prices
  have n_Leading_goal_prices:=T.n_Leading_goal_prices
  have n_Leading_goals:=T.n_Leading_goals
  have n_Leading_comers:=T.n_Leading_comers
  refine⟨_,(pss_cons (ps_set (i:=3) S.nd rfl (Or.inl rfl) (pe_lst pa_nil)) (pss_cons (ps_for PassesOwn.never rfl (pi_range1 rfl T.b_range (pa_cons (pv 2) pa_nil)) (pg_name (i:=4) S.nd rfl (Or.inl rfl)) (pss_cons (ps_set (i:=5) S.nd rfl (Or.inl rfl) (pcall O.law_number (hr.mono (by decide)) (pa_cons (pv 0) (pa_cons (pe_op op_add (pv 1) (pv 4)) pa_nil)))) (pss_one (ps_if (PW.pt (pw_and (pt_cmpR op_eq (pe_op op_mod (pv 5) pe_int) pe_int (nomark _)) (pw_and1 (pt_cmpR (kop_neD K rfl hr.units) (pv 3) (pe_lst pa_nil) (nomark _))))) (pss_one (ps_expr (pe_bm PySem.F.plainAttrs_list PySem.F.slot_list_append PySem.F.type_list_append mt_append (pv 3) (pa_cons (pe_ix (kx_seq K rfl) (pv 3) (pe_op op_mod (pe_op op_fdiv (pv 5) pe_int) (pe_callB (kN_len K rfl) rfl T.b_len PySem.boot_len (pa_cons (pv 3) pa_nil))) (fun _ _=>rfl)) pa_nil)))) (pss_one (ps_expr (pe_bm PySem.F.plainAttrs_list PySem.F.slot_list_append PySem.F.type_list_append mt_append (pv 3) (pa_cons (pcall O.law_tone (hr.mono (by decide)) (pa_cons (pe_op op_fdiv (pv 5) pe_int) (pa_cons (pe_ix (kx_seq K rfl) (pe_lst (pa_cons pe_int (pa_cons pe_int (pa_cons pe_int (pa_cons pe_int pa_nil))))) (pe_op op_mod (pe_op op_fdiv (pv 5) pe_int) pe_int) (fun _ _=>rfl)) pa_nil))) pa_nil)))))))) (pss_one (ps_ret (pv 3))))),?_⟩
  walk_at "w"
  rename_i l H1 n1 s1 m1
  refine f_invR (fun i σ' H'=>∃ (o4 o5:Option V) (xs:List V) (rs:List (List Int)),σ'=[some (.ref a),some (.int (b:Int)),some (.int (n:Int)),some (.ref l),o4,o5]∧Same H H'∧H' l=some (.lst xs)∧RowsL K H' xs rs∧rs.length=i∧(∀ r∈rs,RB 700 60 r)) ⟨none,none,[],[],rfl,s1,m1,.nil,rfl,fun r hr=>absurd hr List.not_mem_nil⟩ (fun i σ' H' hi hP=>?_) (fun σ' H' hP=>?_)
  ·obtain ⟨o4,o5,xs,rs,rfl,sH,ml,hr,hlen,hb⟩:=hP
   have ha':=sH.seq ha
   have hxl:=hr.length
   rw [Int.zero_add]
   walk_at "w"
   refine c_law_number ha' (by lia) fun c hcn=>?_
   walk_at "w"
   have fin:∀ (H2:Hp) (p:Addr) (r:List Int),Same H' H2→SqT K H2 p (r.map V.int)→RB 700 60 r→(∃ (o4 o5:Option V) (xs':List V) (rs':List (List Int)),[some (.ref a),some (.int (b:Int)),some (.int (n:Int)),some (.ref l),some (.int (i:Int)),some (.int c)]=[some (.ref a),some (.int (b:Int)),some (.int (n:Int)),some (.ref l),o4,o5]∧Same H (upd H2 l (.lst (xs++[.ref p])))∧(upd H2 l (.lst (xs++[.ref p]))) l=some (.lst xs')∧RowsL K (upd H2 l (.lst (xs++[.ref p]))) xs' rs'∧rs'.length=i+1∧(∀ r∈rs',RB 700 60 r)):=fun H2 p r s2 hp hb2 =>
    ⟨_,_,xs++[.ref p],rs++[r],rfl,fun b' o e=>by rw [upd_ne (fun z=>by rw [z,n1] at e;cases e)];exact s2 _ _ (sH _ _ e),upd_same,((hr.same s2).snoc hp).off (s2 _ _ ml),by rw [List.length_append,List.length_singleton,hlen],fun r' h'=>(List.mem_append.mp h').elim (hb r') fun z=>by rw [List.mem_singleton.mp z];exact hb2⟩
   refine if_both (fun h3=>?_) (fun h3=>?_)
   ·walk_at "w"
    rename_i p2 H2 n2 s2 m2
    have ml2:=s2 _ _ ml
    refine r_neD (.lst (SqL.of ml2) (hr.same s2).tells) (.lst (SqL.of m2) .nil) (shaped_rows _) (shaped_rows []) ?_
    rw [show PyData.eqv (.list (rs.map fun r=>.tuple (r.map PyData.int))) (.list [])=decide (rs=[]) from eqv_listR rs []]
    walk_at "w"
    refine if_both (fun h4=>?_) (fun h4=>?_)
    ·have hne:rs≠[]:=by
      intro z
      rw [z] at h4
      exact absurd h4 (by decide)
     have hpos:0<xs.length:=by
      rw [← hxl]
      exact List.length_pos_iff.mpr hne
     have hpi:(0:Int)<(xs.length:Int):=by lia
     have h0:=Int.emod_nonneg (c / 7) (show (xs.length:Int)≠0 by lia)
     have h1:=Int.emod_lt_of_pos (c / 7) hpi
     obtain ⟨y,hy1,hy2⟩:=atI_in (xs:=xs) h0 h1
     obtain ⟨p,r,rfl,hp,er⟩:=hr.get hy2
     walk_at "v"
     refine r_ixL (SqL.of ml2) hy1 ?_
     walk_at "v"
     refine r_append ml2 (by lia) ?_
     walk_at "w"
     exact fin H2 p r s2 (s2.at hp) (hb r (List.mem_of_getElem? er))
    ·skip
     walk_at "w"
     rename_i p3 H3 n3 s3 m3
     obtain ⟨vv,hv⟩:=kind4 (c / 7)
     refine r_ixL (SqL.of m3) hv ?_
     walk_at "w"
     refine c_law_tone (by lia) fun p4 r4 H4 s4 m4 hb4=>?_
     have ml4:=s4 _ _ (s3 _ _ ml2)
     walk_at "w"
     refine r_append ml4 (by lia) ?_
     walk_at "w"
     exact fin H4 p4 r4 (s2.trans (s3.trans s4)) (SqT.of m4) hb4
   ·walk_at "w"
    refine iteF ?_
    walk_at "w"
    rename_i p3 H3 n3 s3 m3
    obtain ⟨vv,hv⟩:=kind4 (c / 7)
    refine r_ixL (SqL.of m3) hv ?_
    walk_at "w"
    refine c_law_tone (by lia) fun p4 r4 H4 s4 m4 hb4=>?_
    have ml4:=s4 _ _ (s3 _ _ ml)
    walk_at "w"
    refine r_append ml4 (by lia) ?_
    walk_at "w"
    exact fin H4 p4 r4 ((s3.trans s4)) (SqT.of m4) hb4
  obtain ⟨o4,o5,xs,rs,rfl,sH,ml,hr,hlen,hb⟩:=hP
  walk_at "w"
  exact k l _ xs rs n1 sH ml hr hlen hb
theorem sc_Board_init:FnScope ["self","row"] ["self","row"] (defScope s_Board_init):=⟨rfl,rfl,rfl,by decide +kernel,rfl,by decide +kernel,by decide +kernel⟩
structure Os_Board_init (P:Program) (w:World) (K:PySem.W.Frag) (mg:Str→Option Value) (base:Heap) (G:Adr):Prop where
 KeyTuning_init:OkM P w K mg base 2 G.f_KeyTuning_init ["self","keys"] (sp_KeyTuning_init K)
theorem ok_Board_init (D:DefM K G.f_Board_init "__init__" "Board.__init__" s_Board_init ["self","row"]) (T:Txt K mg G) (O:Os_Board_init P w K mg base G):OkM P w K mg base 3 G.f_Board_init ["self","row"] (sp_Board_init K):=by
 have S:=sc_Board_init
 refine D.ok S (fun vs H Q E h=>?_) (fun f cdv A outer s H vs Q E hr h=>?_)
 ·obtain ⟨x,r,C,dx,w,rfl,hC,hx,hra,h5,hf,h1,k⟩:=h;rfl
 ·obtain ⟨x,r,C,dx,w,rfl,hC,hx,hra,h5,hf,h1,k⟩:=h
  have hu:=hu_of hr
  have c_Board:=T.c_Board
  have n_Board_own_keys:=T.n_Board_own_keys
  have n_Board_octave:=T.n_Board_octave
  have c_Leading:=T.c_Leading
  have n_Leading_ways:=T.n_Leading_ways
  have n_Leading_tone_prices:=T.n_Leading_tone_prices
  have n_Leading_goal_prices:=T.n_Leading_goal_prices
  have n_Leading_goals:=T.n_Leading_goals
  have n_Leading_comers:=T.n_Leading_comers
  refine⟨_,(@pss_cons _ _ _ _ _ (ps_if (pt_cmpR op_lt (pe_ix (kx_seq K rfl) (pv 1) pe_int (fun _ _=>rfl)) pe_int (nomark _)) (pss_one ps_never) pss_nil) (@pss_cons _ _ _ _ _ (ps_expr (pcls O.KeyTuning_init T.j_KeyTuning_init (hr.mono (by decide)) rfl T.g_KeyTuning (@pa_cons _ _ _ _ _ (pv 0) (@pa_cons _ _ _ _ _ (@pe_lst _ _ _ _ (@pa_cons _ _ _ _ _ (@pe_tup _ _ _ _ _ (pa_cons (pv 1) (pa_cons pe_int pa_nil))) pa_nil (by rfl))) pa_nil (by rfl)) (by rfl)))) (pss_one (kps_fld K rfl (pv 0) (pe_ix (kx_seq K rfl) (pv 1) pe_int (fun _ _=>rfl)) rfl)))),?_⟩
  obtain rfl:G.a_Board=C:=by have:=T.w_Board;rw [hC] at this;cases this;rfl
  walk_at "v"
  refine r_ixT hra (atI_nat (j:=0) (int_at (by lia))) ?_
  walk_at "w"
  refine if_ff (decide_eq_false (by lia)) ?_
  walk_at "w"
  rename_i p2 H2 s2 m2 l3 H3 n3 s3 m3
  have s23:=s2.trans s3
  have hk3:KeysL K H3 [.ref p2] [(w,0)]:=.cons (SqT.of (s3 _ _ m2)) (s23.at hra) .nil
  refine c_KeyTuning_init hC (s23 _ _ hx) (SqL.of m3) hk3 (Nat.le_of_ble_eq_true rfl) (good_key h5 hf) fun l4 H4 n4 s4 m4=>?_
  have hra4:=(s23.trans s4).at hra
  have e4:(upd H4 x (.ins G.a_Board dx [("own_keys",.ref l4)])) x=some (.ins G.a_Board dx [("own_keys",.ref l4)]):=upd_same
  have nx:∀ b o,b≠x→H4 b=some o→(upd H4 x (.ins G.a_Board dx [("own_keys",.ref l4)])) b=some o:=fun b o n e=>by rw [upd_ne n];exact e
  have hra5:SqT K (upd H4 x (.ins G.a_Board dx [("own_keys",.ref l4)])) r (w.map V.int):=upd_ins_sqT hra4 ((s23.trans s4) _ _ hx)
  generalize upd H4 x (.ins G.a_Board dx [("own_keys",.ref l4)])=H5 at e4 nx hra5 ⊢
  walk_at "v"
  refine r_ixT hra5 (atI_nat (j:=0) (int_at (by lia))) ?_
  walk_at "w"
  refine r_sfld1 e4 c_Board n_Board_octave (by show 1<1000;decide) ?_
  have hl4:l4≠x:=fun z=>by rw [z,s23 _ _ hx] at n4;cases n4
  refine k _ (fun b o n e=>?_) ⟨G.a_Board,dx,l4,p2,hC,upd_same,?_,?_,h5,hf,h1⟩
  ·rw [upd_ne n];exact nx b o n ((s23.trans s4) _ _ e)
  ·rw [upd_ne hl4];exact nx _ _ hl4 m4
  ·have hk4:=hk3.same s4
   exact keys_off (keys_off2 hk4 nx ((s23.trans s4) _ _ hx)) e4
theorem sc_law_other:FnScope ["_law_script","_law_chord_here","_law_number_here","_law_digits","_law_at","_law_made","_law_row_here","_law_up"] ["_law_script","_law_chord_here"] (defScope s_law_other):=⟨rfl,rfl,rfl,by decide +kernel,rfl,by decide +kernel,by decide +kernel⟩
structure Os_law_other (P:Program) (w:World) (K:PySem.W.Frag) (mg:Str→Option Value) (base:Heap) (G:Adr):Prop where
 law_number:Ok P w K mg base 2 "_law_number" ["_law_script","_law_k"] (sp_law_number K)
 law_row:Ok P w K mg base 1 "_law_row" ["_law_number_here","_law_first","_law_half"] (sp_law_row K)
 law_plus:Ok P w K mg base 1 "_law_plus" ["_law_one","_law_other_here"] (sp_law_plus K)
 law_within:Ok P w K mg base 1 "_law_within" ["_law_row_here","_law_first","_law_half"] (sp_law_within K)
 law_chord:Ok P w K mg base 3 "_law_chord" ["_law_script","_law_at","_law_count"] (sp_law_chord K)
theorem ok_law_other (D:Def K mg "_law_other" s_law_other ["_law_script","_law_chord_here"]) (T:Txt K mg G) (O:Os_law_other P w K mg base G):Ok P w K mg base 4 "_law_other" ["_law_script","_law_chord_here"] (sp_law_other K):=by
 have S:=sc_law_other
 refine D.ok S (fun vs H Q E h=>?_) (fun f cdv A outer s H vs Q E hr h=>?_)
 ·obtain ⟨a,l,ns,xs,cs,rfl,ha,hl,hc,h1,h6,bc,k⟩:=h;rfl
 ·obtain ⟨a,l,ns,xs,cs,rfl,ha,hl,hc,h1,h6,bc,k⟩:=h
  have hu:=hu_of hr
  have c_Board:=T.c_Board
  have n_Board_own_keys:=T.n_Board_own_keys
  have n_Board_octave:=T.n_Board_octave
  have c_Leading:=T.c_Leading
  have n_Leading_ways:=T.n_Leading_ways
  have n_Leading_tone_prices:=T.n_Leading_tone_prices
  have n_Leading_goal_prices:=T.n_Leading_goal_prices
  have n_Leading_goals:=T.n_Leading_goals
  have n_Leading_comers:=T.n_Leading_comers
  refine⟨_,(pss_cons (ps_set (i:=2) S.nd rfl (Or.inl rfl) (pcall O.law_number (hr.mono (by decide)) (pa_cons (pv 0) (pa_cons pe_int pa_nil)))) (pss_cons (ps_set (i:=3) S.nd rfl (Or.inl rfl) (pe_op op_fdiv (pe_op op_fdiv (pv 2) pe_int) (pe_callB (kN_len K rfl) rfl T.b_len PySem.boot_len (pa_cons (pv 1) pa_nil)))) (pss_cons (ps_if (pt_cmpR op_ne (pe_op op_mod (pv 2) pe_int) pe_int (nomark _)) (pss_one (ps_ret (pcall O.law_chord (hr.mono (by decide)) (pa_cons (pv 0) (pa_cons pe_int (pa_cons (pe_callB (kN_len K rfl) rfl T.b_len PySem.boot_len (pa_cons (pv 1) pa_nil)) pa_nil)))))) pss_nil) (pss_cons (ps_set (i:=4) S.nd rfl (Or.inl rfl) (pe_op op_mod (pe_op op_fdiv (pv 2) pe_int) (pe_callB (kN_len K rfl) rfl T.b_len PySem.boot_len (pa_cons (pv 1) pa_nil)))) (pss_cons (ps_set (i:=5) S.nd rfl (Or.inl rfl) (pe_lst pa_nil)) (pss_cons (ps_for PassesOwn.never rfl (kpi_list K rfl (pe_op op_cat (pe_slice (ksl_list K rfl) (pv 1) (po_some (pv 4)) po_none) (pe_slice (ksl_list K rfl) (pv 1) po_none (po_some (pv 4))))) (pg_name (i:=6) S.nd rfl (Or.inl rfl)) (pss_cons (ps_set (i:=7) S.nd rfl (Or.inl rfl) (pe_op op_sub (pe_op op_mod (pv 3) pe_int) pe_int)) (pss_cons (ps_set (i:=3) S.nd rfl (Or.inl rfl) (pe_op op_fdiv (pv 3) pe_int)) (pss_cons (ps_if (PW.pt (pw_and (pt_cmpR op_eq (pe_op op_mod (pe_op op_fdiv (pv 2) pe_int) pe_int) pe_int (nomark _)) (pw_and1 (pt_cmpR (kop_eqD K rfl hr.units) (pv 5) (pe_lst pa_nil) (nomark _))))) (pss_one (ps_set (i:=6) S.nd rfl (Or.inl rfl) (pcall O.law_plus (hr.mono (by decide)) (pa_cons (pv 6) (pa_cons (pcall O.law_row (hr.mono (by decide)) (pa_cons (pcall O.law_number (hr.mono (by decide)) (pa_cons (pv 0) (pa_cons pe_int pa_nil))) (pa_cons pe_int (pa_cons pe_int pa_nil)))) pa_nil))))) pss_nil) (pss_cons (ps_set (i:=6) S.nd rfl (Or.inl rfl) (pcall O.law_plus (hr.mono (by decide)) (@pa_cons _ _ _ _ _ (pv 6) (@pa_cons _ _ _ _ _ (@pe_tup _ _ _ _ _ (pa_cons (pv 7) (pa_cons pe_int (pa_cons pe_int (pa_cons pe_int (pa_cons pe_int pa_nil)))))) pa_nil (by rfl)) (by rfl)))) (pss_one (ps_expr (pe_bm PySem.F.plainAttrs_list PySem.F.slot_list_append PySem.F.type_list_append mt_append (pv 5) (pa_cons (pe_ifExp (pt_val (pcall O.law_within (hr.mono (by decide)) (pa_cons (pv 6) (pa_cons pe_int (pa_cons pe_int pa_nil))))) (pv 6) (pe_ix (kx_seq K rfl) (pv 1) pe_int (fun _ _=>rfl))) pa_nil))))))))) (pss_one (ps_ret (pv 5))))))))),?_⟩
  have hcl:=hc.length
  have hpi:(0:Int)<(xs.length:Int):=by lia
  have hx6:(xs.length:Int)≤6:=by lia
  walk_at "w"
  refine c_law_number ha (by lia) fun c hcn=>?_
  walk_at "w"
  refine if_both (fun h3=>?_) (fun h3=>?_)
  ·walk_at "w"
   refine c_law_chord (b:=9) (n:=xs.length) ha ⟨by lia,by lia⟩ fun l2 H2 ys gs n2 s2 m2 r2 len2 b2=>?_
   walk_at "w"
   exact k l2 H2 ys gs s2 m2 r2 (by lia) b2
  walk_at "w"
  rename_i lm H1 n1 s1 m1
  have hj0:=Int.emod_nonneg (c / 6) (show (xs.length:Int)≠0 by lia)
  obtain ⟨jn,hjn⟩:=Int.eq_ofNat_of_zero_le hj0
  rw [hjn]
  have hd0:0≤c / 6 / (xs.length:Int):=Int.ediv_nonneg (Int.ediv_nonneg hcn.1 (by decide)) (by lia)
  generalize c / 6 / (xs.length:Int)=dg at hd0
  refine r_slLo (s1.seq hl) fun p2 H2 n2 s2 m2=>?_
  walk_at "w"
  refine r_slHi ((s1.trans s2).seq hl) fun p3 H3 n3 s3 m3=>?_
  refine r_cat (s3 _ _ m2) m3 (by rw [List.length_drop,List.length_take];lia) fun p4 H4 n4 s4 m4=>?_
  have s24:=(s2.trans s3).trans s4
  have sH4:=s1.trans s24
  have m14:=s24 _ _ m1
  have rows4:RowsL K H (xs.drop jn++xs.take jn) (cs.drop jn++cs.take jn):=(hc.drop jn).append (hc.take jn)
  have len4:(cs.drop jn++cs.take jn).length=cs.length:=by rw [List.length_append,List.length_drop,List.length_take];lia
  have in4:∀ r∈cs.drop jn++cs.take jn,r∈cs:=fun r hr=>(List.mem_append.mp hr).elim (fun z=>List.mem_of_mem_drop z) (fun z=>List.mem_of_mem_take z)
  generalize cs.drop jn++cs.take jn=cs4 at rows4 len4 in4
  generalize xs.drop jn++xs.take jn=xs4 at rows4 m4
  have len4':=rows4.length
  obtain ⟨q0,e0,h0⟩:=hc.row (List.getElem?_eq_getElem (show 0<cs.length by lia))
  have b0:=bc _ (List.getElem_mem (show 0<cs.length by lia))
  have hn1:H lm=none:=n1
  have hne4:p4≠lm:=fun z=>by
   have e:=(s2.trans s3) _ _ m1
   rw [← z,n4] at e
   cases e
  walk_at "w"
  refine f_invL (xs:=xs4) (fun i σ' H'=>∃ (dg:Int) (o6 o7:Option V) (ys:List V) (gs:List (List Int)),σ'=[some (.ref a),some (.ref l),some (.int c),some (.int dg),some (.int (jn:Int)),some (.ref lm),o6,o7]∧0≤dg∧Same H H'∧H' p4=some (.lst xs4)∧H' lm=some (.lst ys)∧RowsL K H' ys gs∧gs.length=i∧(∀ r∈gs,RB 700 60 r)) ⟨dg,none,none,[],[],rfl,hd0,sH4,m4,m14,.nil,rfl,fun r hr=>absurd hr List.not_mem_nil⟩ (fun i σ' H' hP=>?_) (fun i y σ' H' hy hP=>?_) (fun σ' H' hP=>?_)
  ·obtain ⟨_,_,_,_,_,_,_,_,e,_⟩:=hP
   exact SqL.of e
  ·obtain ⟨dg,o6,o7,ys,gs,rfl,hd0,sH,m4',ml,hg,hlen,hb⟩:=hP
   have hil:=(List.getElem?_eq_some_iff.mp hy).1
   obtain ⟨p,r,rfl,hp,er⟩:=rows4.get hy
   have hbr:=bc r (in4 r (List.mem_of_getElem? er))
   have ha':=sH.seq ha
   walk_at "j"
   refine join (fun σ' H2=>∃ (p':Addr) (x0 x1 x2 x3 x4:Int),σ'=[some (.ref a),some (.ref l),some (.int c),some (.int (dg / 19)),some (.int (jn:Int)),some (.ref lm),some (.ref p'),some (.int (dg % 19 - 9))]∧Same H' H2∧SqT K H2 p' [.int x0,.int x1,.int x2,.int x3,.int x4]) (fun nx hnx=>?_) (fun σ' H2 hP=>?_)
   ·obtain ⟨x0,x1,x2,x3,x4,rfl,_⟩:=hbr
    have hp':SqT K H' p [.int x0,.int x1,.int x2,.int x3,.int x4]:=sH.at hp
    walk_at "w"
    refine if_both (fun h5=>?_) (fun h5=>?_)
    ·walk_at "w"
     rename_i p5 H5 n5 s5 m5
     refine r_eqD (.lst (SqL.of (s5 _ _ ml)) (hg.same s5).tells) (.lst (SqL.of m5) .nil) (shaped_rows _) (shaped_rows []) ?_
     walk_at "w"
     refine if_both (fun h6=>?_) (fun h6=>?_)
     ·walk_at "w"
      refine c_law_number (s5.seq ha') (by lia) fun c2 hc2=>?_
      walk_at "w"
      refine c_law_row hc2.1 (by decide) (by decide) fun p7 r7 H7 s7 m7 hb7=>?_
      obtain ⟨y0,y1,y2,y3,y4,rfl,_⟩:=hb7
      have hp7:SqT K H7 p [.int x0,.int x1,.int x2,.int x3,.int x4]:=(s5.trans s7).at hp'
      have m7':SqT K H7 p7 [.int y0,.int y1,.int y2,.int y3,.int y4]:=SqT.of m7
      walk_at "w"
      rename_i p8 H8 s8 m8
      exact hnx _ _ ⟨p8,_,_,_,_,_,rfl,(s5.trans s7).trans s8,SqT.of m8⟩
     ·walk_at "w"
      exact hnx _ _ ⟨p,x0,x1,x2,x3,x4,rfl,s5,s5.at hp'⟩
    ·walk_at "w"
     exact hnx _ _ ⟨p,x0,x1,x2,x3,x4,rfl,Same.refl _,hp'⟩
   obtain ⟨p',x0,x1,x2,x3,x4,rfl,s2',hp2⟩:=hP
   have fin:∀ (Hz:Hp) (pz:Addr) (rz:List Int) (o6 o7:Option V),Same H' Hz→SqT K Hz pz (rz.map V.int)→RB 700 60 rz→(∃ (dg':Int) (o6' o7':Option V) (ys':List V) (gs':List (List Int)),[some (.ref a),some (.ref l),some (.int c),some (.int (dg / 19)),some (.int (jn:Int)),some (.ref lm),o6,o7]=[some (.ref a),some (.ref l),some (.int c),some (.int dg'),some (.int (jn:Int)),some (.ref lm),o6',o7']∧0≤dg'∧Same H (upd Hz lm (.lst (ys++[.ref pz])))∧(upd Hz lm (.lst (ys++[.ref pz]))) p4=some (.lst xs4)∧(upd Hz lm (.lst (ys++[.ref pz]))) lm=some (.lst ys')∧RowsL K (upd Hz lm (.lst (ys++[.ref pz]))) ys' gs'∧gs'.length=i+1∧(∀ r∈gs',RB 700 60 r)):=fun Hz pz rz o6 o7 sz hpz hbz =>
    ⟨_,_,_,ys++[.ref pz],gs++[rz],rfl,Int.ediv_nonneg hd0 (by decide),fun b' o e=>by rw [upd_ne (fun z=>by rw [z,hn1] at e;cases e)];exact sz _ _ (sH _ _ e),by rw [upd_ne hne4];exact sz _ _ m4',upd_same,((hg.same sz).snoc hpz).off (sz _ _ ml),by rw [List.length_append,List.length_singleton,hlen],fun r' h'=>(List.mem_append.mp h').elim (hb r') fun z=>by rw [List.mem_singleton.mp z];exact hbz⟩
   have hgl:=hg.length
   walk_at "w"
   rename_i p5 H5 s5 m5 p6 H6 s6 m6
   have s26:=(s2'.trans s5).trans s6
   have ml6:=s26 _ _ ml
   refine c_law_within (r:=[x0+(dg % 19 - 9),x1+0,x2+0,x3+0,x4+0]) (SqT.of m6) rfl fun bw H7 s7 hbw=>?_
   have s27:=s26.trans s7
   have ml7:=s7 _ _ ml6
   have m67:=s7 _ _ m6
   walk_at "w"
   refine if_both (fun hw=>?_) (fun hw=>?_)
   ·walk_at "w"
    refine r_append ml7 (by lia) ?_
    walk_at "w"
    exact fin H7 p6 [x0+(dg % 19 - 9),x1+0,x2+0,x3+0,x4+0] _ _ s27 (SqT.of m67) (hbw hw)
   ·walk_at "w"
    refine r_ixL (s27.seq (sH.seq hl)) (atI_nat (j:=0) e0) ?_
    walk_at "w"
    refine r_append ml7 (by lia) ?_
    walk_at "w"
    exact fin H7 q0 _ _ _ s27 (s27.at (sH.at h0)) b0
  obtain ⟨dg,o6,o7,ys,gs,rfl,hd0,sH,m4',ml,hg,hlen,hb⟩:=hP
  walk_at "w"
  exact k lm H' ys gs sH ml hg (by lia) hb
theorem sc_Board_sound:FnScope ["self","row"] ["self","row"] (defScope s_Board_sound):=⟨rfl,rfl,rfl,by decide +kernel,rfl,by decide +kernel,by decide +kernel⟩
structure Os_Board_sound (P:Program) (w:World) (K:PySem.W.Frag) (mg:Str→Option Value) (base:Heap) (G:Adr):Prop where
 values:Ok P w K mg base 3 "values" ["keys","row"] (sp_values K)
theorem ok_Board_sound (D:DefM K G.f_Board_sound "sound" "Board.sound" s_Board_sound ["self","row"]) (T:Txt K mg G) (O:Os_Board_sound P w K mg base G):OkM P w K mg base 4 G.f_Board_sound ["self","row"] (sp_Board_sound K):=by
 have S:=sc_Board_sound
 refine D.ok S (fun vs H Q E h=>?_) (fun f cdv A outer s H vs Q E hr h=>?_)
 ·obtain ⟨b,r,w,rs,rfl,hb,hra,h5,hf,k⟩:=h;rfl
 ·obtain ⟨b,r,w,rs,rfl,hb,hra,h5,hf,k⟩:=h
  have hu:=hu_of hr
  have c_Board:=T.c_Board
  have n_Board_own_keys:=T.n_Board_own_keys
  have n_Board_octave:=T.n_Board_octave
  have c_Leading:=T.c_Leading
  have n_Leading_ways:=T.n_Leading_ways
  have n_Leading_tone_prices:=T.n_Leading_tone_prices
  have n_Leading_goal_prices:=T.n_Leading_goal_prices
  have n_Leading_goals:=T.n_Leading_goals
  have n_Leading_comers:=T.n_Leading_comers
  refine⟨_,(pss_one (ps_ret (pe_ix (kx_seq K rfl) (pcall O.values (hr.mono (by decide)) (pa_cons (kpe_fld K rfl (pv 0) rfl) (pa_cons (pv 1) pa_nil))) pe_int (fun _ _=>rfl)))),?_⟩
  obtain ⟨C,dx,l,kk,hC,e1,e2,hk,h5w,hfw,h1⟩:=hb
  obtain rfl:G.a_Board=C:=by have:=T.w_Board;rw [hC] at this;cases this;rfl
  walk_at "w"
  refine c_values (SqL.of e2) hk (Nat.le_of_ble_eq_true rfl) (good_key h5w hfw) hra h5 hf fun p H' s m=>?_
  walk_at "w"
  exact k _ s
theorem sc_way:FnScope ["board","one","other","start","up","down"] ["board","one","other"] (defScope s_way):=⟨rfl,rfl,rfl,by decide +kernel,rfl,by decide +kernel,by decide +kernel⟩
structure Os_way (P:Program) (w:World) (K:PySem.W.Frag) (mg:Str→Option Value) (base:Heap) (G:Adr):Prop where
 Board_sound:OkM P w K mg base 4 G.f_Board_sound ["self","row"] (sp_Board_sound K)
theorem ok_way (D:Def K mg "way" s_way ["board","one","other"]) (T:Txt K mg G) (O:Os_way P w K mg base G):Ok P w K mg base 5 "way" ["board","one","other"] (sp_way K):=by
 have S:=sc_way
 refine D.ok S (fun vs H Q E h=>?_) (fun f cdv A outer s H vs Q E hr h=>?_)
 ·obtain ⟨b,p,q,w,ra,rb,rfl,hb,hp,hq,la,lb,fa,fb,k⟩:=h;rfl
 ·obtain ⟨b,p,q,w,ra,rb,rfl,hb,hp,hq,la,lb,fa,fb,k⟩:=h
  have hu:=hu_of hr
  have c_Board:=T.c_Board
  have n_Board_own_keys:=T.n_Board_own_keys
  have n_Board_octave:=T.n_Board_octave
  have c_Leading:=T.c_Leading
  have n_Leading_ways:=T.n_Leading_ways
  have n_Leading_tone_prices:=T.n_Leading_tone_prices
  have n_Leading_goal_prices:=T.n_Leading_goal_prices
  have n_Leading_goals:=T.n_Leading_goals
  have n_Leading_comers:=T.n_Leading_comers
  refine⟨_,(pss_cons (ps_set (i:=3) S.nd rfl (Or.inl rfl) (pmeth O.Board_sound T.c_Board T.m_Board_sound (hr.mono (by decide)) (pv 0) (pa_cons (pv 1) pa_nil))) (pss_cons (ps_set (i:=4) S.nd rfl (Or.inl rfl) (pe_op op_mod (pe_op op_sub (pmeth O.Board_sound T.c_Board T.m_Board_sound (hr.mono (by decide)) (pv 0) (pa_cons (pv 2) pa_nil)) (pv 3)) (kpe_fld K rfl (pv 0) rfl))) (pss_cons (ps_set (i:=5) S.nd rfl (Or.inl rfl) (pe_op op_sub (kpe_fld K rfl (pv 0) rfl) (pv 4))) (pss_one (ps_ret (pe_ifExp (pt_cmpR op_lt (pv 4) (pv 5) (nomark _)) (pe_tup (pa_cons (pv 4) (pa_cons (pe_op op_add (pv 3) (pv 4)) pa_nil))) (pe_tup (pa_cons (pv 5) (pa_cons (pe_op op_sub (pv 3) (pv 5)) pa_nil))))))))),?_⟩
  have hb0:=hb
  obtain ⟨C,dx,l,kk,hC,e1,e2,hk,h5w,hfw,h1⟩:=hb
  obtain rfl:G.a_Board=C:=by have:=T.w_Board;rw [hC] at this;cases this;rfl
  walk_at "w"
  refine c_Board_sound hb0 hp la fa fun H1 s1=>?_
  have e11:=s1 _ _ e1
  walk_at "w"
  refine c_Board_sound (hb0.same s1) (s1.at hq) lb fb fun H2 s2=>?_
  have e12:=s2 _ _ e11
  have hpos:(0:Int)<w.getD 0 0:=by lia
  walk_at "w"
  have kk2:=k
  unfold wayV at kk2
  refine if_both (fun hc=>?_) (fun hc=>?_)
  ·walk_at "w"
   rename_i p3 H3 s3 m3
   refine kk2 p3 H3 ((s1.trans s2).trans s3) ?_
   rw [if_pos (of_decide_eq_true hc)]
   exact SqT.of m3
  ·walk_at "w"
   rename_i p3 H3 s3 m3
   refine kk2 p3 H3 ((s1.trans s2).trans s3) ?_
   rw [if_neg (of_decide_eq_false hc)]
   exact SqT.of m3
theorem sc_ways_from:FnScope ["board","one","goal"] ["board","one","goal"] (defScope s_ways_from):=⟨rfl,rfl,rfl,by decide +kernel,rfl,by decide +kernel,by decide +kernel⟩
structure Os_ways_from (P:Program) (w:World) (K:PySem.W.Frag) (mg:Str→Option Value) (base:Heap) (G:Adr):Prop where
 way:Ok P w K mg base 5 "way" ["board","one","other"] (sp_way K)
theorem ok_ways_from (D:Def K mg "ways_from" s_ways_from ["board","one","goal"]) (T:Txt K mg G) (O:Os_ways_from P w K mg base G):Ok P w K mg base 6 "ways_from" ["board","one","goal"] (sp_ways_from K):=by
 have S:=sc_ways_from
 refine D.ok S (fun vs H Q E h=>?_) (fun f cdv A outer s H vs Q E hr h=>?_)
 ·obtain ⟨b,p,l,w,ra,xs,gs,rfl,hb,hp,hl,hg,la,fa,hn,lg,k⟩:=h;rfl
 ·obtain ⟨b,p,l,w,ra,xs,gs,rfl,hb,hp,hl,hg,la,fa,hn,lg,k⟩:=h
  have hu:=hu_of hr
  have c_Board:=T.c_Board
  have n_Board_own_keys:=T.n_Board_own_keys
  have n_Board_octave:=T.n_Board_octave
  have c_Leading:=T.c_Leading
  have n_Leading_ways:=T.n_Leading_ways
  have n_Leading_tone_prices:=T.n_Leading_tone_prices
  have n_Leading_goal_prices:=T.n_Leading_goal_prices
  have n_Leading_goals:=T.n_Leading_goals
  have n_Leading_comers:=T.n_Leading_comers
  refine⟨_,(pss_one (ps_ret (pe_comp (N:=["other","board","one"]) (ix:=[none,some 0,some 1]) rfl (kpi_list K rfl (pv 2)) (fun _ _ _ _ _=>(pg_name (i:=0) (show List.Nodup (["other","board","one"]:List Str) by decide +kernel) rfl (Or.inl rfl))) (fun _ _ _ _ _=>rfl) (fun _ _ _ _ _=>(pcall O.way (hr.mono (by decide)) (pa_cons (pv 1) (pa_cons (pv 2) (pa_cons (pv 0) pa_nil))))) rfl (by decide +kernel) (by decide +kernel) rfl ⟨⟨rfl,Or.inr (Or.inl rfl),rfl,rfl⟩,⟨⟨rfl,Or.inr (Or.inl rfl),rfl,rfl⟩,True.intro⟩⟩))),?_⟩
  walk_at "w"
  refine rd_mapRows [some (.ref b),some (.ref p)] (wayV w ra) rfl hl hg (by lia) (fun a r H' Qc hr s ha kc=>?_) (fun l2 H' ys n2 s2 m2 r2=>?_)
  ·walk_at "w"
   exact c_way (hb.same s) (s.at hp) ha la (lg r hr).1 fa (lg r hr).2 fun q H5 s5 m5=>kc q H5 s5 m5
  exact k l2 H' ys n2 s2 m2 r2
theorem sc_Leading_nearest:FnScope ["self","tones","origins","goals","pairs","tone"] ["self","tones","origins"] (defScope s_Leading_nearest):=⟨rfl,rfl,rfl,by decide +kernel,rfl,by decide +kernel,by decide +kernel⟩
structure Os_Leading_nearest (P:Program) (w:World) (K:PySem.W.Frag) (mg:Str→Option Value) (base:Heap) (G:Adr):Prop where
 Leading_room:OkM P w K mg base 1 G.f_Leading_room ["self","tone","goal"] (sp_Leading_room K)
theorem ok_Leading_nearest (D:DefMT K G.f_Leading_nearest "nearest" "Leading.nearest" s_Leading_nearest ["self","tones","origins"] G.c_lam) (T:Txt K mg G) (O:Os_Leading_nearest P w K mg base G) (B:PySem.W.CodeHd base G.c_lam (tabPM K "Leading" "nearest")∧base.BuiltinsAt mg (tabPM K "Leading" "nearest")):OkM P w K mg base 6 G.f_Leading_nearest ["self","tones","origins"] (sp_Leading_nearest K):=by
 have S:=sc_Leading_nearest
 refine D.ok S (fun vs H Q E h=>?_) (fun f A outer s H vs Q E hr h=>?_)
 ·obtain ⟨H0,x,wl,au,av,ag,ac,n,wy,u,v,g,c,ta,d,ts,os,rfl,hL,hT,hta,hd,hne,hlt,hl6,hfree,k⟩:=h;rfl
 ·obtain ⟨H0,x,wl,au,av,ag,ac,n,wy,u,v,g,c,ta,d,ts,os,rfl,hL,hT,hta,hd,hne,hlt,hl6,hfree,k⟩:=h
  have hu:=hu_of hr
  have c_Board:=T.c_Board
  have n_Board_own_keys:=T.n_Board_own_keys
  have n_Board_octave:=T.n_Board_octave
  have c_Leading:=T.c_Leading
  have n_Leading_ways:=T.n_Leading_ways
  have n_Leading_tone_prices:=T.n_Leading_tone_prices
  have n_Leading_goal_prices:=T.n_Leading_goal_prices
  have n_Leading_goals:=T.n_Leading_goals
  have n_Leading_comers:=T.n_Leading_comers
  refine⟨_,(pss_cons (ps_setC (k:=3) (N:=["goal","origins"]) (ix:=[none,some 2]) S.nd rfl (Or.inl rfl) rfl (pi_range1 rfl T.b_range (pa_cons (pe_callB (kN_len K rfl) rfl T.b_len PySem.boot_len (pa_cons (kpe_fld K rfl (pv 0) rfl) pa_nil)) pa_nil)) (fun _ _ _ _ _=>(pg_name (i:=0) (show List.Nodup (["goal","origins"]:List Str) by decide +kernel) rfl (Or.inl rfl))) (fun _ _ _ _ _=>(pt_cmpR (op_notInK (Nat.lt_of_le_of_lt (Nat.add_le_add_left (by decide) _) hr.units)) (pv 0) (pv 1) (by with_unfolding_all rfl))) (fun _ _ _ _ _=>(pv 0)) rfl (by decide +kernel) (by decide +kernel) rfl ⟨⟨rfl,Or.inr (Or.inl rfl),rfl,rfl⟩,True.intro⟩) (pss_cons (ps_set (i:=4) S.nd rfl (Or.inl rfl) (pe_lst pa_nil)) (pss_cons (ps_for PassesOwn.never rfl (kpi_list K rfl (pv 1)) (pg_name (i:=5) S.nd rfl (Or.inr rfl)) (pss_one (ps_expr (pe_bm PySem.F.plainAttrs_list PySem.F.slot_list_extend PySem.F.type_list_extend mt_extend (pv 4) (pa_cons (pe_comp (N:=["goal","tone"]) (ix:=[none,some 5]) rfl (kpi_list K rfl (pv 3)) (fun _ _ _ _ _=>(pg_name (i:=0) (show List.Nodup (["goal","tone"]:List Str) by decide +kernel) rfl (Or.inl rfl))) (fun _ _ _ _ _=>rfl) (fun _ _ _ _ _=>(pe_tup (pa_cons (pv 1) (pa_cons (pv 0) pa_nil)))) rfl (by decide +kernel) (by decide +kernel) rfl ⟨⟨rfl,Or.inr (Or.inl rfl),rfl,rfl⟩,True.intro⟩) pa_nil))))) (pss_one (ps_ret (kpe_minL (k:=0) (q:="Leading.nearest.<locals>.<lambda>") (lp:=lpN) (y:="pair") (fns:=["self"]) (ixs:=[some 0]) K rfl rfl (hr.mono (by decide)) (pv 4) rfl B.1 B.2 (fun _ _ _ _ _=>rfl) (fun _ _ _ _=>(pmeth O.Leading_room T.c_Leading T.m_Leading_room (((Room.in1 (hr.mono (show 1+2≤_ by decide))).deeper _).mono (by decide)) (pv 1) (pa_cons (pe_ix (kx_seq K rfl) (pv 0) pe_int (fun _ _=>rfl)) (pa_cons (pe_ix (kx_seq K rfl) (pv 0) pe_int (fun _ _=>rfl)) pa_nil)))) rfl rfl rfl rfl (by decide +kernel) rfl ⟨⟨rfl,Or.inr (Or.inl rfl),rfl,rfl⟩,True.intro⟩ rfl rfl T.b_min PyProof.Rows.boot_min)))))),?_⟩
  obtain ⟨C,dx,hC,hx⟩:=hL.ins
  obtain rfl:G.a_Leading=C:=by have:=T.w_Leading;rw [hC] at this;cases this;rfl
  obtain ⟨xs,w1,w2,w3⟩:=hL.waysAt
  subst w2
  have hn6:=hL.few
  have hxl:xs.length≤6:=by lia
  walk_at "v"
  refine rd_rangeFilter (n:=xs.length) [some (.ref d)] (fun i=>!decide (i∈os.map Prod.fst)) rfl (by lia) (fun i H' Qc hi s kc=>?_) (fun i H' Qc hi s kc=>?_) (fun l1 H1 n1 s1 m1=>?_)
  ·walk_at "v"
   refine r_notInK (s _ _ hd) ?_
   rw [kv_has]
   walk_at "v"
   exact kc _ (Same.refl _)
  ·walk_at "v"
   exact kc _ (Same.refl _)
  have gm:∀ j,j∈(List.range xs.length).filter (fun i=>!decide (i∈os.map Prod.fst))↔j<xs.length∧j∉os.map Prod.fst:=fun j=>by
   rw [List.mem_filter,List.mem_range,Bool.not_eq_true',decide_eq_false_iff_not]
  have gl6:((List.range xs.length).filter (fun i=>!decide (i∈os.map Prod.fst))).length≤6:=by
   have:=List.length_filter_le (fun i=>!decide (i∈os.map Prod.fst)) (List.range xs.length)
   rw [List.length_range] at this
   lia
  generalize (List.range xs.length).filter (fun i=>!decide (i∈os.map Prod.fst))=gl at m1 gm gl6
  walk_at "v"
  rename_i l2 H2 n2 s2 m2
  have hta2:=(s1.trans s2).seq hta
  walk_at "v"
  refine f_invL (xs:=lsN ts) (fun i σ' H'=>∃ (o5:Option V) (ys:List V),σ'=[some (.ref x),some (.ref ta),some (.ref d),some (.ref l1),some (.ref l2),o5]∧Same H1 H'∧H' l2=some (.lst ys)∧RowsL K H' ys ((pq (ts.take i) gl).map rw2)) ⟨none,[],rfl,s2,m2,.nil⟩ (fun i σ' H' hP=>?_) (fun i y σ' H3 hy hP=>?_) (fun σ' H3 hP=>?_)
  ·obtain ⟨o5,ys,_,s3,_,_⟩:=hP
   exact (s1.trans s3).seq hta
  ·obtain ⟨o5,ys,rfl,s3,m3,r3⟩:=hP
   obtain ⟨t,hy',rfl⟩:=lsN_get hy
   have hm1:=s3 _ _ m1
   walk_at "v"
   refine rd_listRowsX (f:=fun i=>rw2 (t,gl.getD i 0)) [some (.int (t:Int))] rfl (SqL.of hm1) (by rw [List.length_map];lia) (fun i z H' Qc hz s kc=>?_) (fun l4 H4 ys4 n4 s4 m4 r4=>?_)
   ·obtain ⟨j,hj',rfl⟩:=lsN_get (ts:=gl) hz
    walk_at "v"
    rename_i p5 H5 s5 m5
    refine kc p5 H5 s5 (SqT.of ?_)
    rw [m5,List.getD_eq_getElem?_getD,hj']
    rfl
   rw [List.length_map,range_getD (fun j=>rw2 (t,j))] at r4
   have m34:=s4 _ _ m3
   have e3:=r3.length
   have e4:=r4.length
   rw [List.length_map,pq_len] at e3
   rw [List.length_map] at e4
   have ht6:(ts.take i).length≤6:=by rw [List.length_take];lia
   have hb:(ts.take i).length*gl.length≤6*6:=Nat.mul_le_mul ht6 gl6
   walk_at "v"
   refine r_extend m34 m4 (by lia) ?_
   walk_at "v"
   refine⟨_,ys++ys4,rfl,fun b o e=>?_,upd_same,?_⟩
   ·have nb:b≠l2:=fun z=>by rw [z,n2] at e;cases e
    rw [upd_ne nb]
    exact s4 _ _ (s3 _ _ e)
   ·rw [take_snoc hy',pq_snoc,List.map_append,List.map_map]
    exact ((r3.same s4).append r4).off m34
  obtain ⟨o5,ys,rfl,s3,m3,r3⟩:=hP
  rw [lsN_len,List.take_length] at r3
  have sH:=s1.trans s3
  have hT3:=hT.same sH
  have hL3:=hL.keep hT (SameT.of sH)
  have e3:=r3.length
  rw [List.length_map] at e3
  obtain ⟨j0,hj0,hj0'⟩:=hfree
  obtain ⟨t0,ht0⟩:=List.exists_mem_of_ne_nil _ hne
  have hpos:0<ys.length:=by
   rw [← e3]
   exact List.length_pos_of_mem (pq_mem.mpr ⟨ht0,(gm j0).mpr ⟨hj0,hj0'⟩⟩:(t0,j0)∈pq ts gl)
  have row:∀ (i:Nat) (y:V),ys[i]?=some y→∃ (a:Addr) (t j:Nat),y=.ref a∧SqT K H3 a [.int (t:Int),.int (j:Int)]∧(pq ts gl)[i]?=some (t,j)∧t∈ts∧j<xs.length∧j∉os.map Prod.fst:=fun i y hy=>by
   obtain ⟨a,r,e1,e2,e3⟩:=r3.get hy
   rw [List.getElem?_map] at e3
   cases h:(pq ts gl)[i]? with
   | none=>rw [h] at e3;cases e3
   | some p =>
    rw [h] at e3
    cases e3
    have hp:=pq_mem.mp (List.mem_of_getElem? h)
    exact⟨a,p.1,p.2,e1,e2,rfl,hp.1,((gm _).mp hp.2).1,((gm _).mp hp.2).2⟩
  walk_at "v"
  refine rd_minL (fun i=>Wof wy ((pq ts gl).getD i (0,0)).1 ((pq ts gl).getD i (0,0)).2 - u ((pq ts gl).getD i (0,0)).1 - v ((pq ts gl).getD i (0,0)).2) hT3 (SqL.of m3) hpos (fun i y hy H4 s4=>?_) (fun i y H4 s4 hT4 hy hmin=>?_)
  ·obtain ⟨a,t,j,rfl,ha,hp,htm,hj,hjn⟩:=row i y hy
   have hL4:=hL3.keep hT3 s4
   have ha4:=s4.at hT3 ha
   obtain ⟨C2,dx2,hC2,hx2⟩:=hL4.ins
   obtain rfl:G.a_Leading=C2:=by have:=T.w_Leading;rw [hC2] at this;cases this;rfl
   walk_at "w"
   refine c_Leading_room hL4 (hlt t htm) hj fun H5 s5=>⟨?_,s5⟩
   rw [List.getD_eq_getElem?_getD,hp]
   rfl
  ·obtain ⟨a,t,j,rfl,ha,hp,htm,hj,hjn⟩:=row i y hy
   refine k a H4 t j ((SameT.of sH).trans s4) hT4 (s4.at hT3 ha) htm hj hjn fun t' ht' j' hj' hjn'=>?_
   obtain ⟨i',hi',ei'⟩:=List.mem_iff_getElem.mp (pq_mem.mpr ⟨ht',(gm j').mpr ⟨hj',hjn'⟩⟩:(t',j')∈pq ts gl)
   have hm:=hmin i' (by rw [← e3];exact hi')
   rw [List.getD_eq_getElem?_getD,hp,List.getD_eq_getElem?_getD,List.getElem?_eq_getElem hi',ei'] at hm
   exact hm
theorem sc_Leading_lead:FnScope ["self","first","tones","origins","pair","comer"] ["self","first"] (defScope s_Leading_lead):=⟨rfl,rfl,rfl,by decide +kernel,rfl,by decide +kernel,by decide +kernel⟩
structure Os_Leading_lead (P:Program) (w:World) (K:PySem.W.Frag) (mg:Str→Option Value) (base:Heap) (G:Adr):Prop where
 Leading_nearest:OkM P w K mg base 6 G.f_Leading_nearest ["self","tones","origins"] (sp_Leading_nearest K)
 Leading_room:OkM P w K mg base 1 G.f_Leading_room ["self","tone","goal"] (sp_Leading_room K)
 Leading_shift:OkM P w K mg base 1 G.f_Leading_shift ["self","tones","origins","amount"] (sp_Leading_shift K)
 Leading_turn:OkM P w K mg base 1 G.f_Leading_turn ["self","goal","origins"] (sp_Leading_turn K)
theorem ok_Leading_lead (D:DefM K G.f_Leading_lead "lead" "Leading.lead" s_Leading_lead ["self","first"]) (T:Txt K mg G) (O:Os_Leading_lead P w K mg base G):OkM P w K mg base 7 G.f_Leading_lead ["self","first"] (sp_Leading_lead K):=by
 have S:=sc_Leading_lead
 refine D.ok S (fun vs H Q E h=>?_) (fun f cdv A outer s H vs Q E hr h=>?_)
 ·obtain ⟨H0,x,wl,au,av,ag,ac,n,wy,u,v,g,c,first,rfl,hL,hT,hM,gf,hf,k⟩:=h;rfl
 ·obtain ⟨H0,x,wl,au,av,ag,ac,n,wy,u,v,g,c,first,rfl,hL,hT,hM,gf,hf,k⟩:=h
  have hu:=hu_of hr
  have c_Board:=T.c_Board
  have n_Board_own_keys:=T.n_Board_own_keys
  have n_Board_octave:=T.n_Board_octave
  have c_Leading:=T.c_Leading
  have n_Leading_ways:=T.n_Leading_ways
  have n_Leading_tone_prices:=T.n_Leading_tone_prices
  have n_Leading_goal_prices:=T.n_Leading_goal_prices
  have n_Leading_goals:=T.n_Leading_goals
  have n_Leading_comers:=T.n_Leading_comers
  refine⟨_,(pss_cons (ps_set (i:=2) S.nd rfl (Or.inl rfl) (pe_lst pa_nil)) (pss_cons (ps_set (i:=3) S.nd rfl (Or.inl rfl) pe_dnewK) (pss_cons (ps_set (i:=4) S.nd rfl (Or.inl rfl) (pe_tup (pa_cons (pv 1) (pa_cons pe_non pa_nil)))) (pss_cons (ps_set (i:=5) S.nd rfl (Or.inl rfl) (pv 1)) (pss_cons (ps_while PassesOwn.never (pt_cmpR op_notN (pv 5) pe_non (nomark _)) (pss_cons (ps_expr (pe_bm PySem.F.plainAttrs_list PySem.F.slot_list_append PySem.F.type_list_append mt_append (pv 2) (pa_cons (pv 5) pa_nil))) (pss_cons (ps_set (i:=4) S.nd rfl (Or.inl rfl) (pmeth O.Leading_nearest T.c_Leading T.m_Leading_nearest (hr.mono (by decide)) (pv 0) (pa_cons (pv 2) (pa_cons (pv 3) pa_nil)))) (pss_cons (ps_expr (pmeth O.Leading_shift T.c_Leading T.m_Leading_shift (hr.mono (by decide)) (pv 0) (pa_cons (pv 2) (pa_cons (pv 3) (pa_cons (pmeth O.Leading_room T.c_Leading T.m_Leading_room (hr.mono (by decide)) (pv 0) (pa_cons (pe_ix (kx_seq K rfl) (pv 4) pe_int (fun _ _=>rfl)) (pa_cons (pe_ix (kx_seq K rfl) (pv 4) pe_int (fun _ _=>rfl)) pa_nil))) pa_nil))))) (pss_cons (ps_dput hu (pv 3) (pe_ix (kx_seq K rfl) (pv 4) pe_int (fun _ _=>rfl)) (pe_ix (kx_seq K rfl) (pv 4) pe_int (fun _ _=>rfl)) rfl) (pss_one (ps_set (i:=5) S.nd rfl (Or.inl rfl) (pe_ix (kx_seq K rfl) (kpe_fld K rfl (pv 0) rfl) (pe_ix (kx_seq K rfl) (pv 4) pe_int (fun _ _=>rfl)) (fun _ _=>rfl))))))))) (pss_one (ps_expr (pmeth O.Leading_turn T.c_Leading T.m_Leading_turn (hr.mono (by decide)) (pv 0) (pa_cons (pe_ix (kx_seq K rfl) (pv 4) pe_int (fun _ _=>rfl)) (pa_cons (pv 3) pa_nil)))))))))),?_⟩
  obtain ⟨C,dx,hC,hx⟩:=hL.ins
  obtain rfl:G.a_Leading=C:=by have:=T.w_Leading;rw [hC] at this;cases this;rfl
  walk_at "v"
  rename_i ta H1 na s1 ma
  refine r_dnewK fun d H2 nd s2 md=>?_
  walk_at "v"
  rename_i pp H3 s3 mp
  have sH:=(s1.trans s2).trans s3
  have hL3:=hL.keep hT (SameT.of sH)
  have hT3:=hT.same sH
  have hn6:=hL.few
  have h0a:H0 ta=none:=hL.sm.new hT na
  have ndH:H d=none:=by
   match h:H d with
   | none=>rfl
   | some o=>rw [s1 _ _ h] at nd;cases nd
  have h0d:H0 d=none:=hL.sm.new hT ndH
  have nau:ta≠au:=fun z=>by rw [z,hL.lu] at na;cases na
  have nav:ta≠av:=fun z=>by rw [z,hL.lv] at na;cases na
  have nag:ta≠ag:=fun z=>by rw [z,hL.lg] at na;cases na
  have nac:ta≠ac:=fun z=>by rw [z,hL.lc] at na;cases na
  have nax:ta≠x:=fun z=>by rw [z,hx] at na;cases na
  walk_at "v"
  refine f_while (fun m σ' H'=>∃ (pp:Addr) (cm:Option Nat) (ts:List Nat) (os:List (Nat×Nat)) (u' v':Nat→Int),σ'=[some (.ref x),some (.int (first:Int)),some (.ref ta),some (.ref d),some (.ref pp),some (oV cm)]∧LdS K H0 H' x wl au av ag ac n wy u' v' g c∧TabL K H'∧H' ta=some (.lst (lsN ts))∧H' d=some (.dK (kvO os))∧Mat.Mt n (Wof wy) u' v' g c∧Mat.Tr n (Wof wy) u' v' c first ts os cm∧m=n - ts.length∧(cm=none→∃ rs j t,os=rs++[(j,t)]∧SqT K H' pp [.int ((t:Nat):Int),.int ((j:Nat):Int)])) n ⟨pp,some first,[],[],u,v,rfl,hL3,hT3,s3 _ _ (s2 _ _ ma),s3 _ _ md,hM,Mat.Tr.start hM,rfl,fun z=>nomatch z⟩ (fun m σ' H' hP=>?_)
  obtain ⟨pp,cm,ts,os,u',v',rfl,hL4,hT4,m4,d4,hM4,hR4,rfl,hend⟩:=hP
  cases cm with
  | none =>
   obtain ⟨rs,j,t,e,hp⟩:=hend rfl
   walk_at "v"
   refine⟨rfl,?_⟩
   rw [show (!decide (oV none=V.non))=false from rfl]
   walk_at "v"
   rw [if_neg (by decide)]
   obtain ⟨C2,dx2,hC2,hx2⟩:=hL4.ins
   obtain rfl:G.a_Leading=C2:=by have:=T.w_Leading;rw [hC2] at this;cases this;rfl
   walk_at "w"
   exact c_Leading_turn hL4 hT4 d4 hM4 hR4 gf (Mat.Tn.start hR4 hM4 e) fun H' g' c' a1 a2 a3 a4=>k H' u' v' g' c' a1 a2 a3 a4
  | some m =>
   walk_at "v"
   refine⟨rfl,?_⟩
   rw [show (!decide (oV (some m)=V.non))=true from rfl]
   walk_at "v"
   rw [if_pos rfl]
   refine w_go ?_
   obtain ⟨hmn,hmt⟩:=hR4.fresh hM4 gf hf
   obtain ⟨hlen,hfree⟩:=hR4.room hM4 gf hf
   have hda:d≠ta:=fun z=>by rw [z,m4] at d4;cases d4
   walk_at "v"
   refine r_append m4 (by rw [lsN_len];lia) ?_
   rw [show lsN ts++[oV (some m)]=lsN (ts++[m]) by unfold lsN;rw [List.map_append];rfl]
   have hL5:=hL4.other (o:=.lst (lsN (ts++[m]))) h0a nax nau nav nag nac
   have hT5:=hT4.off (zs:=lsN (ts++[m])) m4
   have m5:(upd H' ta (.lst (lsN (ts++[m])))) ta=some (.lst (lsN (ts++[m]))):=upd_same
   have d5:(upd H' ta (.lst (lsN (ts++[m])))) d=some (.dK (kvO os)):=by rw [upd_ne hda];exact d4
   generalize upd H' ta (.lst (lsN (ts++[m])))=H5 at hL5 hT5 m5 d5 ⊢
   obtain ⟨C5,dx5,hC5,hx5⟩:=hL5.ins
   obtain rfl:G.a_Leading=C5:=by have:=T.w_Leading;rw [hC5] at this;cases this;rfl
   have hl1:(ts++[m]).length≤6:=by rw [List.length_append,List.length_singleton];lia
   have hlt:∀ y∈ts++[m],y<n:=fun y hy=>by
    rcases List.mem_append.mp hy with hy|hy
    ·exact hR4.lt y hy
    ·rw [List.mem_singleton.mp hy];exact hmn
   walk_at "w"
   refine c_Leading_nearest hL5 hT5 (SqL.of m5) d5 (by simp) hlt hl1 hfree fun p H6 t j s6 hT6 hp ht hj hjn hmin=>?_
   have hL6:=hL5.keep hT5 s6
   have m6:=s6.lst hT5 m5
   obtain ⟨ps5,hP5⟩:=hT5.at
   have d6:=s6 _ _ (fun z=>by rw [z,hP5] at d5;cases d5) d5
   obtain ⟨C6,dx6,hC6,hx6⟩:=hL6.ins
   obtain rfl:G.a_Leading=C6:=by have:=T.w_Leading;rw [hC6] at this;cases this;rfl
   clear m5 d5 hP5
   walk_at "w"
   refine c_Leading_room hL6 (hlt t ht) hj fun H7 s7=>?_
   have hL7:=hL6.keep hT6 (SameT.of s7)
   have hT7:=hT6.same s7
   have m7:=s7 _ _ m6
   have d7:=s7 _ _ d6
   have hp7:=s7.at hp
   obtain ⟨hM8,hR8⟩:=Mat.Tr.step hR4 hM4 gf hf ht hj hjn rfl hmin
   walk_at "w"
   refine c_Leading_shift hL7 m7 nau nav d7 h0d hlt hR8.nd hR4.ndk hR4.ltk fun H8 f8 hL8=>?_
   have du:d≠au:=fun z=>by rw [z,hL7.lu] at d7;cases d7
   have dv:d≠av:=fun z=>by rw [z,hL7.lv] at d7;cases d7
   have m8:=f8 _ _ nau nav m7
   have d8:=f8 _ _ du dv d7
   have hT8:TabL K H8:=TabH.keep2 hT7 f8 hL7.lu hL7.lv
   have hp8:=sqT_keep2 hp7 f8 hL7.lu hL7.lv
   clear m6 d6 m7 d7 hp hp7
   walk_at "w"
   refine r_dputK d8 (by rw [kvO_len,← hR4.len];lia) ?_
   rw [kv_put hjn]
   have hL9:=hL8.offd (o':=.dK (kvO (os++[(j,t)]))) h0d d8 (fun _=>HO.noConfusion) (fun _ _ _=>HO.noConfusion)
   have hT9:TabL K (upd H8 d (.dK (kvO (os++[(j,t)])))):=TabH.offD hT8 d8
   have m9:(upd H8 d (.dK (kvO (os++[(j,t)])))) ta=some (.lst (lsN (ts++[m]))):=by rw [upd_ne hda.symm];exact m8
   have d9:(upd H8 d (.dK (kvO (os++[(j,t)])))) d=some (.dK (kvO (os++[(j,t)]))):=upd_same
   have hp9:SqT K (upd H8 d (.dK (kvO (os++[(j,t)])))) p [.int (t:Int),.int (j:Int)]:=sqT_offD hp8 d8
   generalize upd H8 d (.dK (kvO (os++[(j,t)])))=H9 at hL9 hT9 m9 d9 hp9 ⊢
   clear m8 d8 hp8
   obtain ⟨C9,dx9,hC9,hx9⟩:=hL9.ins
   obtain rfl:G.a_Leading=C9:=by have:=T.w_Leading;rw [hC9] at this;cases this;rfl
   walk_at "w"
   refine r_ixL (SqL.of hL9.lc) (lsO_at hj) ?_
   walk_at "w"
   exact⟨n - (ts++[m]).length,by rw [List.length_append,List.length_singleton];lia,p,c j,ts++[m],os++[(j,t)],_,_,rfl,hL9,hT9,m9,d9,hM8,hR8,rfl,fun _=>⟨os,j,t,rfl,hp9⟩⟩
theorem sc_led:FnScope ["board","chord","goal","ways","leading","tone","sounds"] ["board","chord","goal"] (defScope s_led):=⟨rfl,rfl,rfl,by decide +kernel,rfl,by decide +kernel,by decide +kernel⟩
structure Os_led (P:Program) (w:World) (K:PySem.W.Frag) (mg:Str→Option Value) (base:Heap) (G:Adr):Prop where
 ways_from:Ok P w K mg base 6 "ways_from" ["board","one","goal"] (sp_ways_from K)
 Leading_init:OkM P w K mg base 1 G.f_Leading_init ["self","ways"] (sp_Leading_init K)
 Leading_lead:OkM P w K mg base 7 G.f_Leading_lead ["self","first"] (sp_Leading_lead K)
theorem ok_led (D:Def K mg "led" s_led ["board","chord","goal"]) (T:Txt K mg G) (O:Os_led P w K mg base G):Ok P w K mg base 8 "led" ["board","chord","goal"] (sp_led K):=by
 have S:=sc_led
 refine D.ok S (fun vs H Q E h=>?_) (fun f cdv A outer s H vs Q E hr h=>?_)
 ·obtain ⟨b,l,m,w,xs,ys,cs,gs,rfl,hb,hT,hl,hc,hm,hg,h1,h6,he,fc,fg,k⟩:=h;rfl
 ·obtain ⟨b,l,m,w,xs,ys,cs,gs,rfl,hb,hT,hl,hc,hm,hg,h1,h6,he,fc,fg,k⟩:=h
  have hu:=hu_of hr
  have c_Board:=T.c_Board
  have n_Board_own_keys:=T.n_Board_own_keys
  have n_Board_octave:=T.n_Board_octave
  have c_Leading:=T.c_Leading
  have n_Leading_ways:=T.n_Leading_ways
  have n_Leading_tone_prices:=T.n_Leading_tone_prices
  have n_Leading_goal_prices:=T.n_Leading_goal_prices
  have n_Leading_goals:=T.n_Leading_goals
  have n_Leading_comers:=T.n_Leading_comers
  refine⟨_,(pss_cons (ps_if (PW.pt (pw_or (pt_not (pt_chain op_le op_le pe_int (pe_callB (kN_len K rfl) rfl T.b_len PySem.boot_len (pa_cons (pv 1) pa_nil)) (pe_glob (v:=V.int 6) rfl T.g_MOST_TONES ⟨_,rfl⟩))) (pw_or1 (pt_cmpR op_ne (pe_callB (kN_len K rfl) rfl T.b_len PySem.boot_len (pa_cons (pv 1) pa_nil)) (pe_callB (kN_len K rfl) rfl T.b_len PySem.boot_len (pa_cons (pv 2) pa_nil)) (nomark _))))) (pss_one ps_never) pss_nil) (pss_cons (ps_setC (k:=3) (N:=["one","board","goal"]) (ix:=[none,some 0,some 2]) S.nd rfl (Or.inl rfl) rfl (kpi_list K rfl (pv 1)) (fun _ _ _ _ _=>(pg_name (i:=0) (show List.Nodup (["one","board","goal"]:List Str) by decide +kernel) rfl (Or.inl rfl))) (fun _ _ _ _ _=>rfl) (fun _ _ _ _ _=>(pcall O.ways_from (hr.mono (by decide)) (pa_cons (pv 1) (pa_cons (pv 0) (pa_cons (pv 2) pa_nil))))) rfl (by decide +kernel) (by decide +kernel) rfl ⟨⟨rfl,Or.inr (Or.inl rfl),rfl,rfl⟩,⟨⟨rfl,Or.inr (Or.inl rfl),rfl,rfl⟩,True.intro⟩⟩) (pss_cons (ps_set (i:=4) S.nd rfl (Or.inl rfl) (pmake O.Leading_init T.k_Leading (hr.mono (by decide)) rfl T.g_Leading (pa_cons (pv 3) pa_nil))) (pss_cons (ps_for PassesOwn.never rfl (pi_range1 rfl T.b_range (pa_cons (pe_callB (kN_len K rfl) rfl T.b_len PySem.boot_len (pa_cons (pv 1) pa_nil)) pa_nil)) (pg_name (i:=5) S.nd rfl (Or.inl rfl)) (pss_one (ps_expr (pmeth O.Leading_lead T.c_Leading T.m_Leading_lead (hr.mono (by decide)) (pv 4) (pa_cons (pv 5) pa_nil))))) (pss_cons (ps_setC (k:=6) (N:=["row","number"]) (ix:=[none,none]) S.nd rfl (Or.inl rfl) rfl (kpi_zip2 K rfl false false rfl T.b_zip (pa_cons (pv 3) (pa_cons (kpe_fld K rfl (pv 4) rfl) pa_nil))) (fun _ _ _ _ _=>(kpg_tup (n:=2) K rfl rfl (pgs_cons (pg_name (i:=0) (show List.Nodup (["row","number"]:List Str) by decide +kernel) rfl (Or.inl rfl)) (pgs_cons (pg_name (i:=1) (show List.Nodup (["row","number"]:List Str) by decide +kernel) rfl (Or.inl rfl)) pgs_nil)))) (fun _ _ _ _ _=>rfl) (fun _ _ _ _ _=>(pe_ix (kx_seq K rfl) (pe_ix (kx_seq K rfl) (pv 0) (pv 1) (fun _ _=>rfl)) pe_int (fun _ _=>rfl))) rfl (by decide +kernel) (by decide +kernel) rfl True.intro) (pss_one (ps_ret (pe_tup (pa_cons (kpe_fld K rfl (pv 4) rfl) (pa_cons (pv 6) (pa_cons (kpe_fld K rfl (pv 4) rfl) (pa_cons (kpe_fld K rfl (pv 4) rfl) pa_nil)))))))))))),?_⟩
  have hcl:=hc.length
  have hgl:=hg.length
  have hlen1:(1:Int)≤(xs.length:Int):=by lia
  have hlen6:(xs.length:Int)≤6:=by lia
  obtain ⟨BC,bdx,bl,bkk,hBC,hB1,hB2,hB3,hB4,hB5,hB6⟩:=id hb
  walk_at "w"
  refine r_chain ?_
  walk_at "w"
  refine r_link ?_
  rw [decide_eq_true hlen1]
  refine iteT ?_
  walk_at "w"
  rw [decide_eq_true hlen6]
  walk_at "w"
  refine if_ff rfl ?_
  walk_at "w"
  refine if_ff (by rw [show ys.length=xs.length by lia];simp) ?_
  walk_at "w"
  refine rd_mapRowLists [some (.ref b),some (.ref m)] (fun r=>gs.map (wayV w r)) rfl hl hc (by lia) (fun a r H' Qc hr s ha kc=>?_) (fun wl H1 zs nw s1 mw lz hz=>?_)
  ·walk_at "w"
   exact c_ways_from (hb.same s) ha (s.seq hm) (hg.same s) (fc r hr).1 (fc r hr).2 (by lia) fg fun p H5 ys' n5 s5 m5 r5=>kc p H5 ys' n5 s5 m5 r5
  have hw:=ways_at mw lz he hz
  have hT1:=hT.same s1
  walk_at "w"
  intro x dx nx ndx nex
  have sm:=same_made (C:=G.a_Leading) nx ndx
  refine c_Leading_init T.w_Leading upd_same (sm.seq (SqL.of mw)) lz h6 fun au av ag ac H2 f2 a1 a2 a3 a4 b1 b2 b3 b4 b5 b6 ex lu lv lg lc=>⟨rfl,?_⟩
  have s2:Same H1 H2:=SameX.made f2 nx ndx
  have hL2:LdS K H1 H2 x wl au av ag ac cs.length (wyOf w cs gs) (fun _=>0) (fun _=>0) (fun _=>none) (fun _=>none):=⟨⟨G.a_Leading,dx,T.w_Leading,ex⟩,hw,lu,lv,lg,lc,nx,Same.new sm a1,Same.new sm a2,Same.new sm a3,Same.new sm a4,b1,b2,b3,b4,b5,b6,SameT.of s2,hT1,fun _ _=>wayV_two,h6⟩
  have hM2:Mat.Mt cs.length (Wof (wyOf w cs gs)) (fun _=>0) (fun _=>0) (fun _=>none) (fun _=>none):=⟨fun t j _ _=>by rw [Int.add_zero];exact wayV_pos hB6,fun _ _ z=>(nomatch z),fun t j=>⟨fun z=>(nomatch z),fun z=>(nomatch z)⟩,fun _ _ z=>(nomatch z)⟩
  have hl2:=(s1.trans s2).seq hl
  walk_at "w"
  refine f_invR (fun i σ' H'=>∃ (o5:Option V) (u v:Nat→Int) (g c:Nat→Option Nat),σ'=[some (.ref b),some (.ref l),some (.ref m),some (.ref wl),some (.ref x),o5,none]∧LdS K H1 H' x wl au av ag ac cs.length (wyOf w cs gs) u v g c∧TabL K H'∧Mat.Mt cs.length (Wof (wyOf w cs gs)) u v g c∧(∀ t,(g t).isSome=true↔t<i)) ⟨none,_,_,_,_,rfl,hL2,hT1.same s2,hM2,fun t=>⟨fun z=>(nomatch z),fun z=>absurd z (Nat.not_lt_zero _)⟩⟩ (fun i σ' H' hi hP=>?_) (fun σ' H' hP=>?_)
  ·obtain ⟨o5,u,v,g,c,rfl,hL3,hT3,hM3,hd3⟩:=hP
   have hi':i<cs.length:=by lia
   obtain ⟨C2,dx2,hC2,hx2⟩:=hL3.ins
   obtain rfl:G.a_Leading=C2:=by have:=T.w_Leading;rw [hC2] at this;cases this;rfl
   have gi:g i=none:=by
    have:=hd3 i
    cases e:g i with
    | none=>rfl
    | some y=>rw [e] at this;exact absurd (this.mp rfl) (Nat.lt_irrefl _)
   rw [Int.zero_add]
   walk_at "w"
   refine c_Leading_lead hL3 hT3 hM3 gi hi' fun H4 u4 v4 g4 c4 hT4 hL4 hM4 hd4=>?_
   walk_at "w"
   refine⟨_,u4,v4,g4,c4,rfl,hL4,hT4,hM4,fun t=>?_⟩
   rw [hd4 t,hd3 t]
   lia
  obtain ⟨o5,u,v,g,c,rfl,hL3,hT3,hM3,hd3⟩:=hP
  obtain ⟨go,hgo,hinj⟩:=hM3.full fun t ht=>(hd3 t).mpr (by lia)
  obtain ⟨C2,dx2,hC2,hx2⟩:=hL3.ins
  obtain rfl:G.a_Leading=C2:=by have:=T.w_Leading;rw [hC2] at this;cases this;rfl
  have hlg:=hL3.lg
  rw [lsO_full fun t ht=>(hgo t ht).1] at hlg
  obtain ⟨zs3,w1,w2,w3⟩:=hL3.waysAt
  have hlg3:=SqL.of (K:=K) hlg
  walk_at "w"
  refine rd_compZ [] (fun t=>.int ((wyOf w cs gs t (go t)).getD 1 0)) rfl (sql_sq w1) (sql_sq hlg3) (by rw [w2,lsN_len,lsF_len]) (by lia) (fun t x' y' H4 Qc ex' ey' s4 kc=>?_) (fun las H4 n4 s4 m4=>?_)
  ·obtain ⟨j,ej,rfl⟩:=lsN_get ey'
   have ht:t<cs.length:=by rw [← w2];exact (List.getElem?_eq_some_iff.mp ex').1
   rw [lsF_get ht] at ej
   cases ej
   obtain ⟨ra,ys3,f1,f2,f3,f4⟩:=w3 t ht
   rw [f1] at ex'
   cases ex'
   obtain ⟨p3,g1,g2⟩:=f4 (go t) (hgo t ht).2.1
   obtain ⟨xa,xb,hxy⟩:=wayV_two (w:=w) (a:=cs.getD t []) (b:=gs.getD (go t) [])
   have f24:=s4.seq f2
   have g24:=s4.at g2
   walk_at "v"
   refine r_ixL f24 (atI_nat g1) ?_
   walk_at "v"
   refine r_ixT g24 (atI_nat (j:=1) (v:=.int ((wyOf w cs gs t (go t)).getD 1 0)) (by unfold wyOf;rw [hxy];rfl)) ?_
   walk_at "v"
   exact kc _ (Same.refl _)
  have hL4:=hL3.keep hT3 (SameT.of s4)
  have hT4:=hT3.same s4
  obtain ⟨C4,dx4,hC4,hx4⟩:=hL4.ins
  obtain rfl:G.a_Leading=C4:=by have:=T.w_Leading;rw [hC4] at this;cases this;rfl
  rw [w2] at m4
  walk_at "w"
  rename_i p5 H5 s5 m5
  refine k p5 ag las au av H5 go u v ((SameT.of s1).trans (hL4.sm.trans (SameT.of s5))) (hT4.same s5) (SqT.of m5) ((s4.trans s5) _ _ hlg) (s5 _ _ m4) (s5 _ _ hL4.lu) (s5 _ _ hL4.lv) (fun t ht=>(hgo t ht).2.1) hinj hM3.feas (fun t ht=>(hgo t ht).2.2)
theorem sc_least_steps:FnScope ["board","chord","goal","found"] ["board","chord","goal"] (defScope s_least_steps):=⟨rfl,rfl,rfl,by decide +kernel,rfl,by decide +kernel,by decide +kernel⟩
structure Os_least_steps (P:Program) (w:World) (K:PySem.W.Frag) (mg:Str→Option Value) (base:Heap) (G:Adr):Prop where
 led:Ok P w K mg base 8 "led" ["board","chord","goal"] (sp_led K)
theorem ok_least_steps (D:Def K mg "least_steps" s_least_steps ["board","chord","goal"]) (T:Txt K mg G) (O:Os_least_steps P w K mg base G):Ok P w K mg base 9 "least_steps" ["board","chord","goal"] (sp_least_steps K):=by
 have S:=sc_least_steps
 refine D.ok S (fun vs H Q E h=>?_) (fun f cdv A outer s H vs Q E hr h=>?_)
 ·obtain ⟨b,l,m,w,xs,ys,cs,gs,rfl,hb,hT,hl,hc,hm,hg,h1,h6,he,fc,fg,k⟩:=h;rfl
 ·obtain ⟨b,l,m,w,xs,ys,cs,gs,rfl,hb,hT,hl,hc,hm,hg,h1,h6,he,fc,fg,k⟩:=h
  have hu:=hu_of hr
  have c_Board:=T.c_Board
  have n_Board_own_keys:=T.n_Board_own_keys
  have n_Board_octave:=T.n_Board_octave
  have c_Leading:=T.c_Leading
  have n_Leading_ways:=T.n_Leading_ways
  have n_Leading_tone_prices:=T.n_Leading_tone_prices
  have n_Leading_goal_prices:=T.n_Leading_goal_prices
  have n_Leading_goals:=T.n_Leading_goals
  have n_Leading_comers:=T.n_Leading_comers
  refine⟨_,(pss_cons (ps_set (i:=3) S.nd rfl (Or.inl rfl) (pcall O.led (hr.mono (by decide)) (pa_cons (pv 0) (pa_cons (pv 1) (pa_cons (pv 2) pa_nil))))) (pss_one (ps_ret (pe_op op_add (pe_callB (kN_sum K rfl rfl) rfl T.b_sum PyProof.Rows.boot_sum (pa_cons (pe_ix (kx_seq K rfl) (pv 3) pe_int (fun _ _=>rfl)) pa_nil)) (pe_callB (kN_sum K rfl rfl) rfl T.b_sum PyProof.Rows.boot_sum (pa_cons (pe_ix (kx_seq K rfl) (pv 3) pe_int (fun _ _=>rfl)) pa_nil)))))),?_⟩
  walk_at "w"
  refine c_led hb hT hl hc hm hg h1 h6 he fc fg fun p ag as au av H1 go u v s1 hT1 hp _ _ hau hav glt ginj feas tight=>?_
  rw [lsI_ints] at hau hav
  walk_at "w"
  refine r_sum (SqL.of hau) ?_
  walk_at "w"
  refine r_sum (SqL.of hav) ?_
  walk_at "w"
  exact k _ _ s1 hT1 (least_of ⟨glt,ginj⟩ feas tight)
theorem sc_law:FnScope ["_law_script","_law_number_here","_law_w","_law_board","_law_count","_law_one","_law_two","_law_three","_law_there","_law_at","_law_span","_law_left","_law_right"] ["_law_script"] (defScope s_law):=⟨rfl,rfl,rfl,by decide +kernel,rfl,by decide +kernel,by decide +kernel⟩
structure Os_law (P:Program) (w:World) (K:PySem.W.Frag) (mg:Str→Option Value) (base:Heap) (G:Adr):Prop where
 least_steps:Ok P w K mg base 9 "least_steps" ["board","chord","goal"] (sp_least_steps K)
 law_number:Ok P w K mg base 2 "_law_number" ["_law_script","_law_k"] (sp_law_number K)
 law_tone:Ok P w K mg base 2 "_law_tone" ["_law_number_here","_law_kind"] (sp_law_tone K)
 law_board_row:Ok P w K mg base 2 "_law_board_row" ["_law_number_here"] (sp_law_board_row K)
 law_whole:Ok P w K mg base 1 "_law_whole" ["_law_found"] (sp_law_whole K)
 law_chord:Ok P w K mg base 3 "_law_chord" ["_law_script","_law_at","_law_count"] (sp_law_chord K)
 law_other:Ok P w K mg base 4 "_law_other" ["_law_script","_law_chord_here"] (sp_law_other K)
 law_same_sounds:Ok P w K mg base 2 "_law_same_sounds" ["_law_w","_law_one","_law_other_here"] (sp_law_same_sounds K)
 law_moved:Ok P w K mg base 2 "_law_moved" ["_law_chord_here","_law_span"] (sp_law_moved K)
 law_fits:Ok P w K mg base 2 "_law_fits" ["_law_rows"] (sp_law_fits K)
 Board_init:OkM P w K mg base 3 G.f_Board_init ["self","row"] (sp_Board_init K)
set_option maxHeartbeats 8000000 in
theorem fn_law {f:Addr} {fd:FuncData} (F:Fun K "law" "law" s_law f fd) (T:Txt K mg G) (O:Os_law P w K mg base G):FnOk P w K mg base CX0 10 f fd ["_law_script"] ((spLawM "Leading" "nearest" lpN "Leading.nearest.<locals>.<lambda>") K):=by
 have S:=sc_law
 refine F.ok S (fun vs H Q E h=>?_) (fun cdv A outer s H vs Q E hr h=>?_)
 ·obtain ⟨a,ns,rfl,hS,hlen,hT,k⟩:=h;rfl
 ·obtain ⟨a,ns,rfl,hS,hlen,hT,k⟩:=h
  have hu:=hu_of hr
  have c_Board:=T.c_Board
  have n_Board_own_keys:=T.n_Board_own_keys
  have n_Board_octave:=T.n_Board_octave
  have c_Leading:=T.c_Leading
  have n_Leading_ways:=T.n_Leading_ways
  have n_Leading_tone_prices:=T.n_Leading_tone_prices
  have n_Leading_goal_prices:=T.n_Leading_goal_prices
  have n_Leading_goals:=T.n_Leading_goals
  have n_Leading_comers:=T.n_Leading_comers
  refine⟨_,(pss_cons (ps_set (i:=1) S.nd rfl (Or.inl rfl) (pcall O.law_number (hr.mono (by decide)) (pa_cons (pv 0) (pa_cons pe_int pa_nil)))) (pss_cons (ps_set (i:=2) S.nd rfl (Or.inl rfl) (pcall O.law_board_row (hr.mono (by decide)) (pa_cons (pcall O.law_number (hr.mono (by decide)) (pa_cons (pv 0) (pa_cons pe_int pa_nil))) pa_nil))) (pss_cons (ps_set (i:=3) S.nd rfl (Or.inl rfl) (pmake O.Board_init T.k_Board (hr.mono (by decide)) rfl T.g_Board (pa_cons (pv 2) pa_nil))) (pss_cons (ps_set (i:=4) S.nd rfl (Or.inl rfl) (pe_op op_add pe_int (pe_op op_mod (pv 1) pe_int))) (pss_cons (ps_set (i:=5) S.nd rfl (Or.inl rfl) (pcall O.law_chord (hr.mono (by decide)) (pa_cons (pv 0) (pa_cons pe_int (pa_cons (pv 4) pa_nil))))) (pss_cons (ps_set (i:=6) S.nd rfl (Or.inl rfl) (pcall O.law_other (hr.mono (by decide)) (pa_cons (pv 0) (pa_cons (pv 5) pa_nil)))) (pss_cons (ps_set (i:=7) S.nd rfl (Or.inl rfl) (pcall O.law_chord (hr.mono (by decide)) (pa_cons (pv 0) (pa_cons pe_int (pa_cons (pv 4) pa_nil))))) (pss_cons (ps_set (i:=8) S.nd rfl (Or.inl rfl) (pcall O.least_steps (hr.mono (by decide)) (pa_cons (pv 3) (pa_cons (pe_callTy (kN_list K rfl) rfl T.b_list PyProof.Rows.boot_list (pa_cons (pv 5) pa_nil)) (pa_cons (pe_callTy (kN_list K rfl) rfl T.b_list PyProof.Rows.boot_list (pa_cons (pv 6) pa_nil)) pa_nil))))) (pss_cons (ps_if (PW.pt (pw_or (pt_not (pt_val (pcall O.law_whole (hr.mono (by decide)) (pa_cons (pv 8) pa_nil)))) (pw_or (pt_cmpR op_lt (pv 8) pe_int (nomark _)) (pw_or1 (pt_cmpR op_ne (pe_cmpR op_eq (pv 8) pe_int (nomark _)) (pcall O.law_same_sounds (hr.mono (by decide)) (pa_cons (pv 2) (pa_cons (pv 5) (pa_cons (pv 6) pa_nil)))) (nomark _)))))) (pss_one (ps_ret pe_bl)) pss_nil) (pss_cons (ps_if (pt_cmpR op_ne (pcall O.least_steps (hr.mono (by decide)) (pa_cons (pv 3) (pa_cons (pe_callTy (kN_list K rfl) rfl T.b_list PyProof.Rows.boot_list (pa_cons (pv 6) pa_nil)) (pa_cons (pe_callTy (kN_list K rfl) rfl T.b_list PyProof.Rows.boot_list (pa_cons (pv 5) pa_nil)) pa_nil)))) (pv 8) (nomark _)) (pss_one (ps_ret pe_bl)) pss_nil) (pss_cons (ps_if (pt_cmpR op_gt (pcall O.least_steps (hr.mono (by decide)) (pa_cons (pv 3) (pa_cons (pe_callTy (kN_list K rfl) rfl T.b_list PyProof.Rows.boot_list (pa_cons (pv 5) pa_nil)) (pa_cons (pe_callTy (kN_list K rfl) rfl T.b_list PyProof.Rows.boot_list (pa_cons (pv 7) pa_nil)) pa_nil)))) (pe_op op_add (pv 8) (pcall O.least_steps (hr.mono (by decide)) (pa_cons (pv 3) (pa_cons (pe_callTy (kN_list K rfl) rfl T.b_list PyProof.Rows.boot_list (pa_cons (pv 6) pa_nil)) (pa_cons (pe_callTy (kN_list K rfl) rfl T.b_list PyProof.Rows.boot_list (pa_cons (pv 7) pa_nil)) pa_nil))))) (nomark _)) (pss_one (ps_ret pe_bl)) pss_nil) (pss_cons (ps_set (i:=9) S.nd rfl (Or.inl rfl) (pe_op op_mod (pe_op op_fdiv (pv 1) pe_int) (pv 4))) (pss_cons (ps_if (pt_cmpR op_ne (pcall O.least_steps (hr.mono (by decide)) (pa_cons (pv 3) (pa_cons (pe_op op_cat (pe_slice (ksl_list K rfl) (pv 5) (po_some (pv 9)) po_none) (pe_slice (ksl_list K rfl) (pv 5) po_none (po_some (pv 9)))) (pa_cons (kpe_revL K rfl rfl (pv 6) rfl rfl T.b_list T.b_reversed) pa_nil)))) (pv 8) (nomark _)) (pss_one (ps_ret pe_bl)) pss_nil) (pss_cons (ps_set (i:=10) S.nd rfl (Or.inl rfl) (pcall O.law_tone (hr.mono (by decide)) (pa_cons (pe_op op_fdiv (pv 1) pe_int) (pa_cons (pe_op op_mod (pe_op op_fdiv (pe_op op_fdiv (pv 1) pe_int) (pv 4)) pe_int) pa_nil)))) (pss_cons (ps_set (i:=11) S.nd rfl (Or.inl rfl) (pcall O.law_moved (hr.mono (by decide)) (pa_cons (pv 5) (pa_cons (pv 10) pa_nil)))) (pss_cons (ps_set (i:=12) S.nd rfl (Or.inl rfl) (pcall O.law_moved (hr.mono (by decide)) (pa_cons (pv 6) (pa_cons (pv 10) pa_nil)))) (pss_cons (ps_if (PW.pt (pw_or (pt_not (pt_val (pcall O.law_fits (hr.mono (by decide)) (pa_cons (pv 11) pa_nil)))) (pw_or1 (pt_not (pt_val (pcall O.law_fits (hr.mono (by decide)) (pa_cons (pv 12) pa_nil))))))) (pss_one (ps_ret pe_bl)) pss_nil) (pss_one (ps_ret (pe_cmpR op_eq (pcall O.least_steps (hr.mono (by decide)) (pa_cons (pv 3) (pa_cons (pv 11) (pa_cons (pv 12) pa_nil)))) (pv 8) (nomark _))))))))))))))))))))),?_⟩
  walk_at "w"
  refine c_law_number hS (by lia) fun c0 hc0=>?_
  walk_at "w"
  refine c_law_number hS (by lia) fun c1 hc1=>?_
  walk_at "w"
  refine c_law_board_row hc1.1 fun pw H1 w s1 m1 lw fw h1=>?_
  have hS1:=s1.seq hS
  have w1:=SqT.of (K:=K) m1
  walk_at "w"
  intro x dx nx ndx nex
  refine c_Board_init T.w_Board upd_same (made_sqT w1 nx ndx) lw fw h1 fun H2 sx hB=>⟨rfl,?_⟩
  have s2:=sx.made nx ndx
  have hS2:=s2.seq hS1
  have w2:=s2.at w1
  have hT2:TabL K H2:=(hT.same s1).same s2
  have hd0:=Int.emod_nonneg c0 (show (5:Int)≠0 by decide)
  have hd1:=Int.emod_lt_of_pos c0 (show (0:Int)<5 by decide)
  walk_at "w"
  generalize c0 % 5=c at hd0 hd1
  obtain ⟨n0,rfl⟩:=Int.eq_ofNat_of_zero_le hd0
  obtain ⟨n,hn⟩:∃ n:Nat,n=1+n0:=⟨_,rfl⟩
  rw [show (1:Int)+(n0:Int)=(n:Int) by lia]
  have hn1:1≤n:=by lia
  have hn6:n≤6:=by lia
  have hnp:(0:Int)<(n:Int):=by lia
  have hn6i:(n:Int)≤6:=by lia
  clear hn hd0 hd1
  refine c_law_chord (b:=4) hS2 ⟨by lia,by lia⟩ fun lc H3 xs cs n3 s3 m3 r3 len3 b3=>?_
  have hS3:=s3.seq hS2
  walk_at "w"
  refine c_law_other hS3 (SqL.of m3) r3 (by lia) (by lia) b3 fun ld H4 ys gs s4 m4 r4 len4 b4=>?_
  have hS4:=s4.seq hS3
  walk_at "w"
  refine c_law_chord (b:=14) hS4 ⟨by lia,by lia⟩ fun lt H5 vs ds n5 s5 m5 r5 len5 b5=>?_
  have s35:=s4.trans s5
  have s25:=s3.trans s35
  have g5:Stg K H5 a pw x lc ld lt ns w xs ys vs cs gs ds:=⟨s5.seq hS4,s25.at w2,hB.same s25,hT2.same s25,s35 _ _ m3,r3.same s35,s5 _ _ m4,r4.same s5,m5,r5⟩
  clear m3 m4 m5 r3 r4 r5 hS2 hS3 hS4 hB hT2 w2 w1 m1 hS1 hS
  have f3:∀ r∈cs,r.length=5∧Few 100 r:=fun r hr=>⟨(b3 r hr).length,(b3 r hr).few (by decide) (by decide)⟩
  have f4:∀ r∈gs,r.length=5∧Few 100 r:=fun r hr=>⟨(b4 r hr).length,(b4 r hr).few (by decide) (by decide)⟩
  have f5:∀ r∈ds,r.length=5∧Few 100 r:=fun r hr=>⟨(b5 r hr).length,(b5 r hr).few (by decide) (by decide)⟩
  have lxs:=g5.r1.length
  have lys:=g5.r2.length
  have hm1:=g5.m1
  have hm2:=g5.m2
  walk_at "w"
  rename_i p6 H6 n6 s6 m6 p7 H7 n7 s7 m7
  have g7:=g5.same (s6.trans s7)
  refine c_least_steps g7.hb g7.hT (SqL.of (s7 _ _ m6)) g7.r1 (SqL.of m7) g7.r2 (by lia) (by lia) (by lia) f3 f4 fun H8 z s8 hT8 hz=>?_
  have g8:=g7.keep s8 hT8
  clear hm1 hm2 m6 m7 g7
  obtain ⟨z0,zs⟩:=zero_same h1 (by lia) hz
  walk_at "w"
  refine if_ff rfl ?_
  walk_at "w"
  refine if_ff (decide_eq_false (by lia)) ?_
  walk_at "w"
  refine c_law_same_sounds g8.hw (SqL.of g8.m1) g8.r1 (SqL.of g8.m2) g8.r2 (by lia) (by lia) lw fw h1 f3 f4 fun bs H9 s9 hbs=>?_
  have g9:=g8.same s9
  have hbz:decide (z=0)=bs:=by
   rw [Bool.eq_iff_iff,decide_eq_true_iff]
   exact zs.trans hbs.symm
  walk_at "w"
  refine if_ff (by rw [hbz];simp) ?_
  have hm1:=g9.m1
  have hm2:=g9.m2
  walk_at "w"
  rename_i p10 H10 n10 s10 m10 p11 H11 n11 s11 m11
  have g11:=g9.same (s10.trans s11)
  refine c_least_steps g11.hb g11.hT (SqL.of (s11 _ _ m10)) g11.r2 (SqL.of m11) g11.r1 (by lia) (by lia) (by lia) f4 f3 fun H12 z2 s12 hT12 hz2=>?_
  have g12:=g11.keep s12 hT12
  clear hm1 hm2 m10 m11 g11
  rw [back_same h1 (by lia) hz hz2]
  walk_at "w"
  refine if_ff (by simp) ?_
  have hm1:=g12.m1
  have hm3:=g12.m3
  walk_at "w"
  rename_i p13 H13 n13 s13 m13 p14 H14 n14 s14 m14
  have g14:=g12.same (s13.trans s14)
  refine c_least_steps g14.hb g14.hT (SqL.of (s14 _ _ m13)) g14.r1 (SqL.of m14) g14.r3 (by lia) (by lia) (by lia) f3 f5 fun H15 z3 s15 hT15 hz3=>?_
  have g15:=g14.keep s15 hT15
  clear hm1 hm3 m13 m14 g14
  have hm2:=g15.m2
  have hm3:=g15.m3
  walk_at "w"
  rename_i p16 H16 n16 s16 m16 p17 H17 n17 s17 m17
  have g17:=g15.same (s16.trans s17)
  refine c_least_steps g17.hb g17.hT (SqL.of (s17 _ _ m16)) g17.r2 (SqL.of m17) g17.r3 (by lia) (by lia) (by lia) f4 f5 fun H18 z4 s18 hT18 hz4=>?_
  have g18:=g17.keep s18 hT18
  clear hm2 hm3 m16 m17 g17
  have h34:=three_way h1 (by lia) hz hz3 hz4
  walk_at "w"
  refine if_ff (decide_eq_false (by lia)) ?_
  have hj0:=Int.emod_nonneg (c0 / 5) (show (n:Int)≠0 by lia)
  have hj1:=Int.emod_lt_of_pos (c0 / 5) hnp
  walk_at "w"
  obtain ⟨jn,hjn⟩:=Int.eq_ofNat_of_zero_le hj0
  rw [hjn] at hj1 ⊢
  refine r_slLo (SqL.of g18.m1) fun p19 H19 n19 s19 m19=>?_
  walk_at "w"
  refine r_slHi (SqL.of (s19 _ _ g18.m1)) fun p20 H20 n20 s20 m20=>?_
  refine r_cat (s20 _ _ m19) m20 (by rw [List.length_drop,List.length_take];lia) fun p21 H21 n21 s21 m21=>?_
  have s1821:=(s19.trans s20).trans s21
  have g21:=g18.same s1821
  have hm2:=g21.m2
  clear m19 m20
  walk_at "w"
  rename_i p22 H22 n22 s22 m22
  have g22:=g21.same s22
  refine c_least_steps g22.hb g22.hT (SqL.of (s22 _ _ m21)) ((g22.r1.drop jn).append (g22.r1.take jn)) (SqL.of m22) (rows_rev g22.r2) (by rw [List.length_append,List.length_drop,List.length_take];lia) (by rw [List.length_append,List.length_drop,List.length_take];lia) (by rw [List.length_append,List.length_drop,List.length_take,List.length_reverse];lia) (fun r hr=>f3 r ((List.mem_append.mp hr).elim List.mem_of_mem_drop List.mem_of_mem_take)) (fun r hr=>f4 r (List.mem_reverse.mp hr)) fun H23 z5 s23 hT23 hz5=>?_
  have g23:=g22.keep s23 hT23
  clear hm2 m21 m22 g22 g21
  rw [turned_same (by lia) (by lia) hz hz5]
  walk_at "w"
  refine if_ff (by simp) ?_
  walk_at "w"
  refine c_law_tone (by lia) fun ps q H24 s24 m24 hq=>?_
  have g24:=g23.same s24
  have lq:q.length=5:=hq.length
  walk_at "w"
  refine c_law_moved (SqL.of g24.m1) g24.r1 (SqT.of m24) (by lia) lq (fun r hr=>(f3 r hr).1) fun l25 H25 ys25 n25 s25 m25 r25=>?_
  have g25:=g24.same s25
  walk_at "w"
  refine c_law_moved (SqL.of g25.m2) g25.r2 (SqT.of (s25 _ _ m24)) (by lia) lq (fun r hr=>(f4 r hr).1) fun l26 H26 ys26 n26 s26 m26 r26=>?_
  have g26:=g25.same s26
  have len25:∀ r∈cs.map (fun r=>List.zipWith (·+·) r q),r.length=5:=fun r hr=>by
   obtain ⟨r',h',rfl⟩:=List.mem_map.mp hr
   rw [List.length_zipWith,(f3 r' h').1,lq]
   rfl
  have len26:∀ r∈gs.map (fun r=>List.zipWith (·+·) r q),r.length=5:=fun r hr=>by
   obtain ⟨r',h',rfl⟩:=List.mem_map.mp hr
   rw [List.length_zipWith,(f4 r' h').1,lq]
   rfl
  walk_at "w"
  refine c_law_fits (SqL.of (s26 _ _ m25)) (r25.same s26) (by rw [List.length_map];lia) len25 fun b27 H27 s27 hb27=>?_
  walk_at "w"
  refine if_both (fun hx=>?_) (fun hx=>?_)
  ·walk_at "w"
   exact k _
  walk_at "w"
  refine c_law_fits (SqL.of (s27 _ _ m26)) (r26.same s27) (by rw [List.length_map];lia) len26 fun b28 H28 s28 hb28=>?_
  walk_at "w"
  refine if_both (fun hy=>?_) (fun hy=>?_)
  ·walk_at "w"
   exact k _
  have g28:=(g26.same s27).same s28
  have ht27:=hb27 (by revert hx;cases b27 <;> simp)
  have ht28:=hb28 (by revert hy;cases b28 <;> simp)
  walk_at "w"
  refine c_least_steps g28.hb g28.hT (SqL.of ((s27.trans s28) _ _ (s26 _ _ m25))) (r25.same (s26.trans (s27.trans s28))) (SqL.of ((s27.trans s28) _ _ m26)) (r26.same (s27.trans s28)) (by rw [List.length_map];lia) (by rw [List.length_map];lia) (by rw [List.length_map,List.length_map];lia) (fun r hr=>⟨len25 r hr,(ht27 r hr).few (by decide) (by decide)⟩) (fun r hr=>⟨len26 r hr,(ht28 r hr).few (by decide) (by decide)⟩) fun H29 z6 s29 hT29 hz6=>?_
  walk_at "w"
  rw [moved_same lw lq (fun r hr=>(f3 r hr).1) (fun r hr=>(f4 r hr).1) (by lia) hz hz6,decide_eq_true rfl]
  exact k _
end
set_option maxHeartbeats 2000000
theorem all_mk {l : PySem.W.OpenLaw} {w : World} {K : PySem.W.Frag} {h : Heap} {mg : Str → Option Value} {fa : Addr} (X : K.In h) (G0 : h.Ns mainGlobals mg) (hfa : mg "law"=some (.ref fa)) {c_lam P_lam : Addr} (htb : methTab K "Leading" "nearest"=some (c_lam, P_lam)) {f0 f1 f2 f3 f4 f5 f6 f7 f8 f9 f10 f11 f12 f13 f14 f15 f16 f17 f18 f19 f20 f21 f22 f23 f24 f25 f26 f27 f28 f29 f30 f31 : Addr} {od0 an0 od1 an1 od2 an2 od3 an3 od4 an4 od5 an5 od6 an6 od7 an7 od8 an8 od9 an9 od10 an10 od11 an11 od12 an12 od13 an13 od14 an14 od15 an15 od16 an16 od17 an17 od18 an18 od19 an19 od20 an20 od21 an21 od22 an22 od23 an23 od24 an24 od25 an25 od26 an26 od27 an27 od28 an28 od29 an29 od30 an30 od31 an31 : Option Addr} {sl0 sl1 sl2 sl3 sl4 sl5 sl6 sl7 sl8 sl9 sl10 sl11 sl12 sl13 sl14 sl15 sl16 sl17 sl18 sl19 sl20 sl21 sl22 sl23 sl24 sl25 sl26 sl27 sl28 sl29 sl30 sl31 : Array (Option Value)} {oc0 kV0 dc0 pm0 cd0 ct0 oc1 kV1 dc1 pm1 cd1 ct1 oc2 kV2 dc2 pm2 cd2 ct2 oc3 kV3 dc3 pm3 cd3 ct3 oc4 kV4 dc4 pm4 cd4 ct4 oc5 kV5 dc5 pm5 cd5 ct5 oc6 kV6 dc6 pm6 cd6 ct6 oc7 kV7 dc7 pm7 cd7 ct7 oc8 kV8 dc8 pm8 cd8 ct8 oc9 kV9 dc9 pm9 cd9 ct9 oc10 kV10 dc10 pm10 cd10 ct10 oc11 kV11 dc11 pm11 cd11 ct11 oc12 kV12 dc12 pm12 cd12 ct12 oc13 kV13 dc13 pm13 cd13 ct13 oc14 kV14 dc14 pm14 cd14 ct14 oc15 kV15 dc15 pm15 cd15 ct15 oc16 kV16 dc16 pm16 cd16 ct16 oc17 kV17 dc17 pm17 cd17 ct17 oc18 kV18 dc18 pm18 cd18 ct18 oc19 kV19 dc19 pm19 cd19 ct19 oc20 kV20 dc20 pm20 cd20 ct20 oc21 kV21 dc21 pm21 cd21 ct21 oc22 kV22 dc22 pm22 cd22 ct22 oc23 kV23 dc23 pm23 cd23 ct23 oc24 kV24 dc24 pm24 cd24 ct24 oc25 kV25 dc25 pm25 cd25 ct25 oc26 kV26 dc26 pm26 cd26 ct26 oc27 kV27 dc27 pm27 cd27 ct27 oc28 kV28 dc28 pm28 ct28 oc29 kV29 dc29 pm29 cd29 ct29 oc30 kV30 dc30 pm30 cd30 ct30 oc31 kV31 dc31 pm31 cd31 ct31 : Value} {u_Board : Addr} {u_KeyTuning : Addr} {u_Leading : Addr} {t_MOST_KEYS : Tok} {t_MOST_TONES : Tok}
     (x_Board : PySem.W.nsIn K mainGlobals "Board"=some (some (.ref u_Board))) (x_KeyTuning : PySem.W.nsIn K mainGlobals "KeyTuning"=some (some (.ref u_KeyTuning))) (x_Leading : PySem.W.nsIn K mainGlobals "Leading"=some (some (.ref u_Leading)))
    (a0 : PySem.W.nsIn K mainGlobals "way"=some (some (.ref f0))) (l0 : K.lookup f0=some ⟨oc0, od0, .func (PySem.W.fnOf "way" "way" (defArgs s_way) (defBody s_way) (defScope s_way) .none kV0 dc0 pm0 an0 cd0 ct0), sl0⟩) (c0 : PySem.W.codeIn K cd0 "way"=true) (k0 : PySem.W.keepIn K (.ref f0)=true)
    (a1 : PySem.W.nsIn K mainGlobals "ways_from"=some (some (.ref f1))) (l1 : K.lookup f1=some ⟨oc1, od1, .func (PySem.W.fnOf "ways_from" "ways_from" (defArgs s_ways_from) (defBody s_ways_from) (defScope s_ways_from) .none kV1 dc1 pm1 an1 cd1 ct1), sl1⟩) (c1 : PySem.W.codeIn K cd1 "ways_from"=true) (k1 : PySem.W.keepIn K (.ref f1)=true)
    (a2 : PySem.W.nsIn K mainGlobals "led"=some (some (.ref f2))) (l2 : K.lookup f2=some ⟨oc2, od2, .func (PySem.W.fnOf "led" "led" (defArgs s_led) (defBody s_led) (defScope s_led) .none kV2 dc2 pm2 an2 cd2 ct2), sl2⟩) (c2 : PySem.W.codeIn K cd2 "led"=true) (k2 : PySem.W.keepIn K (.ref f2)=true)
    (a3 : PySem.W.nsIn K mainGlobals "least_steps"=some (some (.ref f3))) (l3 : K.lookup f3=some ⟨oc3, od3, .func (PySem.W.fnOf "least_steps" "least_steps" (defArgs s_least_steps) (defBody s_least_steps) (defScope s_least_steps) .none kV3 dc3 pm3 an3 cd3 ct3), sl3⟩) (c3 : PySem.W.codeIn K cd3 "least_steps"=true) (k3 : PySem.W.keepIn K (.ref f3)=true)
    (a4 : PySem.W.nsIn K mainGlobals "heard"=some (some (.ref f4))) (l4 : K.lookup f4=some ⟨oc4, od4, .func (PySem.W.fnOf "heard" "heard" (defArgs s_heard) (defBody s_heard) (defScope s_heard) .none kV4 dc4 pm4 an4 cd4 ct4), sl4⟩) (c4 : PySem.W.codeIn K cd4 "heard"=true) (k4 : PySem.W.keepIn K (.ref f4)=true)
    (a5 : PySem.W.nsIn K mainGlobals "value"=some (some (.ref f5))) (l5 : K.lookup f5=some ⟨oc5, od5, .func (PySem.W.fnOf "value" "value" (defArgs s_value) (defBody s_value) (defScope s_value) .none kV5 dc5 pm5 an5 cd5 ct5), sl5⟩) (c5 : PySem.W.codeIn K cd5 "value"=true) (k5 : PySem.W.keepIn K (.ref f5)=true)
    (a6 : PySem.W.nsIn K mainGlobals "checked_keys"=some (some (.ref f6))) (l6 : K.lookup f6=some ⟨oc6, od6, .func (PySem.W.fnOf "checked_keys" "checked_keys" (defArgs s_checked_keys) (defBody s_checked_keys) (defScope s_checked_keys) .none kV6 dc6 pm6 an6 cd6 ct6), sl6⟩) (c6 : PySem.W.codeIn K cd6 "checked_keys"=true) (k6 : PySem.W.keepIn K (.ref f6)=true)
    (a7 : PySem.W.nsIn K mainGlobals "values"=some (some (.ref f7))) (l7 : K.lookup f7=some ⟨oc7, od7, .func (PySem.W.fnOf "values" "values" (defArgs s_values) (defBody s_values) (defScope s_values) .none kV7 dc7 pm7 an7 cd7 ct7), sl7⟩) (c7 : PySem.W.codeIn K cd7 "values"=true) (k7 : PySem.W.keepIn K (.ref f7)=true)
    (a8 : PySem.W.nsIn K mainGlobals "_law_mixed"=some (some (.ref f8))) (l8 : K.lookup f8=some ⟨oc8, od8, .func (PySem.W.fnOf "_law_mixed" "_law_mixed" (defArgs s_law_mixed) (defBody s_law_mixed) (defScope s_law_mixed) .none kV8 dc8 pm8 an8 cd8 ct8), sl8⟩) (c8 : PySem.W.codeIn K cd8 "_law_mixed"=true) (k8 : PySem.W.keepIn K (.ref f8)=true)
    (a9 : PySem.W.nsIn K mainGlobals "_law_number"=some (some (.ref f9))) (l9 : K.lookup f9=some ⟨oc9, od9, .func (PySem.W.fnOf "_law_number" "_law_number" (defArgs s_law_number) (defBody s_law_number) (defScope s_law_number) .none kV9 dc9 pm9 an9 cd9 ct9), sl9⟩) (c9 : PySem.W.codeIn K cd9 "_law_number"=true) (k9 : PySem.W.keepIn K (.ref f9)=true)
    (a10 : PySem.W.nsIn K mainGlobals "_law_row"=some (some (.ref f10))) (l10 : K.lookup f10=some ⟨oc10, od10, .func (PySem.W.fnOf "_law_row" "_law_row" (defArgs s_law_row) (defBody s_law_row) (defScope s_law_row) .none kV10 dc10 pm10 an10 cd10 ct10), sl10⟩) (c10 : PySem.W.codeIn K cd10 "_law_row"=true) (k10 : PySem.W.keepIn K (.ref f10)=true)
    (a11 : PySem.W.nsIn K mainGlobals "_law_tone"=some (some (.ref f11))) (l11 : K.lookup f11=some ⟨oc11, od11, .func (PySem.W.fnOf "_law_tone" "_law_tone" (defArgs s_law_tone) (defBody s_law_tone) (defScope s_law_tone) .none kV11 dc11 pm11 an11 cd11 ct11), sl11⟩) (c11 : PySem.W.codeIn K cd11 "_law_tone"=true) (k11 : PySem.W.keepIn K (.ref f11)=true)
    (a12 : PySem.W.nsIn K mainGlobals "_law_plus"=some (some (.ref f12))) (l12 : K.lookup f12=some ⟨oc12, od12, .func (PySem.W.fnOf "_law_plus" "_law_plus" (defArgs s_law_plus) (defBody s_law_plus) (defScope s_law_plus) .none kV12 dc12 pm12 an12 cd12 ct12), sl12⟩) (c12 : PySem.W.codeIn K cd12 "_law_plus"=true) (k12 : PySem.W.keepIn K (.ref f12)=true)
    (a13 : PySem.W.nsIn K mainGlobals "_law_within"=some (some (.ref f13))) (l13 : K.lookup f13=some ⟨oc13, od13, .func (PySem.W.fnOf "_law_within" "_law_within" (defArgs s_law_within) (defBody s_law_within) (defScope s_law_within) .none kV13 dc13 pm13 an13 cd13 ct13), sl13⟩) (c13 : PySem.W.codeIn K cd13 "_law_within"=true) (k13 : PySem.W.keepIn K (.ref f13)=true)
    (a14 : PySem.W.nsIn K mainGlobals "_law_dot"=some (some (.ref f14))) (l14 : K.lookup f14=some ⟨oc14, od14, .func (PySem.W.fnOf "_law_dot" "_law_dot" (defArgs s_law_dot) (defBody s_law_dot) (defScope s_law_dot) .none kV14 dc14 pm14 an14 cd14 ct14), sl14⟩) (c14 : PySem.W.codeIn K cd14 "_law_dot"=true) (k14 : PySem.W.keepIn K (.ref f14)=true)
    (a15 : PySem.W.nsIn K mainGlobals "_law_board_row"=some (some (.ref f15))) (l15 : K.lookup f15=some ⟨oc15, od15, .func (PySem.W.fnOf "_law_board_row" "_law_board_row" (defArgs s_law_board_row) (defBody s_law_board_row) (defScope s_law_board_row) .none kV15 dc15 pm15 an15 cd15 ct15), sl15⟩) (c15 : PySem.W.codeIn K cd15 "_law_board_row"=true) (k15 : PySem.W.keepIn K (.ref f15)=true)
    (a16 : PySem.W.nsIn K mainGlobals "_law_whole"=some (some (.ref f16))) (l16 : K.lookup f16=some ⟨oc16, od16, .func (PySem.W.fnOf "_law_whole" "_law_whole" (defArgs s_law_whole) (defBody s_law_whole) (defScope s_law_whole) .none kV16 dc16 pm16 an16 cd16 ct16), sl16⟩) (c16 : PySem.W.codeIn K cd16 "_law_whole"=true) (k16 : PySem.W.keepIn K (.ref f16)=true)
    (a17 : PySem.W.nsIn K mainGlobals "_law_chord"=some (some (.ref f17))) (l17 : K.lookup f17=some ⟨oc17, od17, .func (PySem.W.fnOf "_law_chord" "_law_chord" (defArgs s_law_chord) (defBody s_law_chord) (defScope s_law_chord) .none kV17 dc17 pm17 an17 cd17 ct17), sl17⟩) (c17 : PySem.W.codeIn K cd17 "_law_chord"=true) (k17 : PySem.W.keepIn K (.ref f17)=true)
    (a18 : PySem.W.nsIn K mainGlobals "_law_other"=some (some (.ref f18))) (l18 : K.lookup f18=some ⟨oc18, od18, .func (PySem.W.fnOf "_law_other" "_law_other" (defArgs s_law_other) (defBody s_law_other) (defScope s_law_other) .none kV18 dc18 pm18 an18 cd18 ct18), sl18⟩) (c18 : PySem.W.codeIn K cd18 "_law_other"=true) (k18 : PySem.W.keepIn K (.ref f18)=true)
    (a19 : PySem.W.nsIn K mainGlobals "_law_same_sounds"=some (some (.ref f19))) (l19 : K.lookup f19=some ⟨oc19, od19, .func (PySem.W.fnOf "_law_same_sounds" "_law_same_sounds" (defArgs s_law_same_sounds) (defBody s_law_same_sounds) (defScope s_law_same_sounds) .none kV19 dc19 pm19 an19 cd19 ct19), sl19⟩) (c19 : PySem.W.codeIn K cd19 "_law_same_sounds"=true) (k19 : PySem.W.keepIn K (.ref f19)=true)
    (a20 : PySem.W.nsIn K mainGlobals "_law_moved"=some (some (.ref f20))) (l20 : K.lookup f20=some ⟨oc20, od20, .func (PySem.W.fnOf "_law_moved" "_law_moved" (defArgs s_law_moved) (defBody s_law_moved) (defScope s_law_moved) .none kV20 dc20 pm20 an20 cd20 ct20), sl20⟩) (c20 : PySem.W.codeIn K cd20 "_law_moved"=true) (k20 : PySem.W.keepIn K (.ref f20)=true)
    (a21 : PySem.W.nsIn K mainGlobals "_law_fits"=some (some (.ref f21))) (l21 : K.lookup f21=some ⟨oc21, od21, .func (PySem.W.fnOf "_law_fits" "_law_fits" (defArgs s_law_fits) (defBody s_law_fits) (defScope s_law_fits) .none kV21 dc21 pm21 an21 cd21 ct21), sl21⟩) (c21 : PySem.W.codeIn K cd21 "_law_fits"=true) (k21 : PySem.W.keepIn K (.ref f21)=true)
    (a22 : PySem.W.nsIn K mainGlobals "law"=some (some (.ref f22))) (l22 : K.lookup f22=some ⟨oc22, od22, .func (PySem.W.fnOf "law" "law" (defArgs s_law) (defBody s_law) (defScope s_law) .none kV22 dc22 pm22 an22 cd22 ct22), sl22⟩) (c22 : PySem.W.codeIn K cd22 "law"=true) (k22 : PySem.W.keepIn K (.ref f22)=true)
    (a23 : PySem.W.findIn K (.ref u_KeyTuning) "__init__"=some (some (.ref f23))) (l23 : K.lookup f23=some ⟨oc23, od23, .func (PySem.W.fnOf "__init__" "KeyTuning.__init__" (defArgs s_KeyTuning_init) (defBody s_KeyTuning_init) (defScope s_KeyTuning_init) .none kV23 dc23 pm23 an23 cd23 ct23), sl23⟩) (c23 : PySem.W.codeIn K cd23 "KeyTuning.__init__"=true) (k23 : PySem.W.keepIn K (.ref f23)=true) (i23 : PySem.W.isFn K (.ref f23)=true)
    (a24 : PySem.W.findIn K (.ref u_Board) "__init__"=some (some (.ref f24))) (l24 : K.lookup f24=some ⟨oc24, od24, .func (PySem.W.fnOf "__init__" "Board.__init__" (defArgs s_Board_init) (defBody s_Board_init) (defScope s_Board_init) .none kV24 dc24 pm24 an24 cd24 ct24), sl24⟩) (c24 : PySem.W.codeIn K cd24 "Board.__init__"=true) (k24 : PySem.W.keepIn K (.ref f24)=true) (i24 : PySem.W.isFn K (.ref f24)=true)
    (a25 : PySem.W.findIn K (.ref u_Board) "sound"=some (some (.ref f25))) (l25 : K.lookup f25=some ⟨oc25, od25, .func (PySem.W.fnOf "sound" "Board.sound" (defArgs s_Board_sound) (defBody s_Board_sound) (defScope s_Board_sound) .none kV25 dc25 pm25 an25 cd25 ct25), sl25⟩) (c25 : PySem.W.codeIn K cd25 "Board.sound"=true) (k25 : PySem.W.keepIn K (.ref f25)=true) (i25 : PySem.W.isFn K (.ref f25)=true)
    (a26 : PySem.W.findIn K (.ref u_Leading) "__init__"=some (some (.ref f26))) (l26 : K.lookup f26=some ⟨oc26, od26, .func (PySem.W.fnOf "__init__" "Leading.__init__" (defArgs s_Leading_init) (defBody s_Leading_init) (defScope s_Leading_init) .none kV26 dc26 pm26 an26 cd26 ct26), sl26⟩) (c26 : PySem.W.codeIn K cd26 "Leading.__init__"=true) (k26 : PySem.W.keepIn K (.ref f26)=true) (i26 : PySem.W.isFn K (.ref f26)=true)
    (a27 : PySem.W.findIn K (.ref u_Leading) "room"=some (some (.ref f27))) (l27 : K.lookup f27=some ⟨oc27, od27, .func (PySem.W.fnOf "room" "Leading.room" (defArgs s_Leading_room) (defBody s_Leading_room) (defScope s_Leading_room) .none kV27 dc27 pm27 an27 cd27 ct27), sl27⟩) (c27 : PySem.W.codeIn K cd27 "Leading.room"=true) (k27 : PySem.W.keepIn K (.ref f27)=true) (i27 : PySem.W.isFn K (.ref f27)=true)
    (a28 : PySem.W.findIn K (.ref u_Leading) "nearest"=some (some (.ref f28))) (l28 : K.lookup f28=some ⟨oc28, od28, .func (PySem.W.fnOf "nearest" "Leading.nearest" (defArgs s_Leading_nearest) (defBody s_Leading_nearest) (defScope s_Leading_nearest) .none kV28 dc28 pm28 an28 (.ref c_lam) ct28), sl28⟩) (c28 : PySem.W.codeIn K (.ref c_lam) "Leading.nearest"=true) (k28 : PySem.W.keepIn K (.ref f28)=true) (i28 : PySem.W.isFn K (.ref f28)=true)
    (a29 : PySem.W.findIn K (.ref u_Leading) "shift"=some (some (.ref f29))) (l29 : K.lookup f29=some ⟨oc29, od29, .func (PySem.W.fnOf "shift" "Leading.shift" (defArgs s_Leading_shift) (defBody s_Leading_shift) (defScope s_Leading_shift) .none kV29 dc29 pm29 an29 cd29 ct29), sl29⟩) (c29 : PySem.W.codeIn K cd29 "Leading.shift"=true) (k29 : PySem.W.keepIn K (.ref f29)=true) (i29 : PySem.W.isFn K (.ref f29)=true)
    (a30 : PySem.W.findIn K (.ref u_Leading) "turn"=some (some (.ref f30))) (l30 : K.lookup f30=some ⟨oc30, od30, .func (PySem.W.fnOf "turn" "Leading.turn" (defArgs s_Leading_turn) (defBody s_Leading_turn) (defScope s_Leading_turn) .none kV30 dc30 pm30 an30 cd30 ct30), sl30⟩) (c30 : PySem.W.codeIn K cd30 "Leading.turn"=true) (k30 : PySem.W.keepIn K (.ref f30)=true) (i30 : PySem.W.isFn K (.ref f30)=true)
    (a31 : PySem.W.findIn K (.ref u_Leading) "lead"=some (some (.ref f31))) (l31 : K.lookup f31=some ⟨oc31, od31, .func (PySem.W.fnOf "lead" "Leading.lead" (defArgs s_Leading_lead) (defBody s_Leading_lead) (defScope s_Leading_lead) .none kV31 dc31 pm31 an31 cd31 ct31), sl31⟩) (c31 : PySem.W.codeIn K cd31 "Leading.lead"=true) (k31 : PySem.W.keepIn K (.ref f31)=true) (i31 : PySem.W.isFn K (.ref f31)=true)
     (p1_Board : PySem.W.plainGet K u_Board Str.empty=true) (p2_Board : PySem.W.hasDictIn K u_Board=true) (p3_Board : PySem.W.plainOver K u_Board=true) (p4_Board : PySem.W.findIn K (.ref u_Board) "__setattr__"=some (some (.builtin "object.__setattr__"))) (p5_Board : PySem.W.makesIn K u_Board=true) (p6_Board : PySem.W.keepIn K (.ref u_Board)=true) (p7_Board : PySem.W.findIn K (.ref u_Board) "__init__"=some (some (.ref f24))) (pm_Board_sound : PySem.W.findIn K (.ref u_Board) "sound"=some (some (.ref f25))) (pn_Board_own_keys : PySem.W.findIn K (.ref u_Board) "own_keys"=some none) (pn_Board_octave : PySem.W.findIn K (.ref u_Board) "octave"=some none) (pj_KeyTuning_KeyTuning_init : PySem.W.readsIn K u_KeyTuning (.type "type")=true) (pk_KeyTuning_KeyTuning_init : PySem.W.findCls K (.ref u_KeyTuning) (.type "type") "__init__"=some (.val (.ref f23))) (pl_KeyTuning_KeyTuning_init : PySem.W.specialIn K (.ref u_KeyTuning) "__getattribute__"=some (some (.builtin "type.__getattribute__"))) (p1_Leading : PySem.W.plainGet K u_Leading Str.empty=true) (p2_Leading : PySem.W.hasDictIn K u_Leading=true) (p3_Leading : PySem.W.plainOver K u_Leading=true) (p4_Leading : PySem.W.findIn K (.ref u_Leading) "__setattr__"=some (some (.builtin "object.__setattr__"))) (p5_Leading : PySem.W.makesIn K u_Leading=true) (p6_Leading : PySem.W.keepIn K (.ref u_Leading)=true) (p7_Leading : PySem.W.findIn K (.ref u_Leading) "__init__"=some (some (.ref f26))) (pm_Leading_room : PySem.W.findIn K (.ref u_Leading) "room"=some (some (.ref f27))) (pm_Leading_nearest : PySem.W.findIn K (.ref u_Leading) "nearest"=some (some (.ref f28))) (pm_Leading_shift : PySem.W.findIn K (.ref u_Leading) "shift"=some (some (.ref f29))) (pm_Leading_turn : PySem.W.findIn K (.ref u_Leading) "turn"=some (some (.ref f30))) (pm_Leading_lead : PySem.W.findIn K (.ref u_Leading) "lead"=some (some (.ref f31))) (pn_Leading_ways : PySem.W.findIn K (.ref u_Leading) "ways"=some none) (pn_Leading_tone_prices : PySem.W.findIn K (.ref u_Leading) "tone_prices"=some none) (pn_Leading_goal_prices : PySem.W.findIn K (.ref u_Leading) "goal_prices"=some none) (pn_Leading_goals : PySem.W.findIn K (.ref u_Leading) "goals"=some none) (pn_Leading_comers : PySem.W.findIn K (.ref u_Leading) "comers"=some none)
     (x_MOST_KEYS : PySem.W.nsIn K mainGlobals "MOST_KEYS"=some (some (.int 6 t_MOST_KEYS))) (x_MOST_TONES : PySem.W.nsIn K mainGlobals "MOST_TONES"=some (some (.int 6 t_MOST_TONES))) (z_abs : PySem.W.nsIn K mainGlobals "abs"=some none) (z_all : PySem.W.nsIn K mainGlobals "all"=some none) (z_bool : PySem.W.nsIn K mainGlobals "bool"=some none) (z_int : PySem.W.nsIn K mainGlobals "int"=some none) (z_isinstance : PySem.W.nsIn K mainGlobals "isinstance"=some none) (z_len : PySem.W.nsIn K mainGlobals "len"=some none) (z_list : PySem.W.nsIn K mainGlobals "list"=some none) (z_max : PySem.W.nsIn K mainGlobals "max"=some none) (z_min : PySem.W.nsIn K mainGlobals "min"=some none) (z_range : PySem.W.nsIn K mainGlobals "range"=some none) (z_reversed : PySem.W.nsIn K mainGlobals "reversed"=some none) (z_sorted : PySem.W.nsIn K mainGlobals "sorted"=some none) (z_sum : PySem.W.nsIn K mainGlobals "sum"=some none) (z_tuple : PySem.W.nsIn K mainGlobals "tuple"=some none) (z_zip : PySem.W.nsIn K mainGlobals "zip"=some none) :
    ∃ fd : FuncData, (∀ (s : Shared) (v : Value), BindsTo s fd ⟨[v], []⟩ [("_law_script", v)]) ∧ ∀ base : Heap, K.In base → base.Ns mainGlobals mg → PySem.W.CodeHd base c_lam P_lam → base.BuiltinsAt mg P_lam → FnOk l.prog w K mg base CX0 10 fa fd ["_law_script"] ((spLawM "Leading" "nearest" lpN "Leading.nearest.<locals>.<lambda>") K) := by
  have e := hfa.symm.trans (PySem.W.mg_of X G0 a22)
  cases e
  have T : Txt K mg ⟨u_Board, u_KeyTuning, u_Leading, f23, f24, f25, f26, f27, f28, f29, f30, f31, t_MOST_KEYS, t_MOST_TONES, c_lam⟩ := ⟨PySem.W.mg_none_of X G0 z_abs, PySem.W.mg_none_of X G0 z_all, PySem.W.mg_none_of X G0 z_bool, PySem.W.mg_none_of X G0 z_int, PySem.W.mg_none_of X G0 z_isinstance, PySem.W.mg_none_of X G0 z_len, PySem.W.mg_none_of X G0 z_list, PySem.W.mg_none_of X G0 z_max, PySem.W.mg_none_of X G0 z_min, PySem.W.mg_none_of X G0 z_range, PySem.W.mg_none_of X G0 z_reversed, PySem.W.mg_none_of X G0 z_sorted, PySem.W.mg_none_of X G0 z_sum, PySem.W.mg_none_of X G0 z_tuple, PySem.W.mg_none_of X G0 z_zip, PySem.W.mg_of X G0 x_MOST_KEYS, PySem.W.mg_of X G0 x_MOST_TONES, PySem.W.mg_of X G0 x_Board, x_Board, ⟨p1_Board, p2_Board, p3_Board, p4_Board⟩, ⟨p5_Board, p7_Board, i24, p6_Board⟩, ⟨pm_Board_sound, i25, k25⟩, pn_Board_own_keys, pn_Board_octave, PySem.W.mg_of X G0 x_KeyTuning, x_KeyTuning, ⟨pj_KeyTuning_KeyTuning_init, pk_KeyTuning_KeyTuning_init, pl_KeyTuning_KeyTuning_init⟩, PySem.W.mg_of X G0 x_Leading, x_Leading, ⟨p1_Leading, p2_Leading, p3_Leading, p4_Leading⟩, ⟨p5_Leading, p7_Leading, i26, p6_Leading⟩, ⟨pm_Leading_room, i27, k27⟩, ⟨pm_Leading_nearest, i28, k28⟩, ⟨pm_Leading_shift, i29, k29⟩, ⟨pm_Leading_turn, i30, k30⟩, ⟨pm_Leading_lead, i31, k31⟩, pn_Leading_ways, pn_Leading_tone_prices, pn_Leading_goal_prices, pn_Leading_goals, pn_Leading_comers⟩
  have F0 := fun_mk (st := s_way) l0 c0 k0
  have D_way : Def K mg "way" s_way ["board", "one", "other"] := ⟨_, _, F0, PySem.W.mg_of X G0 a0, F0.binds (ps := ["board", "one", "other"]) fun _ _ _ _ _ _ us hl => of_len3 us hl fun _ _ _ => rfl⟩
  have F1 := fun_mk (st := s_ways_from) l1 c1 k1
  have D_ways_from : Def K mg "ways_from" s_ways_from ["board", "one", "goal"] := ⟨_, _, F1, PySem.W.mg_of X G0 a1, F1.binds (ps := ["board", "one", "goal"]) fun _ _ _ _ _ _ us hl => of_len3 us hl fun _ _ _ => rfl⟩
  have F2 := fun_mk (st := s_led) l2 c2 k2
  have D_led : Def K mg "led" s_led ["board", "chord", "goal"] := ⟨_, _, F2, PySem.W.mg_of X G0 a2, F2.binds (ps := ["board", "chord", "goal"]) fun _ _ _ _ _ _ us hl => of_len3 us hl fun _ _ _ => rfl⟩
  have F3 := fun_mk (st := s_least_steps) l3 c3 k3
  have D_least_steps : Def K mg "least_steps" s_least_steps ["board", "chord", "goal"] := ⟨_, _, F3, PySem.W.mg_of X G0 a3, F3.binds (ps := ["board", "chord", "goal"]) fun _ _ _ _ _ _ us hl => of_len3 us hl fun _ _ _ => rfl⟩
  have F4 := fun_mk (st := s_heard) l4 c4 k4
  have D_heard : Def K mg "heard" s_heard ["weights", "row"] := ⟨_, _, F4, PySem.W.mg_of X G0 a4, F4.binds (ps := ["weights", "row"]) fun _ _ _ _ _ _ us hl => of_len2 us hl fun _ _ => rfl⟩
  have F5 := fun_mk (st := s_value) l5 c5 k5
  have D_value : Def K mg "value" s_value ["key", "row"] := ⟨_, _, F5, PySem.W.mg_of X G0 a5, F5.binds (ps := ["key", "row"]) fun _ _ _ _ _ _ us hl => of_len2 us hl fun _ _ => rfl⟩
  have F6 := fun_mk (st := s_checked_keys) l6 c6 k6
  have D_checked_keys : Def K mg "checked_keys" s_checked_keys ["keys"] := ⟨_, _, F6, PySem.W.mg_of X G0 a6, F6.binds (ps := ["keys"]) fun _ _ _ _ _ _ us hl => of_len1 us hl fun _ => rfl⟩
  have F7 := fun_mk (st := s_values) l7 c7 k7
  have D_values : Def K mg "values" s_values ["keys", "row"] := ⟨_, _, F7, PySem.W.mg_of X G0 a7, F7.binds (ps := ["keys", "row"]) fun _ _ _ _ _ _ us hl => of_len2 us hl fun _ _ => rfl⟩
  have F8 := fun_mk (st := s_law_mixed) l8 c8 k8
  have D_law_mixed : Def K mg "_law_mixed" s_law_mixed ["_law_script", "_law_k"] := ⟨_, _, F8, PySem.W.mg_of X G0 a8, F8.binds (ps := ["_law_script", "_law_k"]) fun _ _ _ _ _ _ us hl => of_len2 us hl fun _ _ => rfl⟩
  have F9 := fun_mk (st := s_law_number) l9 c9 k9
  have D_law_number : Def K mg "_law_number" s_law_number ["_law_script", "_law_k"] := ⟨_, _, F9, PySem.W.mg_of X G0 a9, F9.binds (ps := ["_law_script", "_law_k"]) fun _ _ _ _ _ _ us hl => of_len2 us hl fun _ _ => rfl⟩
  have F10 := fun_mk (st := s_law_row) l10 c10 k10
  have D_law_row : Def K mg "_law_row" s_law_row ["_law_number_here", "_law_first", "_law_half"] := ⟨_, _, F10, PySem.W.mg_of X G0 a10, F10.binds (ps := ["_law_number_here", "_law_first", "_law_half"]) fun _ _ _ _ _ _ us hl => of_len3 us hl fun _ _ _ => rfl⟩
  have F11 := fun_mk (st := s_law_tone) l11 c11 k11
  have D_law_tone : Def K mg "_law_tone" s_law_tone ["_law_number_here", "_law_kind"] := ⟨_, _, F11, PySem.W.mg_of X G0 a11, F11.binds (ps := ["_law_number_here", "_law_kind"]) fun _ _ _ _ _ _ us hl => of_len2 us hl fun _ _ => rfl⟩
  have F12 := fun_mk (st := s_law_plus) l12 c12 k12
  have D_law_plus : Def K mg "_law_plus" s_law_plus ["_law_one", "_law_other_here"] := ⟨_, _, F12, PySem.W.mg_of X G0 a12, F12.binds (ps := ["_law_one", "_law_other_here"]) fun _ _ _ _ _ _ us hl => of_len2 us hl fun _ _ => rfl⟩
  have F13 := fun_mk (st := s_law_within) l13 c13 k13
  have D_law_within : Def K mg "_law_within" s_law_within ["_law_row_here", "_law_first", "_law_half"] := ⟨_, _, F13, PySem.W.mg_of X G0 a13, F13.binds (ps := ["_law_row_here", "_law_first", "_law_half"]) fun _ _ _ _ _ _ us hl => of_len3 us hl fun _ _ _ => rfl⟩
  have F14 := fun_mk (st := s_law_dot) l14 c14 k14
  have D_law_dot : Def K mg "_law_dot" s_law_dot ["_law_w", "_law_row_here"] := ⟨_, _, F14, PySem.W.mg_of X G0 a14, F14.binds (ps := ["_law_w", "_law_row_here"]) fun _ _ _ _ _ _ us hl => of_len2 us hl fun _ _ => rfl⟩
  have F15 := fun_mk (st := s_law_board_row) l15 c15 k15
  have D_law_board_row : Def K mg "_law_board_row" s_law_board_row ["_law_number_here"] := ⟨_, _, F15, PySem.W.mg_of X G0 a15, F15.binds (ps := ["_law_number_here"]) fun _ _ _ _ _ _ us hl => of_len1 us hl fun _ => rfl⟩
  have F16 := fun_mk (st := s_law_whole) l16 c16 k16
  have D_law_whole : Def K mg "_law_whole" s_law_whole ["_law_found"] := ⟨_, _, F16, PySem.W.mg_of X G0 a16, F16.binds (ps := ["_law_found"]) fun _ _ _ _ _ _ us hl => of_len1 us hl fun _ => rfl⟩
  have F17 := fun_mk (st := s_law_chord) l17 c17 k17
  have D_law_chord : Def K mg "_law_chord" s_law_chord ["_law_script", "_law_at", "_law_count"] := ⟨_, _, F17, PySem.W.mg_of X G0 a17, F17.binds (ps := ["_law_script", "_law_at", "_law_count"]) fun _ _ _ _ _ _ us hl => of_len3 us hl fun _ _ _ => rfl⟩
  have F18 := fun_mk (st := s_law_other) l18 c18 k18
  have D_law_other : Def K mg "_law_other" s_law_other ["_law_script", "_law_chord_here"] := ⟨_, _, F18, PySem.W.mg_of X G0 a18, F18.binds (ps := ["_law_script", "_law_chord_here"]) fun _ _ _ _ _ _ us hl => of_len2 us hl fun _ _ => rfl⟩
  have F19 := fun_mk (st := s_law_same_sounds) l19 c19 k19
  have D_law_same_sounds : Def K mg "_law_same_sounds" s_law_same_sounds ["_law_w", "_law_one", "_law_other_here"] := ⟨_, _, F19, PySem.W.mg_of X G0 a19, F19.binds (ps := ["_law_w", "_law_one", "_law_other_here"]) fun _ _ _ _ _ _ us hl => of_len3 us hl fun _ _ _ => rfl⟩
  have F20 := fun_mk (st := s_law_moved) l20 c20 k20
  have D_law_moved : Def K mg "_law_moved" s_law_moved ["_law_chord_here", "_law_span"] := ⟨_, _, F20, PySem.W.mg_of X G0 a20, F20.binds (ps := ["_law_chord_here", "_law_span"]) fun _ _ _ _ _ _ us hl => of_len2 us hl fun _ _ => rfl⟩
  have F21 := fun_mk (st := s_law_fits) l21 c21 k21
  have D_law_fits : Def K mg "_law_fits" s_law_fits ["_law_rows"] := ⟨_, _, F21, PySem.W.mg_of X G0 a21, F21.binds (ps := ["_law_rows"]) fun _ _ _ _ _ _ us hl => of_len1 us hl fun _ => rfl⟩
  have F22 := fun_mk (st := s_law) l22 c22 k22
  have F23 := fun_mk (st := s_KeyTuning_init) l23 c23 k23
  have D_KeyTuning_init : DefM K f23 "__init__" "KeyTuning.__init__" s_KeyTuning_init ["self", "keys"] := ⟨_, F23, F23.binds (ps := ["self", "keys"]) fun _ _ _ _ _ _ us hl => of_len2 us hl fun _ _ => rfl⟩
  have F24 := fun_mk (st := s_Board_init) l24 c24 k24
  have D_Board_init : DefM K f24 "__init__" "Board.__init__" s_Board_init ["self", "row"] := ⟨_, F24, F24.binds (ps := ["self", "row"]) fun _ _ _ _ _ _ us hl => of_len2 us hl fun _ _ => rfl⟩
  have F25 := fun_mk (st := s_Board_sound) l25 c25 k25
  have D_Board_sound : DefM K f25 "sound" "Board.sound" s_Board_sound ["self", "row"] := ⟨_, F25, F25.binds (ps := ["self", "row"]) fun _ _ _ _ _ _ us hl => of_len2 us hl fun _ _ => rfl⟩
  have F26 := fun_mk (st := s_Leading_init) l26 c26 k26
  have D_Leading_init : DefM K f26 "__init__" "Leading.__init__" s_Leading_init ["self", "ways"] := ⟨_, F26, F26.binds (ps := ["self", "ways"]) fun _ _ _ _ _ _ us hl => of_len2 us hl fun _ _ => rfl⟩
  have F27 := fun_mk (st := s_Leading_room) l27 c27 k27
  have D_Leading_room : DefM K f27 "room" "Leading.room" s_Leading_room ["self", "tone", "goal"] := ⟨_, F27, F27.binds (ps := ["self", "tone", "goal"]) fun _ _ _ _ _ _ us hl => of_len3 us hl fun _ _ _ => rfl⟩
  have D_Leading_nearest : DefMT K f28 "nearest" "Leading.nearest" s_Leading_nearest ["self", "tones", "origins"] c_lam := ⟨_, _, _, _, _, _, _, _, _, rfl, l28, c28, k28, .all fun us hl => of_len3 us hl fun _ _ _ => rfl⟩
  have F29 := fun_mk (st := s_Leading_shift) l29 c29 k29
  have D_Leading_shift : DefM K f29 "shift" "Leading.shift" s_Leading_shift ["self", "tones", "origins", "amount"] := ⟨_, F29, F29.binds (ps := ["self", "tones", "origins", "amount"]) fun _ _ _ _ _ _ us hl => of_len4 us hl fun _ _ _ _ => rfl⟩
  have F30 := fun_mk (st := s_Leading_turn) l30 c30 k30
  have D_Leading_turn : DefM K f30 "turn" "Leading.turn" s_Leading_turn ["self", "goal", "origins"] := ⟨_, F30, F30.binds (ps := ["self", "goal", "origins"]) fun _ _ _ _ _ _ us hl => of_len3 us hl fun _ _ _ => rfl⟩
  have F31 := fun_mk (st := s_Leading_lead) l31 c31 k31
  have D_Leading_lead : DefM K f31 "lead" "Leading.lead" s_Leading_lead ["self", "first"] := ⟨_, F31, F31.binds (ps := ["self", "first"]) fun _ _ _ _ _ _ us hl => of_len2 us hl fun _ _ => rfl⟩
  refine⟨PySem.W.fnOf "law" "law" (defArgs s_law) (defBody s_law) (defScope s_law) .none kV22 dc22 pm22 an22 cd22 ct22, fun s v => .of_eq rfl, fun base _ _ hc_lam hb_lam => ?_⟩
  have B_lam : PySem.W.CodeHd base c_lam (tabPM K "Leading" "nearest") ∧ base.BuiltinsAt mg (tabPM K "Leading" "nearest") := by rw [tabPM_of htb];exact⟨hc_lam, hb_lam⟩
  have O_heard := ok_heard (P := l.prog) (w := w) (base := base) D_heard T
  have O_checked_keys := ok_checked_keys (P := l.prog) (w := w) (base := base) D_checked_keys T
  have O_law_mixed := ok_law_mixed (P := l.prog) (w := w) (base := base) D_law_mixed T
  have O_law_row := ok_law_row (P := l.prog) (w := w) (base := base) D_law_row T
  have O_law_plus := ok_law_plus (P := l.prog) (w := w) (base := base) D_law_plus T
  have O_law_within := ok_law_within (P := l.prog) (w := w) (base := base) D_law_within T
  have O_law_dot := ok_law_dot (P := l.prog) (w := w) (base := base) D_law_dot T
  have O_law_whole := ok_law_whole (P := l.prog) (w := w) (base := base) D_law_whole T
  have O_Leading_init := ok_Leading_init (P := l.prog) (w := w) (base := base) D_Leading_init T
  have O_Leading_room := ok_Leading_room (P := l.prog) (w := w) (base := base) D_Leading_room T
  have O_Leading_shift := ok_Leading_shift (P := l.prog) (w := w) (base := base) D_Leading_shift T
  have O_Leading_turn := ok_Leading_turn (P := l.prog) (w := w) (base := base) D_Leading_turn T
  have O_value := ok_value (P := l.prog) (w := w) (base := base) D_value T ⟨O_heard⟩
  have O_law_number := ok_law_number (P := l.prog) (w := w) (base := base) D_law_number T ⟨O_law_mixed⟩
  have O_law_tone := ok_law_tone (P := l.prog) (w := w) (base := base) D_law_tone T ⟨O_law_row⟩
  have O_law_board_row := ok_law_board_row (P := l.prog) (w := w) (base := base) D_law_board_row T ⟨O_law_row⟩
  have O_law_same_sounds := ok_law_same_sounds (P := l.prog) (w := w) (base := base) D_law_same_sounds T ⟨O_law_dot⟩
  have O_law_moved := ok_law_moved (P := l.prog) (w := w) (base := base) D_law_moved T ⟨O_law_plus⟩
  have O_law_fits := ok_law_fits (P := l.prog) (w := w) (base := base) D_law_fits T ⟨O_law_within⟩
  have O_KeyTuning_init := ok_KeyTuning_init (P := l.prog) (w := w) (base := base) D_KeyTuning_init T ⟨O_checked_keys⟩
  have O_values := ok_values (P := l.prog) (w := w) (base := base) D_values T ⟨O_value, O_checked_keys⟩
  have O_law_chord := ok_law_chord (P := l.prog) (w := w) (base := base) D_law_chord T ⟨O_law_number, O_law_tone⟩
  have O_Board_init := ok_Board_init (P := l.prog) (w := w) (base := base) D_Board_init T ⟨O_KeyTuning_init⟩
  have O_law_other := ok_law_other (P := l.prog) (w := w) (base := base) D_law_other T ⟨O_law_number, O_law_row, O_law_plus, O_law_within, O_law_chord⟩
  have O_Board_sound := ok_Board_sound (P := l.prog) (w := w) (base := base) D_Board_sound T ⟨O_values⟩
  have O_way := ok_way (P := l.prog) (w := w) (base := base) D_way T ⟨O_Board_sound⟩
  have O_ways_from := ok_ways_from (P := l.prog) (w := w) (base := base) D_ways_from T ⟨O_way⟩
  have O_Leading_nearest := ok_Leading_nearest (P := l.prog) (w := w) (base := base) D_Leading_nearest T ⟨O_Leading_room⟩ B_lam
  have O_Leading_lead := ok_Leading_lead (P := l.prog) (w := w) (base := base) D_Leading_lead T ⟨O_Leading_nearest, O_Leading_room, O_Leading_shift, O_Leading_turn⟩
  have O_led := ok_led (P := l.prog) (w := w) (base := base) D_led T ⟨O_ways_from, O_Leading_init, O_Leading_lead⟩
  have O_least_steps := ok_least_steps (P := l.prog) (w := w) (base := base) D_least_steps T ⟨O_led⟩
  exact fn_law F22 T ⟨O_least_steps, O_law_number, O_law_tone, O_law_board_row, O_law_whole, O_law_chord, O_law_other, O_law_same_sounds, O_law_moved, O_law_fits, O_Board_init⟩
end Law
open PySem PySem.W PyProof.Rows
set_option maxRecDepth 100000 in
set_option maxHeartbeats 0 in
theorem PySem.Challenge.cw_tuningyard_k80_whole_steps_are_a_distanc_holds : PySem.Challenge.rw_tuningyard_k80_whole_steps_are_a_distanc.Holds := by
 w_on;o_law;k_head;(case hw=>w_witness2)
 k_fill
 refine' L2.walk_ofM (l:=PySem.Challenge.rw_tuningyard_k80_whole_steps_are_a_distanc) (k:=10) (x:="_law_script") "Leading" "nearest" Law.lpN "Leading.nearest.<locals>.<lambda>" rfl rfl ⟨rfl,by decide,by decide⟩ ?hY ?ht ?hh ?hk ?F
 case hY=>exact fun w h Y=>⟨PySem.W.km_in_of Y,PySem.W.km_tabs_of Y _ (List.Mem.head _)⟩
 case ht=>exact fun w=>rfl
 case hh=>intro w;kernel_rfl
 case hk=>intro w;kernel_rfl
 case F =>
  intro w mg fa h KX G hmg htb
  refine' Law.all_mk KX G hmg htb ?x_Board ?x_KeyTuning ?x_Leading ?a0 ?l0 ?c0 ?k0 ?a1 ?l1 ?c1 ?k1 ?a2 ?l2 ?c2 ?k2 ?a3 ?l3 ?c3 ?k3 ?a4 ?l4 ?c4 ?k4 ?a5 ?l5 ?c5 ?k5 ?a6 ?l6 ?c6 ?k6 ?a7 ?l7 ?c7 ?k7 ?a8 ?l8 ?c8 ?k8 ?a9 ?l9 ?c9 ?k9 ?a10 ?l10 ?c10 ?k10 ?a11 ?l11 ?c11 ?k11 ?a12 ?l12 ?c12 ?k12 ?a13 ?l13 ?c13 ?k13 ?a14 ?l14 ?c14 ?k14 ?a15 ?l15 ?c15 ?k15 ?a16 ?l16 ?c16 ?k16 ?a17 ?l17 ?c17 ?k17 ?a18 ?l18 ?c18 ?k18 ?a19 ?l19 ?c19 ?k19 ?a20 ?l20 ?c20 ?k20 ?a21 ?l21 ?c21 ?k21 ?a22 ?l22 ?c22 ?k22 ?a23 ?l23 ?c23 ?k23 ?i23 ?a24 ?l24 ?c24 ?k24 ?i24 ?a25 ?l25 ?c25 ?k25 ?i25 ?a26 ?l26 ?c26 ?k26 ?i26 ?a27 ?l27 ?c27 ?k27 ?i27 ?a28 ?l28 ?c28 ?k28 ?i28 ?a29 ?l29 ?c29 ?k29 ?i29 ?a30 ?l30 ?c30 ?k30 ?i30 ?a31 ?l31 ?c31 ?k31 ?i31 ?p1_Board ?p2_Board ?p3_Board ?p4_Board ?p5_Board ?p6_Board ?p7_Board ?pm_Board_sound ?pn_Board_own_keys ?pn_Board_octave ?pj_KeyTuning_KeyTuning_init ?pk_KeyTuning_KeyTuning_init ?pl_KeyTuning_KeyTuning_init ?p1_Leading ?p2_Leading ?p3_Leading ?p4_Leading ?p5_Leading ?p6_Leading ?p7_Leading ?pm_Leading_room ?pm_Leading_nearest ?pm_Leading_shift ?pm_Leading_turn ?pm_Leading_lead ?pn_Leading_ways ?pn_Leading_tone_prices ?pn_Leading_goal_prices ?pn_Leading_goals ?pn_Leading_comers ?x_MOST_KEYS ?x_MOST_TONES ?z_abs ?z_all ?z_bool ?z_int ?z_isinstance ?z_len ?z_list ?z_max ?z_min ?z_range ?z_reversed ?z_sorted ?z_sum ?z_tuple ?z_zip
  (case x_Board=>k_is)
  (case x_KeyTuning=>k_is)
  (case x_Leading=>k_is)
  (case a0=>k_is)
  (case l0=>k_is)
  (case c0=>k_is)
  (case k0=>k_is)
  (case a1=>k_is)
  (case l1=>k_is)
  (case c1=>k_is)
  (case k1=>k_is)
  (case a2=>k_is)
  (case l2=>k_is)
  (case c2=>k_is)
  (case k2=>k_is)
  (case a3=>k_is)
  (case l3=>k_is)
  (case c3=>k_is)
  (case k3=>k_is)
  (case a4=>k_is)
  (case l4=>k_is)
  (case c4=>k_is)
  (case k4=>k_is)
  (case a5=>k_is)
  (case l5=>k_is)
  (case c5=>k_is)
  (case k5=>k_is)
  (case a6=>k_is)
  (case l6=>k_is)
  (case c6=>k_is)
  (case k6=>k_is)
  (case a7=>k_is)
  (case l7=>k_is)
  (case c7=>k_is)
  (case k7=>k_is)
  (case a8=>k_is)
  (case l8=>k_is)
  (case c8=>k_is)
  (case k8=>k_is)
  (case a9=>k_is)
  (case l9=>k_is)
  (case c9=>k_is)
  (case k9=>k_is)
  (case a10=>k_is)
  (case l10=>k_is)
  (case c10=>k_is)
  (case k10=>k_is)
  (case a11=>k_is)
  (case l11=>k_is)
  (case c11=>k_is)
  (case k11=>k_is)
  (case a12=>k_is)
  (case l12=>k_is)
  (case c12=>k_is)
  (case k12=>k_is)
  (case a13=>k_is)
  (case l13=>k_is)
  (case c13=>k_is)
  (case k13=>k_is)
  (case a14=>k_is)
  (case l14=>k_is)
  (case c14=>k_is)
  (case k14=>k_is)
  (case a15=>k_is)
  (case l15=>k_is)
  (case c15=>k_is)
  (case k15=>k_is)
  (case a16=>k_is)
  (case l16=>k_is)
  (case c16=>k_is)
  (case k16=>k_is)
  (case a17=>k_is)
  (case l17=>k_is)
  (case c17=>k_is)
  (case k17=>k_is)
  (case a18=>k_is)
  (case l18=>k_is)
  (case c18=>k_is)
  (case k18=>k_is)
  (case a19=>k_is)
  (case l19=>k_is)
  (case c19=>k_is)
  (case k19=>k_is)
  (case a20=>k_is)
  (case l20=>k_is)
  (case c20=>k_is)
  (case k20=>k_is)
  (case a21=>k_is)
  (case l21=>k_is)
  (case c21=>k_is)
  (case k21=>k_is)
  (case a22=>k_is)
  (case l22=>k_is)
  (case c22=>k_is)
  (case k22=>k_is)
  (case a23=>k_is)
  (case l23=>k_is)
  (case c23=>k_is)
  (case k23=>k_is)
  (case i23=>k_is)
  (case a24=>k_is)
  (case l24=>k_is)
  (case c24=>k_is)
  (case k24=>k_is)
  (case i24=>k_is)
  (case a25=>k_is)
  (case l25=>k_is)
  (case c25=>k_is)
  (case k25=>k_is)
  (case i25=>k_is)
  (case a26=>k_is)
  (case l26=>k_is)
  (case c26=>k_is)
  (case k26=>k_is)
  (case i26=>k_is)
  (case a27=>k_is)
  (case l27=>k_is)
  (case c27=>k_is)
  (case k27=>k_is)
  (case i27=>k_is)
  (case a28=>k_is)
  (case l28=>k_is)
  (case c28=>k_is)
  (case k28=>k_is)
  (case i28=>k_is)
  (case a29=>k_is)
  (case l29=>k_is)
  (case c29=>k_is)
  (case k29=>k_is)
  (case i29=>k_is)
  (case a30=>k_is)
  (case l30=>k_is)
  (case c30=>k_is)
  (case k30=>k_is)
  (case i30=>k_is)
  (case a31=>k_is)
  (case l31=>k_is)
  (case c31=>k_is)
  (case k31=>k_is)
  (case i31=>k_is)
  (case p1_Board=>k_is)
  (case p2_Board=>k_is)
  (case p3_Board=>k_is)
  (case p4_Board=>k_is)
  (case p5_Board=>k_is)
  (case p6_Board=>k_is)
  (case p7_Board=>k_is)
  (case pm_Board_sound=>k_is)
  (case pn_Board_own_keys=>k_is)
  (case pn_Board_octave=>k_is)
  (case pj_KeyTuning_KeyTuning_init=>k_is)
  (case pk_KeyTuning_KeyTuning_init=>k_is)
  (case pl_KeyTuning_KeyTuning_init=>k_is)
  (case p1_Leading=>k_is)
  (case p2_Leading=>k_is)
  (case p3_Leading=>k_is)
  (case p4_Leading=>k_is)
  (case p5_Leading=>k_is)
  (case p6_Leading=>k_is)
  (case p7_Leading=>k_is)
  (case pm_Leading_room=>k_is)
  (case pm_Leading_nearest=>k_is)
  (case pm_Leading_shift=>k_is)
  (case pm_Leading_turn=>k_is)
  (case pm_Leading_lead=>k_is)
  (case pn_Leading_ways=>k_is)
  (case pn_Leading_tone_prices=>k_is)
  (case pn_Leading_goal_prices=>k_is)
  (case pn_Leading_goals=>k_is)
  (case pn_Leading_comers=>k_is)
  (case x_MOST_KEYS=>k_is)
  (case x_MOST_TONES=>k_is)
  (case z_abs=>k_is)
  (case z_all=>k_is)
  (case z_bool=>k_is)
  (case z_int=>k_is)
  (case z_isinstance=>k_is)
  (case z_len=>k_is)
  (case z_list=>k_is)
  (case z_max=>k_is)
  (case z_min=>k_is)
  (case z_range=>k_is)
  (case z_reversed=>k_is)
  (case z_sorted=>k_is)
  (case z_sum=>k_is)
  (case z_tuple=>k_is)
  (case z_zip=>k_is)
