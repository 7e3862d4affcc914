import PyProof.Rows.All
import Wide.All
import OpenK.AllK
import Wide.FinOn
import Lean
import PyProof.EqAt
import PyProof.EqKinds
import PyProof.TupleCall
import PyProof.CompMap
import PyProof.ZipIter
import PyProof.TupleIter
import PyProof.ExcAttrAll.ValueError
import KE.KSortKey
import KE.KRevIter
import KE.KLam
import KE.KNestM
import PyProof.Rows.Range3
import PyProof.EnumMake
import PyProof.JoinWalk
import PyProof.Rows.StrSplitJoin
import PyProof.Rows.StrWeight2
import PyProof.StrOps2
import KE.KSortTup
import KE.KMinKey
import PyProof.ListRange
import PyProof.Rows.StrCountLaw
import PyProof.Rows.SetFrom
import PyProof.Rows.FactsT2
import PyProof.StrLawsTight
import PyProof.StrLawsChain
import PyProof.Rows.StrItems
import KE.KIntText
import PyProof.StrLawsFirst
import PyProof.StrBlockL
import PyProof.Rows.StrNews2
import PyProof.StrWalks
import PySem.Challenge.RW_tuningyard_k60_sounds_told
set_option Elab.async false
set_option linter.all false
set_option maxRecDepth 100000
namespace L2
open PySem PySem.Spec PyProof.Rows
noncomputable abbrev Key:=Sum Int Str
noncomputable def keyIs:Key→Value→Bool
 | .inl k,v=>Value.isInt k v
 | .inr x,v=>Value.isStrOf x v
noncomputable def keyH (w:World):Key→Int
 | .inl k=>hashInt k
 | .inr x=>hashStr w x
theorem keyIs_shape:∀ {k:Key} {v:Value},keyIs k v=true→(∃ i t,k=Sum.inl i∧v=Value.int i t)∨(∃ x t,k=Sum.inr x∧v=Value.str x t)
 | .inl i,v,h=>by
  obtain ⟨t,e⟩:=Value.isInt_shape (k:=i) (v:=v) h
  exact .inl ⟨i,t,rfl,e⟩
 | .inr x,v,h=>by
  obtain ⟨t,e⟩:=Value.isStrOf_shape (x:=x) (v:=v) h
  exact .inr ⟨x,t,rfl,e⟩
theorem key_ll (a b:Int):decide ((Sum.inl a:Key)=Sum.inl b)=(a == b):=by
 by_cases e:a=b
 ·subst e;simp
 ·have h:¬ (Sum.inl a:Key)=Sum.inl b:=fun q=>e (Sum.inl.inj q)
  rw [decide_eq_false h]
  exact (beq_eq_false_iff_ne.mpr e).symm
theorem key_rr (a b:Str):decide ((Sum.inr a:Key)=Sum.inr b)=decide (a=b):=by
 by_cases e:a=b
 ·subst e;simp
 ·have h:¬ (Sum.inr a:Key)=Sum.inr b:=fun q=>e (Sum.inr.inj q)
  rw [decide_eq_false h,decide_eq_false e]
theorem key_lr (a:Int) (b:Str):decide ((Sum.inl a:Key)=Sum.inr b)=false:=decide_eq_false (fun q=>nomatch q)
theorem key_rl (a:Str) (b:Int):decide ((Sum.inr a:Key)=Sum.inl b)=false:=decide_eq_false (fun q=>nomatch q)
noncomputable def mixKind (prog:Program) (w:World):PySem.KeyKind prog w Key where
 is:=keyIs
 hash:=keyH w
 inj:=fun v a b ha hb=>by
  rcases keyIs_shape ha with ⟨i,t,rfl,rfl⟩|⟨x,t,rfl,rfl⟩
  ·rcases keyIs_shape hb with ⟨j,u,rfl,e⟩|⟨y,u,rfl,e⟩
   ·injection e with e1 _;rw [e1]
   ·exact nomatch e
  ·rcases keyIs_shape hb with ⟨j,u,rfl,e⟩|⟨y,u,rfl,e⟩
   ·exact nomatch e
   ·injection e with e1 _;rw [e1]
 byValue:=fun k v h=>by
  rcases keyIs_shape h with ⟨i,t,rfl,rfl⟩|⟨x,t,rfl,rfl⟩ <;> rfl
 pyHash:=fun hv h=>by
  rcases keyIs_shape hv with ⟨i,t,rfl,rfl⟩|⟨x,t,rfl,rfl⟩
  ·exact wpAny_pyHash_int h
  ·exact wpAny_pyHash_str h
 eqBool:=fun hu hv h=>by
  rcases keyIs_shape hu with ⟨i,t,rfl,rfl⟩|⟨x,t,rfl,rfl⟩
  ·rcases keyIs_shape hv with ⟨j,u,rfl,rfl⟩|⟨y,u,rfl,rfl⟩
   ·rw [key_ll] at h;exact wpAny_eqBool_int h
   ·rw [key_lr] at h;exact SeqAt.EqAt.int_str i t y u _ _ _ _ h
  ·rcases keyIs_shape hv with ⟨j,u,rfl,rfl⟩|⟨y,u,rfl,rfl⟩
   ·rw [key_rl] at h;exact SeqAt.EqAt.str_int x t j u _ _ _ _ h
   ·rw [key_rr] at h;exact wpAny_eqBool_str h
 «strs»:=fun k x t v h=>by
  rcases keyIs_shape h with ⟨i,u,rfl,e⟩|⟨y,u,rfl,e⟩
  ·exact nomatch e
  ·injection e with e1 _
   subst e1
   cases v <;> rfl
end L2
namespace L2
open PySem PySem.Spec PyProof.Rows
inductive V where
 | non|bl (b:Bool)|int (i:Int)|str (x:Str)|byt (b:Array UInt8)|flt (b:UInt64)|ref (a:Addr)|ty (n:String)
 deriving DecidableEq
noncomputable def RelV:V→Value→Prop
 | .non,u=>u=Value.none
 | .bl b,u=>u=Value.bool b
 | .int i,u=>∃ t,u=Value.int i t
 | .str x,u=>∃ t,u=Value.str x t
 | .byt b,u=>∃ t,u=Value.bytes b t
 | .flt b,u=>∃ t,u=Value.float b t
 | .ref a,u=>u=Value.ref a
 | .ty n,u=>u=Value.type n
noncomputable abbrev Vals:List V→List Value→Prop:=Paired RelV
theorem Vals.length {xs:List V} {us:List Value} (r:Vals xs us):xs.length=us.length:=Paired.length r
theorem Vals.get:∀ {xs:List V} {us:List Value} {i:Nat} {x:V},Vals xs us→xs[i]?=some x→∃ u,us[i]?=some u∧RelV x u
 | _,_,_,_,.nil,e=>by simp at e
 | _,_,0,_,.cons r _,e=>by simp at e;subst e;exact⟨_,rfl,r⟩
 | _,_,i+1,x,.cons _ t,e=>by
  obtain ⟨u,h1,h2⟩:=Vals.get (i:=i) (x:=x) t (by simpa using e)
  exact⟨u,by simpa using h1,h2⟩
theorem Vals.set {x:V} {u:Value} (r:RelV x u):∀ {xs:List V} {us:List Value} (i:Nat),Vals xs us→Vals (xs.set i x) (us.set i u)
 | _,_,_,.nil=>.nil
 | _,_,0,.cons _ t=>.cons r t
 | _,_,i+1,.cons q t=>.cons q (Vals.set r i t)
theorem Vals.append:∀ {xs ys:List V} {us ws:List Value},Vals xs us→Vals ys ws→Vals (xs++ys) (us++ws)
 | _,_,_,_,.nil,s=>s
 | _,_,_,_,.cons r t,s=>.cons r (Vals.append t s)
theorem Vals.take:∀ {xs:List V} {us:List Value} (n:Nat),Vals xs us→Vals (xs.take n) (us.take n)
 | _,_,0,_=>.nil
 | _,_,_+1,.nil=>.nil
 | _,_,n+1,.cons r t=>.cons r (Vals.take n t)
theorem Vals.drop:∀ {xs:List V} {us:List Value} (n:Nat),Vals xs us→Vals (xs.drop n) (us.drop n)
 | _,_,0,r=>r
 | _,_,_+1,.nil=>.nil
 | _,_,n+1,.cons _ t=>Vals.drop n t
noncomputable def RelO:Option V→Option Value→Prop
 | some v,some u=>RelV v u
 | none,none=>True
 | _,_=>False
noncomputable def KV {κ:Type}:List (κ×V)→List (κ×Value)→Prop:=Paired fun (p:κ×V) (q:κ×Value)=>p.1=q.1∧RelV p.2 q.2
noncomputable def kV:Key→V
 | .inl i=>.int i
 | .inr x=>.str x
inductive HO where
 /-- a list -/
 | lst (xs:List V)
 /-- a tuple (never changes) -/
 | tup (xs:List V)
 /-- a dict whose keys are ints and texts;one whose keys are tuples of ints and texts (the empty one is both) -/
 | dK (kvs:List (Key×V))|dT (kvs:List (List Key×V))
 /-- a set of ints: its members,its size -/
 | set (S:Int→Bool) (n:Nat)
 /-- an instance of the class at C,its dict at dx,its attributes -/
 | ins (C dx:Addr) (fs:List (Str×V))
 /-- the dict of the instance at x -/
 | own (x:Addr)
 /-- the dict of an exception -/
 | xd (fs:List (Str×V))
 /-- a bound method,f of x -/
 | met (f x:Addr)
 /-- a range object lo,lo+1,.. below hi -/
 | rng (lo hi:Int)
 /-- a thing that is known to the object (the script;a dict while a loop walks it): read,never written while it is so -/
 | frz (o:Obj) (u:HO)
 /-- a code object's table -/
 | tbl (ps:Array Value)
 /-- any other thing,by what is true of its one object (a def of one's own: SetO a S n:=HO.ext fun h=>..) -/
 | ext (φ:Heap→Prop)
noncomputable abbrev Hp:=Addr→Option HO
noncomputable def upd (H:Hp) (a:Addr) (o:HO):Hp:=fun b=>if b=a then some o else H b
theorem upd_same {H:Hp} {a:Addr} {o:HO}:upd H a o a=some o:=by unfold upd;rw [if_pos rfl]
theorem upd_ne {H:Hp} {a b:Addr} {o:HO} (h:b≠a):upd H a o b=H b:=by unfold upd;rw [if_neg h]
theorem ne_of_none {H:Hp} {a b:Addr} {o:HO} (h:H a=some o) (h':H b=none):a≠b:=by
 intro e;subst e;rw [h] at h';cases h'
section
variable (P:Program) (w:World)
noncomputable def ObjOk (H:Hp) (h:Heap) (a:Addr):HO→Prop
 | .lst xs=>xs.length≤sizeLine∧∃ (its:List Value) (n:Nat),Vals xs its∧h.get? a=some { cls:=.type "list",data:=.seq its.toArray n }
 | .tup xs=>xs.length≤sizeLine∧∃ its:List Value,Vals xs its∧IsTup h a its.toArray
 | .dK kvs=>kvs.length≤sizeLine∧(a == sysModules)=false∧∃ vs,KV kvs vs∧h.DictOf (mixKind P w) a vs
 | .dT kvs=>kvs.length≤sizeLine∧(a == sysModules)=false∧∃ xs:List (List Key×Addr×Value),
   Paired (fun (p:List Key×V) (q:List Key×Addr×Value)=>p.1=q.1∧H q.2.1=some (.tup (p.1.map kV))∧RelV p.2 q.2.2) kvs xs ∧
   ∃ o es ep,h.get? a=some o∧o.ExactDict∧o.data=.dict es ep∧es.toList=xs.map (entryOfKey (tupleKind (mixKind P w)))∧(xs.map (·.1)).Nodup
 | .set S n=>h.SetOf (intKind P w) a S n
 | .ins C dx fs=>H dx=some (.own a)∧fs.length≤1000∧dx≠a∧h.get? a=some (PySem.W.instObj C dx) ∧
   ∃ mA,h.Ns1 dx mA∧(∀ f,RelO (fs.lookup f) (mA f))∧PySem.Within mA (fs.map (·.1))
 | .own _=>∃ o,h.get? a=some o
 | .xd fs=>∃ mA,h.Ns1 a mA∧∀ f,RelO (fs.lookup f) (mA f)
 | .rng lo hi=>∃ t u v,h.get? a=some { cls:=.type "range",data:=.fields #[.int lo t,.int hi u,.int 1 v] }
 | .frz o u=>h.get? a=some o∧ObjOk H h a u
 | .tbl ps=>h.get? a=some { cls:=.none,data:=.fields ps }
 | .met f x=>h.get? a=some (PySem.W.methodObj (.ref f) (.ref x))
 | .ext φ=>φ h∧(∃ o,h.get? a=some o)∧∀ h1 h2:Heap,φ h1→(∀ o,h1.get? a=some o→h2.get? a=some o)→φ h2
noncomputable def HOk (H:Hp) (h:Heap):Prop:=∀ a o,H a=some o→ObjOk P w H h a o
end
section
variable {P:Program} {w:World} {H H':Hp} {h h':Heap} {a:Addr} {o:HO}
theorem ObjOk.lt (x:ObjOk P w H h a o):a<h.objs.size:=by
 cases o with
 | lst xs=>obtain ⟨_,_,_,_,e⟩:=x;exact Heap.lt_size e
 | tup xs=>obtain ⟨_,_,_,p⟩:=x;exact p.lt
 | dK kvs=>obtain ⟨_,_,_,_,o,_,_,e,_⟩:=x;exact Heap.lt_size e
 | dT kvs=>obtain ⟨_,_,_,_,o,_,_,e,_⟩:=x;exact Heap.lt_size e
 | set S n=>obtain ⟨o,_,_,_,e,_⟩:=x;exact Heap.lt_size e
 | ins C dx fs=>obtain ⟨_,_,_,e,_⟩:=x;exact Heap.lt_size e
 | own y=>obtain ⟨_,e⟩:=x;exact Heap.lt_size e
 | xd fs=>obtain ⟨_,⟨_,_,_,e,_⟩,_⟩:=x;exact Heap.lt_size e
 | rng lo hi=>obtain ⟨_,_,_,e⟩:=x;exact Heap.lt_size e
 | frz ob u=>obtain ⟨e,_⟩:=x;exact Heap.lt_size e
 | tbl ps=>exact Heap.lt_size (show h.get? a=some _ from x)
 | met f y=>exact Heap.lt_size (show h.get? a=some _ from x)
 | ext φ=>obtain ⟨_,⟨_,e⟩,_⟩:=x;exact Heap.lt_size e
theorem Paired.mapP {α β:Type} {F G:α→β→Prop}:∀ {l₁:List α} {l₂:List β},Paired F l₁ l₂→(∀ a b,F a b→G a b)→Paired G l₁ l₂
 | _,_,.nil,_=>.nil
 | _,_,.cons r t,f=>.cons (f _ _ r) (Paired.mapP t f)
theorem ObjOk.stay (x:ObjOk P w H h a o) (k:∀ b u,(b=a∨H b=some (.own a))→h.get? b=some u→h'.get? b=some u)
  (ho:∀ b,H b=some (.own a)→H' b=some (.own a)) (ht:∀ b xs,H b=some (.tup xs)→H' b=some (.tup xs)):ObjOk P w H' h' a o:=by
 induction o with
 | lst xs=>obtain ⟨z,its,n,r,e⟩:=x;exact⟨z,its,n,r,k _ _ (.inl rfl) e⟩
 | tup xs=>obtain ⟨z,its,r,ob,e,c⟩:=x;exact⟨z,its,r,ob,k _ _ (.inl rfl) e,c⟩
 | dK kvs=>obtain ⟨z,y,vs,r,ob,es,ep,e,c⟩:=x;exact⟨z,y,vs,r,ob,es,ep,k _ _ (.inl rfl) e,c⟩
 | dT kvs =>
  obtain ⟨z,y,xs,r,ob,es,ep,e,c⟩:=x
  exact⟨z,y,xs,Paired.mapP r fun p q z=>⟨z.1,ht _ _ z.2.1,z.2.2⟩,ob,es,ep,k _ _ (.inl rfl) e,c⟩
 | set S n=>obtain ⟨ob,es,ep,t,e,c⟩:=x;exact⟨ob,es,ep,t,k _ _ (.inl rfl) e,c⟩
 | ins C dx fs =>
  obtain ⟨d,z,ne,e,mA,⟨od,es,ep,e2,c⟩,r⟩:=x
  exact⟨ho _ d,z,ne,k _ _ (.inl rfl) e,mA,⟨od,es,ep,k _ _ (.inr d) e2,c⟩,r⟩
 | own y=>obtain ⟨ob,e⟩:=x;exact⟨ob,k _ _ (.inl rfl) e⟩
 | xd fs=>obtain ⟨mA,⟨od,es,ep,e,c⟩,r⟩:=x;exact⟨mA,⟨od,es,ep,k _ _ (.inl rfl) e,c⟩,r⟩
 | rng lo hi=>obtain ⟨t,u,v,e⟩:=x;exact⟨t,u,v,k _ _ (.inl rfl) e⟩
 | frz ob u ih=>obtain ⟨e,q⟩:=x;exact⟨k _ _ (.inl rfl) e,ih q⟩
 | tbl ps =>
  have e:h.get? a=some { cls:=.none,data:=.fields ps }:=x
  show h'.get? a=some { cls:=.none,data:=.fields ps }
  exact k a _ (.inl rfl) e
 | met f y =>
  have e:h.get? a=some (PySem.W.methodObj (.ref f) (.ref y)):=x
  show h'.get? a=some (PySem.W.methodObj (.ref f) (.ref y))
  exact k a _ (.inl rfl) e
 | ext φ=>obtain ⟨p,⟨o,e⟩,st⟩:=x;exact⟨st _ _ p fun o q=>k _ _ (.inl rfl) q,⟨o,k _ _ (.inl rfl) e⟩,st⟩
theorem HOk.lt (x:HOk P w H h) (e:H a=some o):a<h.objs.size:=(x a o e).lt
theorem HOk.fresh (x:HOk P w H h) (e:h.objs.size≤a):H a=none:=by
 cases q:H a with
 | none=>rfl
 | some u=>exact absurd (Nat.lt_of_lt_of_le (x.lt q) e) (Nat.lt_irrefl _)
theorem HOk.kept (x:HOk P w H h) (k:∀ b u,h.get? b=some u→h'.get? b=some u):HOk P w H h':=fun a o e =>
 (x a o e).stay (fun b u _ q=>k b u q) (fun _ q=>q) fun _ _ q=>q
theorem HOk.laid (x:HOk P w H h) (k:∀ b u,h.get? b=some u→h'.get? b=some u) (hp:h.objs.size≤a) (new:ObjOk P w (upd H a o) h' a o):HOk P w (upd H a o) h':=fun b u e=>by
 have hn:=x.fresh hp
 by_cases hb:b=a
 ·subst hb;rw [upd_same] at e;cases e;exact new
 ·rw [upd_ne hb] at e
  exact (x b u e).stay (fun c v _ q=>k c v q) (fun c q=>by rw [upd_ne (ne_of_none q hn)];exact q) fun c xs q=>by rw [upd_ne (ne_of_none q hn)];exact q
end
noncomputable def Rd (H:Hp) (a:Addr) (u:HO):Prop:=H a=some u∨∃ o,H a=some (.frz o u)
theorem Rd.ok {P:Program} {w:World} {H:Hp} {h:Heap} {a:Addr} {u:HO} (r:Rd H a u) (x:HOk P w H h):ObjOk P w H h a u:=by
 rcases r with r|⟨o,r⟩
 ·exact x a u r
 ·obtain ⟨_,q⟩:=x a _ r
  exact q
noncomputable def Mut:Option HO→Prop
 | some (.lst _)=>True
 | some (.dK _)=>True
 | some (.dT _)=>True
 | some (.set _ _)=>True
 | some (.ins _ _ _)=>True
 | some (.ext _)=>True
 | _=>False
section
variable {P:Program} {w:World} {H:Hp} {h h':Heap} {x e:Addr} {o':HO}
theorem HOk.write (ok:HOk P w H h) (mu:Mut (H x)) (he:e=x∨H e=some (.own x)) (k:∀ b u,b≠e→h.get? b=some u→h'.get? b=some u) (heo:∃ u,h'.get? e=some u)
  (new:ObjOk P w (upd H x o') h' x o'):HOk P w (upd H x o') h':=fun b u q=>by
 have nown:∀ c y,H c=some (.own y)→c≠x:=fun c y r z=>by subst z;rw [r] at mu;exact mu
 have ntup:∀ c xs,H c=some (.tup xs)→c≠x:=fun c xs r z=>by subst z;rw [r] at mu;exact mu
 by_cases hb:b=x
 ·subst hb;rw [upd_same] at q;cases q;exact new
 ·rw [upd_ne hb] at q
  by_cases hbe:b=e
  ·have q':H b=some (.own x):=by
    rcases he with z|z
    ·exact absurd (hbe.trans z) hb
    ·rw [hbe];exact z
   rw [q] at q';cases q'
   obtain ⟨v,hv⟩:=heo
   exact⟨v,by rw [hbe];exact hv⟩
  ·refine (ok b u q).stay (fun c v hc r=>k c v ?_ r) (fun c r=>by rw [upd_ne (nown c b r)];exact r) fun c xs r=>by rw [upd_ne (ntup c xs r)];exact r
   rcases hc with rfl|hc
   ·exact hbe
   ·rintro rfl
    rcases he with z|z
    ·exact nown c b hc z
    ·rw [hc] at z;cases z;exact hb rfl
end
structure Un (fs ex:List Addr) (H H':Hp) (h h':Heap):Prop where
 keep:∀ b o,h.get? b=some o→H b=none→b∉fs→b∉ex→h'.get? b=some o
 slot:∀ b o,h.get? b=some o→H b=none→b∈fs→b∉ex→∃ sl,h'.get? b=some { o with slots:=sl }
 free:∀ b o,h.get? b=some o→H b=none→b∉ex→H' b=none
 there:∀ b o,h.get? b=some o→b∉ex→∃ o',h'.get? b=some o'
 tups:∀ b xs,H b=some (.tup xs)→H' b=some (.tup xs)
 frzs:∀ b o u,H b=some (.frz o u)→H' b=some (.frz o u)
 tbls:∀ b ps,H b=some (.tbl ps)→∃ more,H' b=some (.tbl (ps++more))
section
variable {fs fs' ex ex':List Addr} {H H1 H2:Hp} {h h1 h2 h':Heap} {a x e:Addr} {o:HO}
theorem Un.any (u:Un fs ex H H1 h h1) {b:Addr} {ob:Obj} (q:h.get? b=some ob) (n:H b=none) (hx:b∉ex):∃ sl,h1.get? b=some { ob with slots:=sl }:=by
 by_cases hb:b∈fs
 ·exact u.slot b ob q n hb hx
 ·exact⟨ob.slots,u.keep b ob q n hb hx⟩
theorem Un.kept (k:∀ b u,h.get? b=some u→h'.get? b=some u):Un fs ex H H h h' :=
 ⟨fun b ob q _ _ _=>k b ob q,fun b ob q _ _ _=>⟨ob.slots,k b ob q⟩,fun _ _ _ n _=>n,fun b ob q _=>⟨ob,k b ob q⟩,fun _ _ q=>q,fun _ _ _ q=>q,fun _ ps q=>⟨#[],by rw [q];simp⟩⟩
theorem Un.refl:Un fs ex H H h h:=Un.kept fun _ _ q=>q
theorem Un.laid (k:∀ b u,h.get? b=some u→h'.get? b=some u) (hp:h.objs.size≤a) (hn:H a=none):Un fs ex H (upd H a o) h h' where
 keep:=fun b u q _ _ _=>k b u q
 slot:=fun b u q _ _ _=>⟨u.slots,k b u q⟩
 free:=fun b u q n _=>by rw [upd_ne (Nat.ne_of_lt (Nat.lt_of_lt_of_le (Heap.lt_size q) hp))];exact n
 there:=fun b u q _=>⟨u,k b u q⟩
 tups:=fun b xs q=>by rw [upd_ne (ne_of_none q hn)];exact q
 frzs:=fun b u xs q=>by rw [upd_ne (ne_of_none q hn)];exact q
 tbls:=fun b ps q=>⟨#[],by rw [upd_ne (ne_of_none q hn),q];simp⟩
theorem Un.write (mu:Mut (H x)) (he:e=x∨H e=some (.own x)) (k:∀ b u,b≠e→h.get? b=some u→h'.get? b=some u) (heo:∃ u,h'.get? e=some u):Un fs ex H (upd H x o) h h':=by
 have hx:∀ b,H b=none→b≠x:=fun b n z=>by subst z;rw [n] at mu;exact mu
 have hb:∀ b,H b=none→b≠e:=fun b n z=>by
  subst z
  rcases he with r|r
  ·exact hx b n r
  ·rw [n] at r;cases r
 have hm:∀ b u,H b=some u→¬ Mut (some u)→b≠x:=fun b u q nm z=>by subst z;rw [q] at mu;exact nm mu
 refine⟨fun b u q n _ _=>k b u (hb b n) q,fun b u q n _ _=>⟨u.slots,k b u (hb b n) q⟩,fun b u q n _=>by rw [upd_ne (hx b n)];exact n,fun b u q _=>?_,
  fun b xs q=>by rw [upd_ne (hm b _ q fun z=>z)];exact q,fun b u xs q=>by rw [upd_ne (hm b _ q fun z=>z)];exact q,fun b ps q=>⟨#[],by rw [upd_ne (hm b _ q fun z=>z),q];simp⟩⟩
 by_cases hbe:b=e
 ·subst hbe;exact heo
 ·exact⟨u,k b u hbe q⟩
end
noncomputable def trk (h:Heap) (H:Hp):List Addr:=(List.range h.objs.size).filter fun a=>(H a).isSome
noncomputable def hidT (h:Heap) (H:Hp):Heap:=PySem.W.hideAll h (trk h H)
theorem hidT_size (h:Heap) (H:Hp):(hidT h H).objs.size=h.objs.size:=PySem.W.hideAll_size _ _
theorem hidT_get {h:Heap} {H:Hp} {b:Addr} {o:Obj} (e:h.get? b=some o) (n:H b=none):(hidT h H).get? b=some o :=
 PySem.W.hideAll_get _ e fun hm=>by
  have q:(H b).isSome=true:=(List.mem_filter.mp hm).2
  rw [n] at q;simp at q
theorem of_hidT {h:Heap} {H:Hp} {b:Addr} {o:Obj} (e:(hidT h H).get? b=some o):h.get? b=some o∧H b=none:=by
 have e':h.get? b=some o:=PySem.W.of_hideAll (trk h H) e
 refine⟨e',?_⟩
 cases q:H b with
 | none=>rfl
 | some x =>
  have hm:b∈trk h H:=List.mem_filter.mpr ⟨List.mem_range.mpr (Heap.lt_size e'),by simp [q]⟩
  have z:(hidT h H).get? b=none:=PySem.W.hideAll_none (trk h H) hm
  rw [z] at e;cases e
noncomputable def allNews (g h:Heap) (L:Addr):List (Addr×Obj):=(List.range h.objs.size).filterMap fun a=>if a=L∨(g.get? a).isSome=true then none else (h.get? a).map fun o=>(a,o)
noncomputable def rest (g h:Heap) (L d:Addr):List (Addr×Obj):=(allNews g h L).filter fun p=>decide (p.1≠d)
end L2
namespace L2
open PySem PySem.Spec PyProof.Rows
structure Mod (K:PySem.W.Frag) (mg:Str→Option Value) (base:Heap):Prop where
 kin:K.In base
 glob:base.Ns mainGlobals mg
 blt:∃ mb,base.Ns builtinsNs mb∧∀ x:Str,x≠"__name__"→mb x=bootBuiltins x
 nolimit:base.NoLimit
structure Cx where
 prog:Program
 w:World
 K:PySem.W.Frag
 mg:Str→Option Value
 base:Heap
 A:Around
 N:List Str
 s₀:Shared
 H₀:Hp
 env:Env
 outer:List Env
 stack:List Env
 ex:List Addr
 fn:Str→Bool
 calm:Bool
 pn:List (Addr×Obj)
 xe:Value→Shared→Prop
noncomputable def frs (l:List Env):List Addr:=l.filterMap (·.frame)
noncomputable abbrev Cx.fs (X:Cx):List Addr:=frs X.outer
noncomputable def Vis (sc:Scope) (x:Str):Prop:=sc.names.lookup x=some .local∨sc.names.lookup x=some .cell∨sc.names.lookup x=some .free
noncomputable def Loc (sc:Scope) (x:Str):Prop:=sc.names.lookup x=some .local∨sc.names.lookup x=some .cell
noncomputable def Look (env:Env) (h:Heap) (m:Str→Option Value) (x:Str) (u:Value):Prop :=
 (env.kindOf x=some .local∧m x=some u)∨((env.kindOf x=some .cell∨env.kindOf x=some .free)∧∃ c,env.cells.lookup x=some c∧h.IsCell c (some u))
structure Cx.Ok (X:Cx):Prop where
 mod:Mod X.K X.mg X.base
 kind:X.env.scope.kind=.function
 glob:X.env.globals=mainGlobals
 blt:X.env.builtins=builtinsNs
 above:X.s₀.heap.objs.size≤X.env.locals
 inj:∀ x y c,X.env.cells.lookup x=some c→X.env.cells.lookup y=some c→x=y
 has:∀ x,(X.env.kindOf x=some .cell∨X.env.kindOf x=some .free)→∃ c,X.env.cells.lookup x=some c
 cab:∀ x c,X.fn x=true→X.env.cells.lookup x=some c→X.s₀.heap.objs.size≤c
 hd:X.calm=true→X.A.handled=none
 frames:X.A.frames=some X.stack
 stk:X.stack=X.outer∨(X.stack=X.env::X.outer∧X.env.frame=some X.env.locals)
 exf:∀ b∈X.ex,b≠X.env.locals∧∀ x c,X.env.cells.lookup x=some c→c≠b
 bs:∀ b o,X.base.get? b=some o→X.s₀.heap.get? b=some o∧X.H₀ b=none
 bsz:X.base.objs.size≤X.s₀.heap.objs.size
 noex:∀ b o,X.base.get? b=some o→b∉X.ex
 exfs:∀ b∈X.ex,b∉X.fs
 funs:X.s₀.heap.FunFrames X.base X.outer
 frf:∀ b∈X.fs,X.H₀ b=none
structure Inv (X:Cx) (pins:List (Addr×Obj)) (σ:List (Option V)) (H:Hp) (s:Shared):Prop where
 ok:X.Ok
 os:s.os=X.s₀.os
 bare:AllBare s.gens
 base:Un X.fs X.ex X.H₀ H X.s₀.heap s.heap
 loc:∃ m,s.heap.Ns X.env.locals m∧∀ (i:Nat) (x:Str) (v:V),X.N[i]?=some x→σ[i]?=some (some v)→Vis X.env.scope x→∃ u,RelV v u∧Look X.env s.heap m x u
 cell:∀ x c,X.env.cells.lookup x=some c→∃ v,s.heap.IsCell c v
 free:H X.env.locals=none
 freeC:∀ x c,X.env.cells.lookup x=some c→H c=none
 pin:∀ p∈X.pn++pins,s.heap.get? p.1=some p.2∧H p.1=none∧p.1≠X.env.locals∧p.1∉X.fs∧∀ v,p.2.data≠.cell v
 hok:HOk X.prog X.w H s.heap
 len:σ.length=X.N.length
section
variable {X:Cx} {pins:List (Addr×Obj)} {σ:List (Option V)} {H H':Hp} {s:Shared} {h':Heap}
theorem Cx.Ok.nofr (ok:X.Ok) {b:Addr} {o:Obj} (e:X.base.get? b=some o):b∉X.fs:=fun hb=>by
 have:=(ok.funs.mem hb).1
 rw [e] at this;cases this
theorem Inv.bs (I:Inv X pins σ H s):∀ b o,X.base.get? b=some o→s.heap.get? b=some o∧H b=none:=fun b o e =>
 ⟨I.base.keep b o (I.ok.bs b o e).1 (I.ok.bs b o e).2 (I.ok.nofr e) (I.ok.noex b o e),I.base.free b o (I.ok.bs b o e).1 (I.ok.bs b o e).2 (I.ok.noex b o e)⟩
theorem Inv.bk (I:Inv X pins σ H s):∀ b o,X.base.get? b=some o→s.heap.get? b=some o:=fun b o e=>(I.bs b o e).1
theorem Inv.mod (I:Inv X pins σ H s):Mod X.K X.mg X.base:=I.ok.mod
theorem Inv.kIn (I:Inv X pins σ H s):X.K.In s.heap:=I.ok.mod.kin.keeps I.bk
theorem Inv.nolimit (I:Inv X pins σ H s):s.heap.NoLimit:=I.ok.mod.nolimit.keeps I.bk
theorem Inv.lt (I:Inv X pins σ H s):X.env.locals<s.heap.objs.size:=let ⟨_,hn,_⟩:=I.loc;hn.lt
theorem Inv.sz (I:Inv X pins σ H s):X.s₀.heap.objs.size≤s.heap.objs.size:=Nat.le_trans I.ok.above (Nat.le_of_lt I.lt)
theorem Inv.nofs (I:Inv X pins σ H s) {a:Addr} (h:s.heap.objs.size≤a):a∉X.fs:=fun hb=>by
 obtain ⟨_,o,ho,_⟩:=I.ok.funs.mem hb
 exact absurd (Nat.lt_of_lt_of_le (Heap.lt_size ho) (Nat.le_trans I.sz h)) (Nat.lt_irrefl _)
theorem Inv.cne (I:Inv X pins σ H s):∀ x c,X.env.cells.lookup x=some c→c≠X.env.locals:=fun x c e z=>by
 obtain ⟨v,o,ho,hd⟩:=I.cell x c e
 obtain ⟨m,⟨o',es,ep,ho',hd',_⟩,_⟩:=I.loc
 rw [z,ho'] at ho;cases ho;rw [hd'] at hd;cases hd
theorem Inv.funs (I:Inv X pins σ H s):s.heap.FunFrames X.base X.outer:=by
 have all:∀ (l:List Env),(∀ b∈frs l,b∈X.fs)→X.s₀.heap.FunFrames X.base l→s.heap.FunFrames X.base l:=by
  intro l
  induction l with
  | nil=>intro _ _;trivial
  | cons env r ih =>
   intro hs hl
   obtain ⟨hk,⟨L,o,hf,hn,ho,hd⟩,hr⟩:=hl
   have hL:L∈X.fs:=hs L (by unfold frs;rw [List.filterMap_cons,hf];exact List.mem_cons_self)
   obtain ⟨sl,e⟩:=I.base.slot L o ho (I.ok.frf L hL) hL fun z=>I.ok.exfs L z hL
   exact⟨hk,⟨L,_,hf,hn,e,hd⟩,ih (fun b hb=>hs b (by unfold frs;rw [List.filterMap_cons,hf];exact List.mem_cons_of_mem _ hb)) hr⟩
 exact all X.outer (fun _ hb=>hb) I.ok.funs
theorem Inv.stack (I:Inv X pins σ H s):s.heap.FunFrames X.base X.stack:=by
 rcases I.ok.stk with e|⟨e,hf⟩
 ·rw [e];exact I.funs
 ·rw [e]
  obtain ⟨m,hn,_⟩:=I.loc
  refine .cons (by rw [I.ok.kind];decide) hf hn ?_ I.funs
  exact Heap.get?_none_of_le (Nat.le_trans I.ok.bsz I.ok.above)
theorem Inv.stkSub (I:Inv X pins σ H s):∀ b∈frs X.stack,b∈X.env.locals::X.fs:=fun b hb=>by
 rcases I.ok.stk with e|⟨e,hf⟩
 ·rw [e] at hb;exact List.mem_cons_of_mem _ hb
 ·rw [e] at hb
  unfold frs at hb
  rw [List.filterMap_cons,hf] at hb
  exact hb
theorem Inv.stkFree (I:Inv X pins σ H s):∀ b∈frs X.stack,H b=none:=fun b hb=>by
 rcases List.mem_cons.mp (I.stkSub b hb) with e|hb
 ·rw [e];exact I.free
 ·obtain ⟨_,o,ho,_⟩:=I.ok.funs.mem hb
  exact I.base.free b o ho (I.ok.frf b hb) fun z=>I.ok.exfs b z hb
theorem Inv.step {g':Array GenState} {t':Nat} {d':Drawn} {ch:List Addr} (I:Inv X pins σ H s)
  (hch:∀ b∈ch,(b∈X.ex∨X.s₀.heap.objs.size≤b)∧b≠X.env.locals∧(∀ x c,X.env.cells.lookup x=some c→c≠b)∧∀ p∈X.pn++pins,p.1≠b)
  (keep:∀ b o,b≠X.env.locals→b∉X.fs→b∉ch→s.heap.get? b=some o→H b=none→h'.get? b=some o)
  (slot:∀ b o,b≠X.env.locals→b∈X.fs→b∉ch→s.heap.get? b=some o→H b=none→∃ sl,h'.get? b=some { o with slots:=sl }) (free:∀ b o,b∉ch→s.heap.get? b=some o→H b=none→H' b=none)
  (there:∀ b o,b∉ch→s.heap.get? b=some o→∃ o',h'.get? b=some o')
  (tups:∀ b xs,H b=some (.tup xs)→H' b=some (.tup xs)) (frzs:∀ b o u,H b=some (.frz o u)→H' b=some (.frz o u)) (tbls:∀ b ps,H b=some (.tbl ps)→∃ more,H' b=some (.tbl (ps++more)))
  (ns:∀ m,s.heap.Ns X.env.locals m→h'.Ns X.env.locals m) (hok:HOk X.prog X.w H' h') (hg:AllBare g') :
  Inv X pins σ H' { s with heap:=h',gens:=g',drawn:=d',toks:=t' }:=by
 have neL:∀ b o,X.s₀.heap.get? b=some o→b≠X.env.locals:=fun b o e=>Nat.ne_of_lt (Nat.lt_of_lt_of_le (Heap.lt_size e) I.ok.above)
 have neC:∀ b o,X.s₀.heap.get? b=some o→b∉X.ex→b∉ch:=fun b o e hx hb=>by
  rcases (hch b hb).1 with z|z
  ·exact hx z
  ·exact absurd (Nat.lt_of_lt_of_le (Heap.lt_size e) z) (Nat.lt_irrefl _)
 have cellK:∀ x c,X.env.cells.lookup x=some c→∀ v,s.heap.IsCell c v→h'.IsCell c v:=fun x c e v ⟨o,ho,hd⟩=>by
  have nch:c∉ch:=fun z=>(hch c z).2.2.1 x c e rfl
  by_cases hc:c∈X.fs
  ·obtain ⟨sl,q⟩:=slot c o (I.cne x c e) hc nch ho (I.freeC x c e)
   exact⟨_,q,hd⟩
  ·exact⟨o,keep c o (I.cne x c e) hc nch ho (I.freeC x c e),hd⟩
 refine⟨I.ok,I.os,hg,⟨fun b o e n hb hx=>?_,fun b o e n hb hx=>?_,fun b o e n hx=>?_,fun b o e hx=>?_,fun b xs e=>tups b xs (I.base.tups b xs e),fun b o xs e=>frzs b o xs (I.base.frzs b o xs e),fun b ps e=>?_⟩,?_,fun x c e=>?_,?_,fun x c e=>?_,fun p hp=>?_,hok,I.len⟩
 ·exact keep b o (neL b o e) hb (neC b o e hx) (I.base.keep b o e n hb hx) (I.base.free b o e n hx)
 ·obtain ⟨sl,e1⟩:=I.base.slot b o e n hb hx
  obtain ⟨sl',e2⟩:=slot b _ (neL b o e) hb (neC b o e hx) e1 (I.base.free b o e n hx)
  exact⟨sl',e2⟩
 ·obtain ⟨o',e1⟩:=I.base.there b o e hx
  exact free b o' (neC b o e hx) e1 (I.base.free b o e n hx)
 ·obtain ⟨o',e1⟩:=I.base.there b o e hx
  exact there b o' (neC b o e hx) e1
 ·obtain ⟨m1,e1⟩:=I.base.tbls b ps e
  obtain ⟨m2,e2⟩:=tbls b _ e1
  exact⟨m1++m2,by rw [e2,Array.append_assoc]⟩
 ·obtain ⟨m,hn,hl⟩:=I.loc
  refine⟨m,ns m hn,fun i x v e1 e2 e3=>?_⟩
  obtain ⟨u,r,l⟩:=hl i x v e1 e2 e3
  refine⟨u,r,?_⟩
  rcases l with l|⟨k,c,e,z⟩
  ·exact .inl l
  ·exact .inr ⟨k,c,e,cellK x c e _ z⟩
 ·obtain ⟨v,z⟩:=I.cell x c e
  exact⟨v,cellK x c e v z⟩
 ·obtain ⟨m,⟨o,_,_,ho,_⟩,_⟩:=I.loc
  exact free _ o (fun z=>(hch _ z).2.1 rfl) ho I.free
 ·obtain ⟨v,o,ho,hd⟩:=I.cell x c e
  exact free c o (fun z=>(hch c z).2.2.1 x c e rfl) ho (I.freeC x c e)
 ·obtain ⟨e,n,ne,nf,d⟩:=I.pin p hp
  have nch:p.1∉ch:=fun z=>(hch p.1 z).2.2.2 p hp rfl
  exact⟨keep p.1 p.2 ne nf nch e n,free p.1 p.2 nch e n,ne,nf,d⟩
theorem Inv.un {t':Nat} (I:Inv X pins σ H s) (u:Un X.fs [] H H' s.heap h') (hok:HOk X.prog X.w H' h'):Inv X pins σ H' { s with heap:=h',toks:=t' }:=by
 obtain ⟨m,⟨o,es,ep,ho,r⟩,_⟩:=id I.loc
 obtain ⟨sl,hL⟩:=u.any ho I.free (by simp)
 exact I.step (g':=s.gens) (d':=s.drawn) (ch:=[]) (fun _ z=>nomatch z) (fun b o _ hb _ e n=>u.keep b o e n hb (by simp)) (fun b o _ hb _ e n=>u.slot b o e n hb (by simp)) (fun b o _ e n=>u.free b o e n (by simp)) (fun b o _ e=>u.there b o e (by simp)) u.tups u.frzs u.tbls (fun m' hm=>by
  obtain ⟨o',es',ep',ho',r'⟩:=hm
  rw [ho] at ho';cases ho'
  exact⟨_,es',ep',hL,r'⟩) hok I.bare
theorem Inv.call {g':Array GenState} {t':Nat} {d':Drawn} {ch:List Addr} (I:Inv X pins σ H s) (u:Un (frs X.stack) ch H H' s.heap h') (hok:HOk X.prog X.w H' h') (hg:AllBare g')
  (hch:∀ b∈ch,(b∈X.ex∨X.s₀.heap.objs.size≤b)∧b≠X.env.locals∧(∀ x c,X.env.cells.lookup x=some c→c≠b)∧∀ p∈X.pn++pins,p.1≠b) :
  Inv X pins σ H' { s with heap:=h',gens:=g',drawn:=d',toks:=t' }:=by
 obtain ⟨m,⟨o,es,ep,ho,r⟩,_⟩:=id I.loc
 obtain ⟨sl,hL⟩:=u.any ho I.free fun z=>(hch _ z).2.1 rfl
 exact I.step (ch:=ch) hch (fun b o hL hb hc e n=>u.keep b o e n (fun z=>(List.mem_cons.mp (I.stkSub b z)).elim hL hb) hc) (fun b o _ _ hc e n=>u.any e n hc) (fun b o hc e n=>u.free b o e n hc) (fun b o hc e=>u.there b o e hc) u.tups u.frzs u.tbls (fun m' hm=>by
  obtain ⟨o',es',ep',ho',r'⟩:=hm
  rw [ho] at ho';cases ho'
  exact⟨_,es',ep',hL,r'⟩) hok hg
theorem Inv.turned {t':Nat} {it:Addr} (I:Inv X pins σ H s) (k:∀ b o,b≠it→s.heap.get? b=some o→h'.get? b=some o) (hn:H it=none) (hL:it≠X.env.locals)
  (h1:it∈X.ex∨X.s₀.heap.objs.size≤it) (h2:∀ x c,X.env.cells.lookup x=some c→c≠it) (h3:∀ p∈X.pn++pins,p.1≠it):Inv X pins σ H { s with heap:=h',toks:=t' }:=by
 have nit:∀ b u,H b=some u→b≠it:=fun b u e z=>by rw [z,hn] at e;cases e
 refine I.step (g':=s.gens) (d':=s.drawn) (ch:=[it]) (fun b hb=>?_) (fun b o _ _ hc e _=>k b o (fun z=>hc (by simp [z])) e) (fun b o _ _ hc e _=>⟨o.slots,k b o (fun z=>hc (by simp [z])) e⟩) (fun _ _ _ _ n=>n)
  (fun b o hc e=>⟨o,k b o (fun z=>hc (by simp [z])) e⟩) (fun _ _ e=>e) (fun _ _ _ e=>e) (fun b ps e=>⟨#[],by rw [e];simp⟩) (fun m hm=>?_) (fun b u e=>?_) I.bare
 ·have e:b=it:=by simpa using hb
  subst e
  exact⟨h1,hL,h2,h3⟩
 ·obtain ⟨o,es,ep,ho,r⟩:=hm
  exact⟨o,es,ep,k _ o (Ne.symm hL) ho,r⟩
 ·refine (I.hok b u e).stay (fun c v hc q=>k c v ?_ q) (fun _ q=>q) fun _ _ q=>q
  rcases hc with z|z
  ·rw [z];exact nit b u e
  ·exact nit c _ z
theorem Inv.tok (I:Inv X pins σ H s) (t:Nat):Inv X pins σ H { s with toks:=t }:=I.un (h':=s.heap) (t':=t) Un.refl I.hok
theorem Inv.kept {t':Nat} (I:Inv X pins σ H s) (k:∀ b u,s.heap.get? b=some u→h'.get? b=some u):Inv X pins σ H { s with heap:=h',toks:=t' }:=I.un (Un.kept k) (I.hok.kept k)
theorem Inv.laid {a:Addr} {o:HO} {t':Nat} (I:Inv X pins σ H s) (k:∀ b u,s.heap.get? b=some u→h'.get? b=some u) (hp:s.heap.objs.size≤a) (new:ObjOk X.prog X.w (upd H a o) h' a o) :
  Inv X pins σ (upd H a o) { s with heap:=h',toks:=t' }:=I.un (Un.laid k hp (I.hok.fresh hp)) (I.hok.laid k hp new)
theorem Inv.write {x e:Addr} {o:HO} {t':Nat} (I:Inv X pins σ H s) (mu:Mut (H x)) (he:e=x∨H e=some (.own x)) (k:∀ b u,b≠e→s.heap.get? b=some u→h'.get? b=some u) (heo:∃ u,h'.get? e=some u)
  (new:ObjOk X.prog X.w (upd H x o) h' x o):Inv X pins σ (upd H x o) { s with heap:=h',toks:=t' }:=I.un (Un.write mu he k heo) (I.hok.write mu he k heo new)
theorem Inv.pins_of {pins':List (Addr×Obj)} (I:Inv X pins σ H s) (h:∀ p∈pins',s.heap.get? p.1=some p.2∧H p.1=none∧p.1≠X.env.locals∧p.1∉X.fs∧∀ v,p.2.data≠.cell v):Inv X pins' σ H s :=
 ⟨I.ok,I.os,I.bare,I.base,I.loc,I.cell,I.free,I.freeC,fun p hp=>(List.mem_append.mp hp).elim (fun z=>I.pin p (List.mem_append_left _ z)) (h p),I.hok,I.len⟩
theorem nodup_ix {N:List Str} (hN:N.Nodup) {i j:Nat} {x:Str} (a:N[i]?=some x) (b:N[j]?=some x):i=j:=by
 obtain ⟨h1,e1⟩:=List.getElem?_eq_some_iff.mp a
 obtain ⟨h2,e2⟩:=List.getElem?_eq_some_iff.mp b
 exact (List.getElem_inj hN).mp (e1.trans e2.symm)
theorem store_ok2 {M:Model} {A:Around} {E:Value→Shared→Prop} {i:Nat} {x:Str} {v:V} {u:Value} {Q:Unit→Shared→Prop} (I:Inv X pins σ H s) (hN:X.N.Nodup) (hi:X.N[i]?=some x) (hx:Loc X.env.scope x) (r:RelV v u)
  (h:∀ s',Inv X pins (σ.set i (some v)) H s'→(∃ a,Heap.SameBut a s.heap s'.heap∧(a=X.env.locals∨X.env.cells.lookup x=some a))→Q () s') (hf:X.fn x=true∨X.env.scope.names.lookup x=some .local:=by first|exact .inl rfl|exact .inr rfl|assumption):wpAny M A (storeName X.env x u) Q E s:=by
 obtain ⟨m,hn,hl⟩:=id I.loc
 have hcls:(X.env.scope.kind == .class || (X.env.scope.kind == .module && X.env.locals != X.env.globals))=false:=by rw [I.ok.kind];rfl
 have hiσ:i<σ.length:=by rw [I.len];exact (List.getElem?_eq_some_iff.mp hi).1
 have cne:=I.cne
 have tracked:∀ {a:Addr} {h':Heap},(∃ o,s.heap.get? a=some o∧H a=none)→Heap.SameBut a s.heap h'→HOk X.prog X.w H h':=fun {a h'} ha hs b ob e=>by
  obtain ⟨_,_,hfree⟩:=ha
  refine (I.hok b ob e).stay (fun c w' hc q=>(hs.2 c ?_).trans q) (fun _ q=>q) fun _ _ q=>q
  rintro rfl
  rcases hc with rfl|hc
  ·rw [hfree] at e;cases e
  ·rw [hfree] at hc;cases hc
 rcases hx with hk|hk
 ·refine wpAny_storeName_local hk hn (fun h' hn' hs=>?_) hcls
  obtain ⟨oL,_,_,hoL,_⟩:=id hn
  refine h _ ⟨I.ok,I.os,I.bare,⟨fun b o e n hb hx=>?_,fun b o e n hb hx=>?_,I.base.free,fun b o e hx=>?_,I.base.tups,I.base.frzs,I.base.tbls⟩,⟨_,hn',fun j y v' e1 e2 e3=>?_⟩,fun y c e=>?_,I.free,I.freeC,fun p hp=>?_,tracked ⟨oL,hoL,I.free⟩ hs,by simpa using I.len⟩ ⟨_,hs,.inl rfl⟩
  ·exact (hs.2 b (Nat.ne_of_lt (Nat.lt_of_lt_of_le (Heap.lt_size e) I.ok.above))).trans (I.base.keep b o e n hb hx)
  ·obtain ⟨sl,e1⟩:=I.base.slot b o e n hb hx
   exact⟨sl,(hs.2 b (Nat.ne_of_lt (Nat.lt_of_lt_of_le (Heap.lt_size e) I.ok.above))).trans e1⟩
  ·obtain ⟨o',e1⟩:=I.base.there b o e hx
   exact⟨o',(hs.2 b (Nat.ne_of_lt (Nat.lt_of_lt_of_le (Heap.lt_size e) I.ok.above))).trans e1⟩
  ·by_cases hj:j=i
   ·subst hj
    rw [hi] at e1;cases e1
    rw [List.getElem?_set_self hiσ] at e2
    cases e2
    exact⟨u,r,.inl ⟨hk,by simp⟩⟩
   ·rw [List.getElem?_set_ne (Ne.symm hj)] at e2
    obtain ⟨u',r',q⟩:=hl j y v' e1 e2 e3
    refine⟨u',r',?_⟩
    rcases q with ⟨k,e⟩|⟨k,c,e,z⟩
    ·refine .inl ⟨k,?_⟩
     have:y≠x:=fun e=>hj (nodup_ix hN e1 (e ▸ hi))
     simp [this,e]
    ·exact .inr ⟨k,c,e,z.sameBut hs (cne y c e)⟩
  ·obtain ⟨w',z⟩:=I.cell y c e
   exact⟨w',z.sameBut hs (cne y c e)⟩
  ·obtain ⟨e,n,ne,nf,d⟩:=I.pin p hp
   exact⟨(hs.2 p.1 ne).trans e,n,ne,nf,d⟩
 ·have hfn:X.fn x=true:=by
   rcases hf with z|z
   ·exact z
   ·rw [z] at hk;cases hk
  obtain ⟨c,hc⟩:=I.ok.has x (.inl hk)
  obtain ⟨w',z⟩:=I.cell x c hc
  refine wpAny_storeName_cell I.ok.kind hk hc z (fun h' hc' hs=>?_)
  obtain ⟨oc,hoc,hocd⟩:=id z
  refine h { s with heap:=h' } ⟨I.ok,I.os,I.bare,⟨fun b o e n hb hx=>?_,fun b o e n hb hx=>?_,I.base.free,fun b o e hx=>?_,I.base.tups,I.base.frzs,I.base.tbls⟩,⟨m,hn.sameBut hs (Ne.symm (cne x c hc)),fun j y v' e1 e2 e3=>?_⟩,fun y c' e=>?_,I.free,I.freeC,fun p hp=>?_,tracked ⟨oc,hoc,I.freeC x c hc⟩ hs,by simpa using I.len⟩ ⟨c,hs,.inr hc⟩
  ·exact (hs.2 b (Nat.ne_of_lt (Nat.lt_of_lt_of_le (Heap.lt_size e) (I.ok.cab x c hfn hc)))).trans (I.base.keep b o e n hb hx)
  ·obtain ⟨sl,e1⟩:=I.base.slot b o e n hb hx
   exact⟨sl,(hs.2 b (Nat.ne_of_lt (Nat.lt_of_lt_of_le (Heap.lt_size e) (I.ok.cab x c hfn hc)))).trans e1⟩
  ·obtain ⟨o',e1⟩:=I.base.there b o e hx
   exact⟨o',(hs.2 b (Nat.ne_of_lt (Nat.lt_of_lt_of_le (Heap.lt_size e) (I.ok.cab x c hfn hc)))).trans e1⟩
  ·by_cases hj:j=i
   ·subst hj
    rw [hi] at e1;cases e1
    rw [List.getElem?_set_self hiσ] at e2
    cases e2
    exact⟨u,r,.inr ⟨.inl hk,c,hc,hc'⟩⟩
   ·rw [List.getElem?_set_ne (Ne.symm hj)] at e2
    obtain ⟨u',r',q⟩:=hl j y v' e1 e2 e3
    refine⟨u',r',?_⟩
    rcases q with q|⟨k,c',e,z'⟩
    ·exact .inl q
    ·refine .inr ⟨k,c',e,z'.sameBut hs ?_⟩
     rintro rfl
     exact hj (nodup_ix hN e1 (I.ok.inj _ _ _ e hc ▸ hi))
  ·by_cases hcc:c'=c
   ·subst hcc;exact⟨_,hc'⟩
   ·obtain ⟨w2,z2⟩:=I.cell y c' e
    exact⟨w2,z2.sameBut hs hcc⟩
  ·obtain ⟨e,n,ne,nf,d⟩:=I.pin p hp
   refine⟨(hs.2 p.1 ?_).trans e,n,ne,nf,d⟩
   intro q
   rw [q,hoc] at e
   have q':oc=p.2:=Option.some.inj e
   exact d w' (by rw [← q'];exact hocd)
theorem store_ok {M:Model} {A:Around} {E:Value→Shared→Prop} {i:Nat} {x:Str} {v:V} {u:Value} {Q:Unit→Shared→Prop} (I:Inv X pins σ H s) (hN:X.N.Nodup) (hi:X.N[i]?=some x) (hx:Loc X.env.scope x) (r:RelV v u)
  (h:∀ s',Inv X pins (σ.set i (some v)) H s'→Q () s') (hf:X.fn x=true∨X.env.scope.names.lookup x=some .local:=by first|exact .inl rfl|exact .inr rfl|assumption):wpAny M A (storeName X.env x u) Q E s :=
 store_ok2 I hN hi hx r (fun s' I' _=>h s' I') hf
theorem Inv.call' {s':Shared} {ch:List Addr} (I:Inv X pins σ H s) (ho:s'.os=s.os) (u:Un (frs X.stack) ch H H' s.heap s'.heap) (hok:HOk X.prog X.w H' s'.heap) (hg:AllBare s'.gens)
  (hch:∀ b∈ch,(b∈X.ex∨X.s₀.heap.objs.size≤b)∧b≠X.env.locals∧(∀ x c,X.env.cells.lookup x=some c→c≠b)∧∀ p∈X.pn++pins,p.1≠b):Inv X pins σ H' s':=by
 obtain ⟨h',g',d',t',o'⟩:=s'
 have e:o'=s.os:=ho
 subst e
 exact I.call (g':=g') (t':=t') (d':=d') u hok hg hch
end
noncomputable abbrev XK:=Value→Option Addr→Hp→Prop
noncomputable abbrev St:=List (Option V)
noncomputable abbrev VK:=V→Hp→Prop
noncomputable abbrev TE:=St→Hp→VK→Prop
noncomputable abbrev TT:=St→Hp→(Bool→Hp→Prop)→Prop
noncomputable abbrev TA:=St→Hp→(List V→Hp→Prop)→Prop
structure Ends where
 nx:St→Hp→Prop
 rt:VK
 bk:St→Hp→Prop:=fun _ _=>False
 ct:St→Hp→Prop:=fun _ _=>False
noncomputable abbrev TS:=Ends→St→Hp→Prop
noncomputable def EP (X:Cx) (pins:List (Addr×Obj)) (σ:St) (Q:VK) (u:Value) (s':Shared):Prop:=∃ v H',Inv X pins σ H' s'∧RelV v u∧Q v H'
noncomputable def TP (X:Cx) (pins:List (Addr×Obj)) (σ:St) (Q:Bool→Hp→Prop) (b:Bool) (s':Shared):Prop:=∃ H',Inv X pins σ H' s'∧Q b H'
noncomputable def AP (X:Cx) (pins:List (Addr×Obj)) (σ:St) (Q:List V→Hp→Prop) (us:List Value) (s':Shared):Prop:=∃ vs H',Inv X pins σ H' s'∧Vals vs us∧Q vs H'
noncomputable def SP (X:Cx) (pins:List (Addr×Obj)) (D:Ends) (f:Flow) (s':Shared):Prop :=
 match f with
 | .next=>∃ σ' H',Inv X pins σ' H' s'∧D.nx σ' H'
 | .brk=>∃ σ' H',Inv X pins σ' H' s'∧D.bk σ' H'
 | .cont=>∃ σ' H',Inv X pins σ' H' s'∧D.ct σ' H'
 | .ret u=>∃ v σ' H',Inv X pins σ' H' s'∧RelV v u∧D.rt v H'
noncomputable def PE (X:Cx) (e:Expr) (t:TE):Prop :=
 ∀ (pins:List (Addr×Obj)) (s:Shared) (σ:St) (H:Hp) (Q:VK),Inv X pins σ H s→t σ H Q→wpAny (model X.prog X.w) X.A (eval e X.env) (EP X pins σ Q) X.xe s
noncomputable def PT (X:Cx) (e:Expr) (t:TT):Prop :=
 ∀ (pins:List (Addr×Obj)) (s:Shared) (σ:St) (H:Hp) (Q:Bool→Hp→Prop),Inv X pins σ H s→t σ H Q→wpAny (model X.prog X.w) X.A (isTrue e X.env (eval e X.env)) (TP X pins σ Q) X.xe s
noncomputable def PW (X:Cx) (e:Expr) (t:TT):Prop :=
 ∀ (whole:Sem Value) (pins:List (Addr×Obj)) (s:Shared) (σ:St) (H:Hp) (Q:Bool→Hp→Prop),Inv X pins σ H s→t σ H Q→wpAny (model X.prog X.w) X.A (isTrue e X.env whole) (TP X pins σ Q) X.xe s
theorem PW.pt {X:Cx} {e:Expr} {t:TT} (h:PW X e t):PT X e t:=h _
noncomputable def PA (X:Cx) (es:List Expr) (t:TA):Prop :=
 ∀ (pos:Pos) (pins:List (Addr×Obj)) (s:Shared) (σ:St) (H:Hp) (Q:List V→Hp→Prop),Inv X pins σ H s→t σ H Q→wpAny (model X.prog X.w) X.A (spliced (backTo pos (starEach es X.env))) (AP X pins σ Q) X.xe s
noncomputable def PS (X:Cx) (st:Stmt) (t:TS):Prop :=
 ∀ (pins:List (Addr×Obj)) (s:Shared) (σ:St) (H:Hp) (D:Ends),Inv X pins σ H s→t D σ H→wpAny (model X.prog X.w) X.A (exec st X.env) (SP X pins D) X.xe s
noncomputable def PSs (X:Cx) (st:List Stmt) (t:TS):Prop :=
 ∀ (pins:List (Addr×Obj)) (s:Shared) (σ:St) (H:Hp) (D:Ends),Inv X pins σ H s→t D σ H→wpAny (model X.prog X.w) X.A (execs st X.env) (SP X pins D) X.xe s
theorem thn {α:Type} {t:Sem α} {Q Q':α→Shared→Prop} {M:Model} {A:Around} {E:Value→Shared→Prop} {s:Shared} (h:wpAny M A t Q E s) (hQ:∀ a s,Q a s→Q' a s):wpAny M A t Q' E s:=wpAny_mono h hQ fun _ _ x=>x
end L2
namespace L2
open PySem PySem.Spec PyProof.Rows
section
variable {X:Cx}
theorem bin {a b:Expr} {ta tb:TE} (ha:PE X a ta) (hb:PE X b tb) {pins:List (Addr×Obj)} {s:Shared} {σ:St} {H:Hp} {R:V→V→Hp→Prop} (I:Inv X pins σ H s) (h:ta σ H fun x H1=>tb σ H1 fun y H2=>R x y H2)
  {α:Type} {Q:α→Shared→Prop} {f:Value→Value→Sem α}
  (hf:∀ v u s2 x y H2,Inv X pins σ H2 s2→RelV x v→RelV y u→R x y H2→wpAny (model X.prog X.w) X.A (f v u) Q X.xe s2) :
  wpAny (model X.prog X.w) X.A (eval a X.env) (fun v s₁=>wpAny (model X.prog X.w) X.A (eval b X.env) (fun u s₂=>wpAny (model X.prog X.w) X.A (f v u) Q X.xe s₂) X.xe s₁) X.xe s:=by
 refine thn (ha pins s σ H _ I h) fun v s1 ⟨x,H1,I1,r1,q1⟩=>?_
 refine thn (hb pins s1 σ H1 _ I1 q1) fun u s2 ⟨y,H2,I2,r2,q2⟩=>?_
 exact hf v u s2 x y H2 I2 r1 r2 q2
noncomputable def tVar (i:Nat):TE:=fun σ H Q=>∃ v,σ[i]?=some (some v)∧Q v H
noncomputable def tC (v:V):TE:=fun _ H Q=>Q v H
theorem pe_var {i:Nat} {x:Str} {pos:Pos} (hN:X.N[i]?=some x) (hv:Vis X.env.scope x) (hd:(x == ("__debug__":Str))=false:=by decide) (hcd:(x == ("__classdict__":Str))=false:=by decide):PE X (.Name x pos) (tVar i):=by
 intro pins s σ H Q I h
 obtain ⟨v,e,h⟩:=h
 obtain ⟨m,hn,hl⟩:=I.loc
 obtain ⟨u,r,l⟩:=hl i x v hN e hv
 have fin:EP X pins σ Q u s:=⟨v,H,I,r,h⟩
 rcases l with ⟨hk,hm⟩|⟨hk,c,hc,hcell⟩
 ·exact wpAny_Name (wpAny_loadName_local I.ok.kind hk hn hm fin) hd
 ·rcases hk with hk|hk
  ·exact wpAny_Name (wpAny_loadName_cell I.ok.kind hk hc hcell fin) hd
  ·exact wpAny_Name (wpAny_loadName_free I.ok.kind hk hc hcell fin hcd) hd
theorem pe_int {i j pos}:PE X (.Constant (.int i) j pos) (tC (.int i)):=fun _ _ _ H _ I h=>wpAny_Constant_int ⟨.int i,H,I.tok _,⟨_,rfl⟩,h⟩
theorem pe_bl {b j pos}:PE X (.Constant (.bool b) j pos) (tC (.bl b)):=fun _ _ _ H _ I h=>Constant_bool ⟨.bl b,H,I,rfl,h⟩
theorem pe_non {j pos}:PE X (.Constant .none j pos) (tC .non):=fun _ _ _ H _ I h=>Constant_none ⟨.non,H,I,rfl,h⟩
theorem pe_str {x j pos}:PE X (.Constant (.str x) j pos) (tC (.str x)):=fun _ _ _ H _ I h=>Calls.Constant_str ⟨.str x,H,I.tok _,⟨_,rfl⟩,h⟩
noncomputable def Gl (X:Cx) (x:Str):Prop:=X.env.kindOf x=some .globalImplicit
theorem ld_glob {E:Value→Shared→Prop} {pins:List (Addr×Obj)} {s:Shared} {σ:St} {H:Hp} {x:Str} {u:Value} {pos:Pos} {Q:Value→Shared→Prop} (I:Inv X pins σ H s) (hg:Gl X x) (hm:X.mg x=some u) (h:Q u s)
  (hd:(x == ("__debug__":Str))=false:=by decide):wpAny (model X.prog X.w) X.A (eval (.Name x pos) X.env) Q E s :=
 Calls.Name_function_global I.ok.kind hg (Calls.loadGlobal_global (by rw [I.ok.glob];exact I.mod.glob.keeps I.bk) hm h) hd
theorem ld_blt {E:Value→Shared→Prop} {pins:List (Addr×Obj)} {s:Shared} {σ:St} {H:Hp} {x:Str} {u:Value} {pos:Pos} {Q:Value→Shared→Prop} (I:Inv X pins σ H s) (hg:Gl X x) (hm:X.mg x=none) (hv:bootBuiltins x=some u) (h:Q u s)
  (hn:x≠"__name__":=by decide) (hd:(x == ("__debug__":Str))=false:=by decide):wpAny (model X.prog X.w) X.A (eval (.Name x pos) X.env) Q E s:=by
 obtain ⟨mb,h1,h2⟩:=I.mod.blt
 exact Calls.Name_function_global I.ok.kind hg (Calls.loadGlobal_builtin (by rw [I.ok.glob];exact I.mod.glob.keeps I.bk) hm (by rw [I.ok.blt];exact h1.keeps I.bk) ((h2 x hn).trans hv) h) hd
theorem pe_glob {x:Str} {v:V} {u:Value} {pos:Pos} (hg:Gl X x) (hm:X.mg x=some u) (r:RelV v u) (hd:(x == ("__debug__":Str))=false:=by decide):PE X (.Name x pos) (tC v) :=
 fun _ _ _ H _ I h=>ld_glob I hg hm ⟨v,H,I,r,h⟩ hd
theorem pe_bltn {x:Str} {v:V} {u:Value} {pos:Pos} (hg:Gl X x) (hm:X.mg x=none) (hv:bootBuiltins x=some u) (r:RelV v u) (hn:x≠"__name__":=by decide) (hd:(x == ("__debug__":Str))=false:=by decide):PE X (.Name x pos) (tC v) :=
 fun _ _ _ H _ I h=>ld_blt I hg hm hv ⟨v,H,I,r,h⟩ hn hd
variable {a b:Expr} {ta tb:TE} {pos:Pos}
noncomputable def PC (X:Cx) (op:CmpOp) (a b:Expr) (t:TE):Prop :=
 ∀ (pins:List (Addr×Obj)) (s:Shared) (σ:St) (H:Hp) (Q:VK),Inv X pins σ H s→t σ H Q →
  wpAny (model X.prog X.w) X.A (eval a X.env) (fun v s₁=>wpAny (model X.prog X.w) X.A (eval b X.env) (fun u s₂=>wpAny (model X.prog X.w) X.A (compareOp op v u) (EP X pins σ Q) X.xe s₂) X.xe s₁) X.xe s
noncomputable def tB (t:TE):TT:=fun σ H Q=>t σ H fun x H1=>∃ c,x=.bl c∧Q c H1
theorem pt_cmp {op:CmpOp} {t:TE} (h:PC X op a b t) (h1:behindInMarks op b=false:=by first|exact nobehind _ (by decide) (by decide)|rfl):PT X (.Compare a [op] [b] pos) (tB t):=by
 intro pins s σ H Q I hw
 refine wpAny_isTrue_Compare1 (thn (h pins s σ H _ I hw) fun v s1 h1=>thn h1 fun u s2 h2=>thn h2 fun c s3 ⟨x,H1,I1,r1,q1⟩=>?_) h1
 obtain ⟨d,rfl,q⟩:=q1
 cases r1
 exact wpAny_truthy_bool ⟨H1,I1,q⟩
theorem pt_val {e:Expr} {t:TE} (h:PE X e t) (he:∀ whole,isTrue e X.env whole=(do let v ← whole;standAt e.pos;holding [v] (truthy v)):=by intro _;rfl):PT X e (tB t):=by
 intro pins s σ H Q I hw
 refine isTrue_plain (thn (h pins s σ H _ I hw) fun v s1 ⟨x,H1,I1,r1,q1⟩=>?_) (he _)
 obtain ⟨d,rfl,q⟩:=q1
 cases r1
 exact wpAny_truthy_bool ⟨H1,I1,q⟩
variable {tA tB':TT} {rest:List Expr}
noncomputable def tAnd (t u:TT):TT:=fun σ H Q=>t σ H fun c H1=>if c=true then u σ H1 Q else Q false H1
noncomputable def tOr (t u:TT):TT:=fun σ H Q=>t σ H fun c H1=>if c=true then Q true H1 else u σ H1 Q
noncomputable def tNot (t:TT):TT:=fun σ H Q=>t σ H fun c H1=>Q (!c) H1
theorem pw_and1 (ha:PT X a tA):PW X (.BoolOp .And [a] pos) tA:=by
 intro wh pins s σ H Q I h
 refine isTrue_and (thn (ha pins s σ H Q I h) fun c s1 e=>?_)
 cases c with
 | true=>exact isTrue_and_nil e
 | false=>exact e
theorem pw_or1 (ha:PT X a tA):PW X (.BoolOp .Or [a] pos) tA:=by
 intro wh pins s σ H Q I h
 refine isTrue_or (thn (ha pins s σ H Q I h) fun c s1 e=>?_)
 cases c with
 | false=>exact isTrue_or_nil e
 | true=>exact e
theorem pw_and (ha:PT X a tA) (hb:PW X (.BoolOp .And (b::rest) pos) tB'):PW X (.BoolOp .And (a::b::rest) pos) (tAnd tA tB'):=by
 intro wh pins s σ H Q I h
 refine isTrue_and (thn (ha pins s σ H _ I h) fun c s1 ⟨H1,I1,q1⟩=>?_)
 cases c with
 | true=>exact hb wh pins s1 σ H1 Q I1 q1
 | false=>exact⟨H1,I1,q1⟩
theorem pw_or (ha:PT X a tA) (hb:PW X (.BoolOp .Or (b::rest) pos) tB'):PW X (.BoolOp .Or (a::b::rest) pos) (tOr tA tB'):=by
 intro wh pins s σ H Q I h
 refine isTrue_or (thn (ha pins s σ H _ I h) fun c s1 ⟨H1,I1,q1⟩=>?_)
 cases c with
 | true=>exact⟨H1,I1,q1⟩
 | false=>exact hb wh pins s1 σ H1 Q I1 q1
theorem pt_not (ha:PT X a tA):PT X (.UnaryOp .Not a pos) (tNot tA):=by
 intro pins s σ H Q I h
 exact isTrue_not (ha pins s σ H (fun c H1=>Q (!c) H1) I h)
noncomputable def tAndV (ta tb:TE):TE:=fun σ H Q=>ta σ H fun x H1=>∃ c,x=.bl c∧if c=true then tb σ H1 Q else Q (.bl false) H1
noncomputable def tOrV (ta tb:TE):TE:=fun σ H Q=>ta σ H fun x H1=>∃ c,x=.bl c∧if c=true then Q (.bl true) H1 else tb σ H1 Q
noncomputable def tNotV (ta:TE):TE:=fun σ H Q=>ta σ H fun x H1=>∃ c,x=.bl c∧Q (.bl (!c)) H1
theorem pe_one {op} {t:TE} (h:PE X a t):PE X (.BoolOp op [a] pos) t:=fun pins s σ H Q I hw=>BoolOp_one (h pins s σ H Q I hw)
theorem pe_and (ha:PE X a ta) (hb:PE X (.BoolOp .And (b::rest) pos) tb):PE X (.BoolOp .And (a::b::rest) pos) (tAndV ta tb):=by
 intro pins s σ H Q I h
 refine BoolOp_and (thn (ha pins s σ H _ I h) fun v s1 ⟨x,H1,I1,r1,q1⟩=>?_)
 obtain ⟨c,rfl,q1⟩:=q1
 cases r1
 refine wpAny_truthy_bool ?_
 cases c with
 | true=>exact hb pins s1 σ H1 Q I1 q1
 | false=>exact⟨.bl false,H1,I1,rfl,q1⟩
theorem pe_or (ha:PE X a ta) (hb:PE X (.BoolOp .Or (b::rest) pos) tb):PE X (.BoolOp .Or (a::b::rest) pos) (tOrV ta tb):=by
 intro pins s σ H Q I h
 refine BoolOp_or (thn (ha pins s σ H _ I h) fun v s1 ⟨x,H1,I1,r1,q1⟩=>?_)
 obtain ⟨c,rfl,q1⟩:=q1
 cases r1
 refine wpAny_truthy_bool ?_
 cases c with
 | false=>exact hb pins s1 σ H1 Q I1 q1
 | true=>exact⟨.bl true,H1,I1,rfl,q1⟩
theorem pe_not (ha:PE X a ta):PE X (.UnaryOp .Not a pos) (tNotV ta):=by
 intro pins s σ H Q I h
 refine UnaryOp_ (thn (ha pins s σ H _ I h) fun v s1 ⟨x,H1,I1,r1,q1⟩=>?_)
 obtain ⟨c,rfl,q1⟩:=q1
 cases r1
 exact not_of (wpAny_truthy_bool ⟨.bl (!c),H1,I1,rfl,q1⟩)
noncomputable def tIf (t:TT) (ta tb:TE):TE:=fun σ H Q=>t σ H fun c H1=>if c=true then ta σ H1 Q else tb σ H1 Q
theorem pe_ifExp {c:Expr} (hc:PT X c tA) (ha:PE X a ta) (hb:PE X b tb):PE X (.IfExp c a b pos) (tIf tA ta tb):=by
 intro pins s σ H Q I h
 refine wpAny_IfExp (thn (hc pins s σ H _ I h) fun d s1 ⟨H1,I1,q1⟩=>?_)
 cases d with
 | true=>exact ha pins s1 σ H1 Q I1 q1
 | false=>exact hb pins s1 σ H1 Q I1 q1
end
end L2
namespace L2
open PySem PySem.Spec PyProof.Rows
noncomputable def SqL (K:PySem.W.Frag) (H:Hp) (a:Addr) (xs:List V):Prop :=
 Rd H a (.lst xs) ∨
  ∃ (o:Obj) (its:Array Value) (n:Nat),K.lookup a=some o∧o.cls=.type "list"∧o.dict=none∧o.data=.seq its n∧its.size≤sizeLine∧Vals xs its.toList
noncomputable def SqT (K:PySem.W.Frag) (H:Hp) (a:Addr) (xs:List V):Prop :=
 Rd H a (.tup xs) ∨
  ∃ (o:Obj) (its:Array Value) (n:Nat),K.lookup a=some o∧o.cls=.type "tuple"∧o.data=.seq its n∧its.size≤sizeLine∧Vals xs its.toList
noncomputable def absV:Value→Option V
 | .none=>some .non
 | .bool b=>some (.bl b)
 | .int i _=>some (.int i)
 | .str x _=>some (.str x)
 | .bytes b _=>some (.byt b)
 | .float b _=>some (.flt b)
 | .ref a=>some (.ref a)
 | .type n=>some (.ty n)
 | _=>none
theorem RelV.abs {x:V} {u:Value} (r:RelV x u):absV u=some x:=by
 cases x with
 | non=>cases r;rfl
 | bl _=>cases r;rfl
 | int _=>obtain ⟨t,rfl⟩:=r;rfl
 | str _=>obtain ⟨t,rfl⟩:=r;rfl
 | byt _=>obtain ⟨t,rfl⟩:=r;rfl
 | flt _=>obtain ⟨t,rfl⟩:=r;rfl
 | ref _=>cases r;rfl
 | ty _=>cases r;rfl
theorem RelV.inj {x y:V} {u:Value} (r:RelV x u) (q:RelV y u):x=y:=Option.some.inj (r.abs.symm.trans q.abs)
theorem Vals.inj:∀ {xs ys:List V} {us:List Value},Vals xs us→Vals ys us→xs=ys
 | _,_,_,.nil,.nil=>rfl
 | _,_,_,.cons r t,.cons r' t'=>by rw [r.inj r',Vals.inj t t']
section
variable {X:Cx} {pins:List (Addr×Obj)} {σ:St} {H:Hp} {s:Shared} {a:Addr} {xs ys:List V}
theorem SqL.of {K:PySem.W.Frag} (h:H a=some (.lst xs)):SqL K H a xs:=.inl (.inl h)
theorem SqT.of {K:PySem.W.Frag} (h:H a=some (.tup xs)):SqT K H a xs:=.inl (.inl h)
theorem Inv.list (I:Inv X pins σ H s) (h:SqL X.K H a xs):∃ its:List Value,Vals xs its∧PlainL s.heap a its.toArray∧xs.length≤sizeLine:=by
 rcases h with h|⟨o,its,n,hk,hc,hd,hs,hz,r⟩
 ·obtain ⟨z,its,n,r,e⟩:=h.ok I.hok
  exact⟨its,r,⟨_,n,e,rfl,rfl,rfl⟩,z⟩
 ·refine⟨its.toList,r,⟨o,n,I.kIn a o hk,hc,hd,by simpa using hs⟩,?_⟩
  have e:=r.length
  simp only [Array.length_toList] at e
  lia
theorem Inv.tuple (I:Inv X pins σ H s) (h:SqT X.K H a xs):∃ its:List Value,Vals xs its∧IsTup s.heap a its.toArray∧xs.length≤sizeLine:=by
 rcases h with h|⟨o,its,n,hk,hc,hs,hz,r⟩
 ·obtain ⟨z,its,r,p⟩:=h.ok I.hok
  exact⟨its,r,p,z⟩
 ·refine⟨its.toList,r,⟨o,I.kIn a o hk,hc,n,by simpa using hs⟩,?_⟩
  have e:=r.length
  simp only [Array.length_toList] at e
  lia
theorem Inv.list_inj (I:Inv X pins σ H s) (h:SqL X.K H a xs) (h':SqL X.K H a ys):xs=ys:=by
 obtain ⟨its,r,⟨o,n,e,_,_,d⟩,_⟩:=I.list h
 obtain ⟨its',r',⟨o',n',e',_,_,d'⟩,_⟩:=I.list h'
 rw [e] at e';cases e'
 rw [d] at d'
 injection d' with d1 _
 have:its=its':=by simpa using congrArg Array.toList d1
 subst this
 exact r.inj r'
theorem Inv.tuple_inj (I:Inv X pins σ H s) (h:SqT X.K H a xs) (h':SqT X.K H a ys):xs=ys:=by
 obtain ⟨its,r,⟨o,e,_,n,d⟩,_⟩:=I.tuple h
 obtain ⟨its',r',⟨o',e',_,n',d'⟩,_⟩:=I.tuple h'
 rw [e] at e';cases e'
 rw [d] at d'
 injection d' with d1 _
 have:its=its':=by simpa using congrArg Array.toList d1
 subst this
 exact r.inj r'
end
noncomputable abbrev Cx.wish (X:Cx) (E:Value→Shared→Prop):Cx:={ X with xe:=E }
noncomputable abbrev Cx.nox (X:Cx):Cx:=X.wish fun _ _=>False
theorem Cx.Ok.wish {X:Cx} (ok:X.Ok) (E:Value→Shared→Prop):(X.wish E).Ok :=
 ⟨ok.mod,ok.kind,ok.glob,ok.blt,ok.above,ok.inj,ok.has,ok.cab,ok.hd,ok.frames,ok.stk,ok.exf,ok.bs,ok.bsz,ok.noex,ok.exfs,ok.funs,ok.frf⟩
theorem Cx.Ok.unwish {X:Cx} {E:Value→Shared→Prop} (ok:(X.wish E).Ok):X.Ok :=
 ⟨ok.mod,ok.kind,ok.glob,ok.blt,ok.above,ok.inj,ok.has,ok.cab,ok.hd,ok.frames,ok.stk,ok.exf,ok.bs,ok.bsz,ok.noex,ok.exfs,ok.funs,ok.frf⟩
section
variable {X:Cx} {pins:List (Addr×Obj)} {σ:St} {H:Hp} {s:Shared} {E:Value→Shared→Prop}
theorem Inv.wish (I:Inv X pins σ H s) (E:Value→Shared→Prop):Inv (X.wish E) pins σ H s:=⟨I.ok.wish E,I.os,I.bare,I.base,I.loc,I.cell,I.free,I.freeC,I.pin,I.hok,I.len⟩
theorem Inv.unwish (I:Inv (X.wish E) pins σ H s):Inv X pins σ H s:=⟨I.ok.unwish,I.os,I.bare,I.base,I.loc,I.cell,I.free,I.freeC,I.pin,I.hok,I.len⟩
theorem SP.unwish {D:Ends} {f:Flow} {s':Shared} (h:SP (X.wish E) pins D f s'):SP X pins D f s':=by
 cases f with
 | next=>obtain ⟨σ',H',I,q⟩:=h;exact⟨σ',H',I.unwish,q⟩
 | brk=>obtain ⟨σ',H',I,q⟩:=h;exact⟨σ',H',I.unwish,q⟩
 | cont=>obtain ⟨σ',H',I,q⟩:=h;exact⟨σ',H',I.unwish,q⟩
 | ret u=>obtain ⟨v,σ',H',I,r,q⟩:=h;exact⟨v,σ',H',I.unwish,r,q⟩
theorem PSs.nox {st:List Stmt} {t:TS} (h:PSs X.nox st t):PSs X st t:=fun pins s σ H D I hw =>
 wpAny_mono (h pins s σ H D (I.wish _) hw) (fun _ _ q=>q.unwish) fun _ _ z=>False.elim z
end
section
variable {X:Cx} {st:Stmt} {rest:List Stmt} {t u:TS} {e:Expr} {te:TE} {pos:Pos}
noncomputable def tNext:TS:=fun D σ H=>D.nx σ H
noncomputable def tSeq (t u:TS):TS:=fun D σ H=>t { D with nx:=u D } σ H
theorem pss_nil:PSs X [] tNext:=fun _ _ σ H _ I h=>wpAny_execs_nil ⟨σ,H,I,h⟩
theorem pss_cons (h1:PS X st t) (h2:PSs X rest u):PSs X (st::rest) (tSeq t u):=by
 intro pins s σ H D I h
 refine wpAny_execs_cons (thn (h1 pins s σ H { D with nx:=u D } I h) fun f s1 q=>?_)
 cases f with
 | next =>
  obtain ⟨σ',H',I',q⟩:=q
  exact h2 pins s1 σ' H' D I' q
 | ret v=>exact q
 | brk=>exact q
 | cont=>exact q
theorem pss_one (h1:PS X st t):PSs X [st] t:=by
 intro pins s σ H D I h
 refine wpAny_execs_cons (thn (h1 pins s σ H D I h) fun f s1 q=>?_)
 cases f with
 | next=>exact wpAny_execs_nil q
 | ret v=>exact q
 | brk=>exact q
 | cont=>exact q
theorem Inv.quiet {pins:List (Addr×Obj)} {σ:St} {H:Hp} {s:Shared} (I:Inv X pins σ H s):interactive X.env=false:=by simp [interactive,I.ok.kind]
noncomputable def tDrop (te:TE):TS:=fun D σ H=>te σ H fun _ H1=>D.nx σ H1
theorem ps_expr (he:PE X e te) (hs:swapsWith e none pos.line X.env=pure false:=by rfl):PS X (.Expr e pos) (tDrop te):=by
 intro pins s σ H D I h
 exact wpAny_Expr_any (thn (he pins s σ H _ I h) fun v s1 ⟨x,H1,I1,r1,q1⟩=>⟨σ,H1,I1,q1⟩) I.quiet hs
noncomputable def tRet (te:TE):TS:=fun D σ H=>te σ H D.rt
theorem ps_ret (he:PE X e te):PS X (.Return (some e) pos) (tRet te):=by
 intro pins s σ H D I h
 exact wpAny_Return_some (thn (he pins s σ H _ I h) fun v s1 ⟨x,H1,I1,r1,q1⟩=>⟨x,σ,H1,I1,r1,q1⟩)
noncomputable def tIfS (c:TT) (t u:TS):TS:=fun D σ H=>c σ H fun b H1=>if b=true then t D σ H1 else u D σ H1
theorem ps_if {c:Expr} {a b:List Stmt} {tc:TT} (hc:PT X c tc) (ha:PSs X a t) (hb:PSs X b u):PS X (.If c a b pos) (tIfS tc t u):=by
 intro pins s σ H D I h
 refine wpAny_If (thn (hc pins s σ H _ I h) fun d s1 ⟨H1,I1,q1⟩=>?_)
 cases d with
 | true=>exact ha pins s1 σ H1 D I1 q1
 | false=>exact hb pins s1 σ H1 D I1 q1
noncomputable def tNever:TS:=fun _ _ _=>False
theorem ps_never:PS X st tNever:=fun _ _ _ _ _ _ h=>h.elim
end
noncomputable abbrev TG:=V→St→Hp→(St→Hp→Prop)→Prop
noncomputable abbrev TGs:=List V→St→Hp→(St→Hp→Prop)→Prop
noncomputable def PG (X:Cx) (target:Expr) (t:TG):Prop :=
 ∀ (pins:List (Addr×Obj)) (s:Shared) (σ:St) (H:Hp) (v:V) (u:Value) (Q:St→Hp→Prop),Inv X pins σ H s→RelV v u→t v σ H Q →
  wpAny (model X.prog X.w) X.A (assign target X.env u) (fun _ s'=>∃ σ' H',Inv X pins σ' H' s'∧Q σ' H') X.xe s
noncomputable def PGs (X:Cx) (ts:List Expr) (t:TGs):Prop :=
 ∀ (pins:List (Addr×Obj)) (s:Shared) (σ:St) (H:Hp) (vs:List V) (us:List Value) (Q:St→Hp→Prop),Inv X pins σ H s→Vals vs us→t vs σ H Q →
  wpAny (model X.prog X.w) X.A (assignInOrder ((assignEach ts X.env).map (·.2)) us) (fun _ s'=>∃ σ' H',Inv X pins σ' H' s'∧Q σ' H') X.xe s
noncomputable abbrev TSet:=V→V→V→Hp→(Hp→Prop)→Prop
noncomputable def PSet (X:Cx) (t:TSet):Prop :=
 ∀ (pins:List (Addr×Obj)) (s:Shared) (σ:St) (H:Hp) (o i v:V) (ov iv u:Value) (Q:Hp→Prop),Inv X pins σ H s→RelV o ov→RelV i iv→RelV v u→t o i v H Q →
  wpAny (model X.prog X.w) X.A (setItem ov iv u) (fun _ s'=>∃ H',Inv X pins σ H' s'∧Q H') X.xe s
section
variable {X:Cx} {pos:Pos}
noncomputable def gName (i:Nat):TG:=fun v σ H Q=>Q (σ.set i (some v)) H
theorem pg_name {i:Nat} {x:Str} (hN:X.N.Nodup) (hi:X.N[i]?=some x) (hx:Loc X.env.scope x) (hf:X.fn x=true∨X.env.scope.names.lookup x=some .local:=by first|exact .inl rfl|exact .inr rfl|assumption):PG X (.Name x pos) (gName i):=by
 intro pins s σ H v u Q I r h
 exact wpAny_assign_Name (store_ok I hN hi hx r (fun s' I'=>⟨_,H,I',h⟩) hf)
noncomputable def gNil:TGs:=fun vs σ H Q=>vs=[]∧Q σ H
noncomputable def gCons (t:TG) (u:TGs):TGs:=fun vs σ H Q=>∃ v r,vs=v::r∧t v σ H fun σ' H'=>u r σ' H' Q
theorem pgs_nil:PGs X [] gNil:=by
 intro pins s σ H vs us Q I r h
 obtain ⟨e,h⟩:=h
 subst e
 cases r
 exact assignInOrder_nil ⟨σ,H,I,h⟩
theorem pgs_cons {e:Expr} {es:List Expr} {t:TG} {u:TGs} (h1:PG X e t) (h2:PGs X es u)
  (hs:(assignEach (e::es) X.env).map (·.2)=assign e X.env::(assignEach es X.env).map (·.2):=by rfl):PGs X (e::es) (gCons t u):=by
 intro pins s σ H vs us Q I r h
 obtain ⟨v,vr,e1,h⟩:=h
 subst e1
 cases r with
 | cons r rr =>
  rw [hs]
  refine assignInOrder_cons (thn (h1 pins s σ H _ _ _ I r h) fun _ s1 ⟨σ1,H1,I1,q1⟩=>?_)
  exact h2 pins s1 σ1 H1 _ _ Q I1 rr q1
noncomputable def gTup (K:PySem.W.Frag) (n:Nat) (t:TGs):TG:=fun v σ H Q=>∃ a xs,v=.ref a∧SqT K H a xs∧xs.length=n∧t xs σ H Q
theorem pg_tup {es:List Expr} {k:Nat} {t:TGs} {n:Nat} (hc:X.calm=true) (h:PGs X es t)
  (hn:(assignEach es X.env).length=n:=by rfl) (hst:(assignEach es X.env).findIdx? (·.1)=none:=by rfl):PG X (.Tuple es k pos) (gTup X.K n t):=by
 intro pins s σ H v u Q I r hw
 obtain ⟨a,xs,e1,hq,hl,hw⟩:=hw
 subst e1
 cases r
 obtain ⟨its,rv,ht,hz⟩:=I.tuple hq
 refine assign_Tuple_tuple (I.ok.hd hc) ht (by simp [hn,← hl,rv.length]) hst fun h' hx=>?_
 have I1:Inv X pins σ H { s with heap:=h' }:=I.kept (t':=s.toks) fun b o e=>hx b o (Nat.ne_of_lt (Heap.lt_size e)) e
 exact h pins _ σ H xs _ Q I1 (by simpa using rv) hw
noncomputable def gSub (to ti:TE) (t:TSet):TG:=fun v σ H Q=>to σ H fun o H1=>ti σ H1 fun i H2=>t o i v H2 fun H3=>Q σ H3
theorem pg_sub {o i:Expr} {to ti:TE} {t:TSet} (ho:PE X o to) (hi:PE X i ti) (hs:PSet X t)
  (ha:∀ v,assign (.Subscript o i pos) X.env v=(do
   let ov ← holding [v] (eval o X.env)
   let iv ← holding [v,ov] (eval i X.env)
   standAt pos
   holding [v,ov,iv] (setItem ov iv v)
   release [v,ov,iv] []):=by intro _;rfl):PG X (.Subscript o i pos) (gSub to ti t):=by
 intro pins s σ H v u Q I r h
 rw [ha]
 refine wpAny_bind (wpAny_holding (thn (ho pins s σ H _ I h) fun ov s1 ⟨x,H1,I1,r1,q1⟩=>?_))
 refine wpAny_bind (wpAny_holding (thn (hi pins s1 σ H1 _ I1 q1) fun iv s2 ⟨y,H2,I2,r2,q2⟩=>?_))
 refine wpAny_bind (wpAny_standAt (wpAny_bind (wpAny_holding (thn (hs pins s2 σ H2 x y v ov iv u _ I2 r1 r2 r q2) fun _ s3 ⟨H3,I3,q3⟩=>?_))))
 exact wpAny_release ⟨σ,H3,I3,q3⟩
noncomputable def tAsg (te:TE) (g:TG):TS:=fun D σ H=>te σ H fun x H1=>g x σ H1 D.nx
theorem ps_asg {tg e:Expr} {te:TE} {g:TG} (he:PE X e te) (hg:PG X tg g) (hs:swapsWithSole [tg] e pos.line X.env=pure false:=by rfl) (hw:swappedStores [tg] e X.env=pure none:=by rfl)
  (h1:(assignEach [tg] X.env).map (·.2)=[assign tg X.env]:=by rfl):PS X (.Assign [tg] e pos) (tAsg te g):=by
 intro pins s σ H D I h
 refine wpAny_Assign_stores (thn (he pins s σ H _ I h) fun v s1 ⟨x,H1,I1,r1,q1⟩=>?_) hs hw
 rw [h1]
 exact thn (hg pins s1 σ H1 x v _ I1 r1 q1) fun _ s2 q=>q
theorem ps_set {i:Nat} {x:Str} {e:Expr} {te:TE} {pos':Pos} (hN:X.N.Nodup) (hi:X.N[i]?=some x) (hx:Loc X.env.scope x) (he:PE X e te) (hs:swapsWith e (some (.Name x pos')) pos.line X.env=pure false:=by rfl) (hf:X.fn x=true∨X.env.scope.names.lookup x=some .local:=by first|exact .inl rfl|exact .inr rfl|assumption) :
  PS X (.Assign [.Name x pos'] e pos) (tAsg te (gName i)):=by
 intro pins s σ H D I h
 refine wpAny_Assign_Name (thn (he pins s σ H _ I h) fun v s1 ⟨y,H1,I1,r1,q1⟩=>?_) hs
 exact store_ok I1 hN hi hx r1 (fun s2 I2=>⟨_,H1,I2,q1⟩) hf
noncomputable def tPar (i j:Nat) (ta:TA):TS:=fun D σ H=>ta σ H fun vs H1=>∃ v w,vs=[v,w]∧D.nx ((σ.set i (some v)).set j (some w)) H1
theorem ps_par {i j:Nat} {x y:Str} {a b:Expr} {ta:TA} {px py pt:Pos} {kt k2 pt2} (hc:X.calm=true) (hN:X.N.Nodup) (hi:X.N[i]?=some x) (hj:X.N[j]?=some y) (hij:i≠j)
  (hx:X.env.scope.names.lookup x=some .local) (hy:X.env.scope.names.lookup y=some .local) (ha:PA X [a,b] ta)
  (hw:swappedStores [.Tuple [.Name x px,.Name y py] kt pt] (.Tuple [a,b] k2 pt2) X.env=pure (some [x,y]))
  (hs:swapsWithSole [.Tuple [.Name x px,.Name y py] kt pt] (.Tuple [a,b] k2 pt2) pos.line X.env=pure false:=by rfl) :
  PS X (.Assign [.Tuple [.Name x px,.Name y py] kt pt] (.Tuple [a,b] k2 pt2) pos) (tPar i j ta):=by
 intro pins s σ H D I h
 rw [exec_Assign_arm]
 refine wpAny_bind (wpAny_standAt ?_)
 rw [hs]
 refine wpAny_bind (wpAny_pure ?_)
 rw [if_neg (by decide)]
 refine wpAny_bind (Tuple_ (thn (ha _ pins s σ H _ I h) fun us s1 ⟨vs,H1,I1,r1,q1⟩=>?_))
 obtain ⟨v,w,e1,q1⟩:=q1
 subst e1
 obtain ⟨u1,u2,rfl,rv,rw'⟩:∃ u1 u2,us=[u1,u2]∧RelV v u1∧RelV w u2:=by
  cases r1 with
  | cons p q =>
   cases q with
   | cons p' q' =>
    cases q'
    exact⟨_,_,rfl,p,p'⟩
 refine wpAny_newObj_type ?_ (by show 2≤sizeLine;decide)
 have I2:Inv X pins σ H1 { s1 with heap:=s1.heap.push { cls:=.type "tuple",data:=.seq [u1,u2].toArray } }:=I1.kept (t':=s1.toks) fun b o e=>Heap.get?_push_of_some _ e
 rw [hw]
 refine wpAny_bind (wpAny_pure ?_)
 show wpAny (model X.prog X.w) X.A (do rule "assign.swapped-stores"; let items ← unpackItems (.ref s1.heap.objs.size) 2 none;assignInOrder [fun v=>bindName X.env y v,fun v=>bindName X.env x v] items.reverse;pure Flow.next) _ _ _
 refine wpAny_bind (wpAny_rule (wpAny_bind (unpackItems_tuple (items:=#[u1,u2]) (I.ok.hd hc) (IsTup.new s1.heap _) fun h' hx'=>?_)))
 have I3:=I2.kept (h':=h') (t':=s1.toks) fun b o e=>hx' b o (Nat.ne_of_lt (Heap.lt_size e)) e
 show wpAny _ _ (assignInOrder [fun v=>bindName X.env y v,fun v=>bindName X.env x v] [u2,u1] >>= fun _=>pure Flow.next) _ _ _
 refine wpAny_bind (assignInOrder_cons (wpAny_bindName (store_ok I3 hN hj (.inl hy) rw' (fun s2 I4=>?_) (.inr hy))))
 refine assignInOrder_cons (wpAny_bindName (store_ok I4 hN hi (.inl hx) rv (fun s3 I5=>assignInOrder_nil (wpAny_pure ?_)) (.inr hx)))
 rw [List.set_comm _ _ (Ne.symm hij)] at I5
 exact⟨_,H1,I5,q1⟩
end
section
variable {X:Cx} {pos:Pos}
noncomputable def tWhile (c:TT) (tb:TS):TS:=fun D σ H=>∃ W:Nat→St→Hp→Prop,(∃ m,W m σ H)∧∀ m σ H,W m σ H →
 c σ H fun b H1=>if b=true then ∃ N:St→Hp→Prop,(∀ σ' H',N σ' H'→∃ m',m'<m∧W m' σ' H')∧tb { D with nx:=N,ct:=N,bk:=D.nx } σ H1 else D.nx σ H1
theorem ps_while {c:Expr} {body:List Stmt} {tc:TT} {tb:TS} (hp:PassesOwn (model X.prog X.w) X.A X.env X.xe) (hc:PT X c tc) (hb:PSs X body tb):PS X (.While c body [] pos) (tWhile tc tb):=by
 intro pins s σ H D I h
 obtain ⟨W,⟨m0,w0⟩,turn⟩:=h
 refine wpAny_While (codeAny_whileLoop (fun n s'=>∃ σ' H',Inv X pins σ' H' s'∧W n σ' H') ?_ m0 ⟨σ,H,I,w0⟩)
 rintro n s1 ⟨σ1,H1,I1,w1⟩
 refine wpAny_passesOwn hp (thn (hc pins s1 σ1 H1 _ I1 (turn n σ1 H1 w1)) fun b s2 ⟨H2,I2,q2⟩=>?_)
 cases b with
 | true =>
  obtain ⟨N,hN,q2⟩:=q2
  rw [if_pos rfl]
  refine wpAny_passesOwn hp (thn (hb pins s2 σ1 H2 _ I2 q2) fun f s3 q3=>?_)
  cases f with
  | next =>
   obtain ⟨σ3,H3,I3,n3⟩:=q3
   obtain ⟨m',hm,w3⟩:=hN σ3 H3 n3
   exact⟨m',hm,σ3,H3,I3,w3⟩
  | cont =>
   obtain ⟨σ3,H3,I3,n3⟩:=q3
   obtain ⟨m',hm,w3⟩:=hN σ3 H3 n3
   exact⟨m',hm,σ3,H3,I3,w3⟩
  | brk=>exact q3
  | ret v=>exact q3
 | false =>
  rw [if_neg Bool.false_ne_true]
  exact wpAny_execs_nil ⟨σ1,H2,I2,q2⟩
end
structure It where
 go:Nat→Hp→Prop
 yld:Nat→Hp→V→Hp→Prop
 stop:Nat→Hp→Prop
noncomputable def FpOk (X:Cx) (pins:List (Addr×Obj)) (H:Hp) (b:Addr):Prop :=
 H b=none∧b≠X.env.locals∧b∉X.fs∧(b∈X.ex∨X.s₀.heap.objs.size≤b)∧(∀ x c,X.env.cells.lookup x=some c→c≠b)∧∀ p∈X.pn++pins,p.1≠b
theorem Inv.fpOk {X:Cx} {pins:List (Addr×Obj)} {σ:St} {H H':Hp} {s:Shared} {b:Addr} (I:Inv X pins σ H s) (hb:s.heap.objs.size≤b) (hn:H' b=none):FpOk X pins H' b:=by
 refine⟨hn,Nat.ne_of_gt (Nat.lt_of_lt_of_le I.lt hb),I.nofs hb,.inr (Nat.le_trans I.sz hb),fun x c e z=>?_,fun p hp z=>?_⟩
 ·obtain ⟨v,q⟩:=I.cell x c e
  exact absurd (Nat.lt_of_lt_of_le q.lt (by rw [z];exact hb)) (Nat.lt_irrefl _)
 ·exact absurd (Nat.lt_of_lt_of_le (Heap.lt_size (I.pin p hp).1) (by rw [z];exact hb)) (Nat.lt_irrefl _)
structure Turn (P:Program) (w:World) (K:PySem.W.Frag) (tg:Expr) (J:It) (fp:List Addr) (it:Addr) (tn:Nat→Heap→Prop):Prop where
 mem:it∈fp
 obj:∀ i h,tn i h→∀ b∈fp,∃ o,h.get? b=some o∧∀ v,o.data≠.cell v
 keep:∀ i h h',tn i h→(∀ b∈fp,∀ o,h.get? b=some o→h'.get? b=some o)→tn i h'
 item:∀ (X:Cx),X.prog=P→X.w=w→X.K=K→X.calm=true→∀ (i:Nat) (pins:List (Addr×Obj)) (s:Shared) (σ:St) (H:Hp) (E:Value→Shared→Prop),Inv X pins σ H s→(∀ b∈fp,FpOk X pins H b)→tn i s.heap→J.go i H →
  wpAny (model P w) X.A (pyNext (.ref it)) (fun r s1=>∃ u,r=some u ∧
   wpAny (model P w) X.A (letOwnedTupleGo tg (.ref it) u) (fun _ s2=>∃ x H',Inv X pins σ H' s2∧RelV x u∧J.yld i H x H'∧tn (i+1) s2.heap∧∀ b∈fp,H' b=none) E s1) E s
 done:∀ (X:Cx),X.prog=P→X.w=w→X.K=K→X.calm=true→∀ (i:Nat) (pins:List (Addr×Obj)) (s:Shared) (σ:St) (H:Hp) (E:Value→Shared→Prop),Inv X pins σ H s→(∀ b∈fp,FpOk X pins H b)→tn i s.heap→J.stop i H →
  wpAny (model P w) X.A (pyNext (.ref it)) (fun r s1=>r=none∧Inv X pins σ H s1) E s
 self:∀ (A:Around) (i:Nat) (s:Shared) (Q:Value→Shared→Prop) (E:Value→Shared→Prop),tn i s.heap→Q (.ref it) s→wpAny (model P w) A (pyIter (.ref it)) Q E s
noncomputable abbrev TI:=St→Hp→(It→Hp→Prop)→Prop
noncomputable def PIE (X:Cx) (pins:List (Addr×Obj)) (σ:St) (tg:Expr) (R:It→Hp→Prop) (itv:Value) (s2:Shared):Prop :=
 ∃ (it:Addr) (fp:List Addr) (tn:Nat→Heap→Prop) (J:It) (H':Hp),itv=.ref it∧Inv X pins σ H' s2∧Turn X.prog X.w X.K tg J fp it tn∧tn 0 s2.heap∧(∀ b∈fp,FpOk X pins H' b)∧R J H'
noncomputable def PI (X:Cx) (tg iter:Expr) (wi:TI):Prop :=
 ∀ (pins:List (Addr×Obj)) (s:Shared) (σ:St) (H:Hp) (R:It→Hp→Prop),Inv X pins σ H s→wi σ H R →
  wpAny (model X.prog X.w) X.A (eval iter X.env) (fun v s1=>wpAny (model X.prog X.w) X.A (pyIter v) (PIE X pins σ tg R) X.xe s1) X.xe s
theorem go_of {M : Model} {A : Around} {E : Value → Shared → Prop} {s : Shared} {tg : Expr} {it : Addr} {u : Value} {o : Obj} {n : String} {vs : Array Value} {Q : Unit → Shared → Prop} (ho : s.heap.get? it=some o) (hc : o.cls=.type n) (hd : o.data=.fields vs)
    (hn : ["enumerate", "zip", "dict_itemiterator", "dict_reverseitemiterator", "odict_iterator", "itertools.zip_longest", "itertools.pairwise"].contains n=false) (hQ : Q () s) : wpAny M A (letOwnedTupleGo tg (.ref it) u) Q E s := by
  unfold letOwnedTupleGo
  cases tg <;> first
    | exact wpAny_pure hQ
    | (cases u <;> first
        | exact wpAny_pure hQ
        | (refine wpAny_bind (wpAny_load ho ?_)
           rw [hc, hd]
           show wpAny M A (if (["enumerate", "zip", "dict_itemiterator", "dict_reverseitemiterator", "odict_iterator", "itertools.zip_longest", "itertools.pairwise"].contains n && vs[0]? == some (rawInt _))=true then _ else _) Q E s
           rw [if_neg (by intro h;rw [hn, Bool.false_and] at h;cases h)]
           exact wpAny_pure hQ))
noncomputable def Itl (K:PySem.W.Frag) (a:Addr):It :=
 ⟨fun i H=>∃ xs x,SqL K H a xs∧xs[i]?=some x,fun i H x H'=>H'=H∧∀ xs,SqL K H a xs→xs[i]?=some x,fun i H=>∃ xs,SqL K H a xs∧xs.length≤i⟩
noncomputable def Itt (K:PySem.W.Frag) (a:Addr):It :=
 ⟨fun i H=>∃ xs x,SqT K H a xs∧xs[i]?=some x,fun i H x H'=>H'=H∧∀ xs,SqT K H a xs→xs[i]?=some x,fun i H=>∃ xs,SqT K H a xs∧xs.length≤i⟩
noncomputable def Itr (lo:Int) (n:Nat):It:=⟨fun i _=>i<n,fun i H x H'=>H'=H∧x=.int (lo+i),fun i _=>n≤i⟩
theorem turn_list {P:Program} {w:World} {K:PySem.W.Frag} {tg:Expr} (a it:Addr):Turn P w K tg (Itl K a) [it] it (fun i h=>h.IsListIter it a i) where
 mem:=by simp
 obj:=fun i h st b hb=>by
  have e:b=it:=by simpa using hb
  subst e
  obtain ⟨o,e,c,d⟩:=st
  exact⟨o,e,fun v z=>by rw [d] at z;cases z⟩
 keep:=fun i h h' st k=>st.at fun o e=>k it (by simp) o e
 item:=by
  intro X hP hw hK hc i pins s σ H E I hf st hg
  subst hP hw hK
  obtain ⟨xs,x,hq,hx⟩:=hg
  obtain ⟨its,rv,p,hz⟩:=I.list hq
  obtain ⟨u,hu,ru⟩:=rv.get hx
  obtain ⟨f0,f1,f2,f3,f4,f5⟩:=hf it (by simp)
  refine wpAny_pyNext_list_item st p.isList (x:=u) (by simpa using hu) fun h' st' sb=>?_
  have I1:Inv X pins σ H { s with heap:=h' }:=I.turned (t':=s.toks) (fun b o hb e=>(sb.2 b hb).trans e) f0 f1 f3 f4 f5
  obtain ⟨o,e,c,d⟩:=id st'
  exact⟨u,rfl,go_of (s:={ s with heap:=h' }) e c d (by decide) ⟨x,H,I1,ru,⟨rfl,fun ys hy=>by rw [I.list_inj hy hq];exact hx⟩,st',fun b hb=>(hf b hb).1⟩⟩
 done:=by
  intro X hP hw hK hc i pins s σ H E I hf st hg
  subst hP hw hK
  obtain ⟨xs,hq,hx⟩:=hg
  obtain ⟨its,rv,p,hz⟩:=I.list hq
  obtain ⟨f0,f1,f2,f3,f4,f5⟩:=hf it (by simp)
  have hl:=rv.length
  exact wpAny_pyNext_list_end (I.ok.hd hc) st p.isList (by simp;lia) fun h' eb=>⟨rfl,I.turned (t':=s.toks) (fun b o hb e=>eb b o hb e) f0 f1 f3 f4 f5⟩
 self:=fun _ _ _ _ _ st h=>wpAny_pyIter_listiter st h
theorem turn_tuple {P:Program} {w:World} {K:PySem.W.Frag} {tg:Expr} (a it:Addr):Turn P w K tg (Itt K a) [it] it (fun i h=>h.IsTupleIter it a i) where
 mem:=by simp
 obj:=fun i h st b hb=>by
  have e:b=it:=by simpa using hb
  subst e
  obtain ⟨o,e,c,d⟩:=st
  exact⟨o,e,fun v z=>by rw [d] at z;cases z⟩
 keep:=fun i h h' st k=>st.at fun o e=>k it (by simp) o e
 item:=by
  intro X hP hw hK hc i pins s σ H E I hf st hg
  subst hP hw hK
  obtain ⟨xs,x,hq,hx⟩:=hg
  obtain ⟨its,rv,p,hz⟩:=I.tuple hq
  obtain ⟨u,hu,ru⟩:=rv.get hx
  obtain ⟨f0,f1,f2,f3,f4,f5⟩:=hf it (by simp)
  refine wpAny_pyNext_tuple_item st (show s.heap.IsTuple a its.toArray from p) (x:=u) (by simpa using hu) fun h' st' sb=>?_
  have I1:Inv X pins σ H { s with heap:=h' }:=I.turned (t':=s.toks) (fun b o hb e=>(sb.2 b hb).trans e) f0 f1 f3 f4 f5
  obtain ⟨o,e,c,d⟩:=id st'
  exact⟨u,rfl,go_of (s:={ s with heap:=h' }) e c d (by decide) ⟨x,H,I1,ru,⟨rfl,fun ys hy=>by rw [I.tuple_inj hy hq];exact hx⟩,st',fun b hb=>(hf b hb).1⟩⟩
 done:=by
  intro X hP hw hK hc i pins s σ H E I hf st hg
  subst hP hw hK
  obtain ⟨xs,hq,hx⟩:=hg
  obtain ⟨its,rv,p,hz⟩:=I.tuple hq
  obtain ⟨f0,f1,f2,f3,f4,f5⟩:=hf it (by simp)
  have hl:=rv.length
  exact wpAny_pyNext_tuple_end (I.ok.hd hc) st (show s.heap.IsTuple a its.toArray from p) (by simp;lia) fun h' eb=>⟨rfl,I.turned (t':=s.toks) (fun b o hb e=>eb b o hb e) f0 f1 f3 f4 f5⟩
 self:=fun _ _ _ _ _ st h=>wpAny_pyIter_tupleiter st h
theorem turn_range {P:Program} {w:World} {K:PySem.W.Frag} {tg:Expr} (it:Addr) (lo:Int) (n:Nat):Turn P w K tg (Itr lo n) [it] it (fun i h=>IsRangeIter h it (lo+(i:Nat)*1) ((n:Int) - (i:Nat)) 1) where
 mem:=by simp
 obj:=fun i h st b hb=>by
  have e:b=it:=by simpa using hb
  subst e
  exact⟨_,st,fun v z=>by
   have z':Data.fields _=Data.cell v:=z
   cases z'⟩
 keep:=fun i h h' st k=>k it (by simp) _ st
 item:=by
  intro X hP hw hK hc i pins s σ H E I hf st hg
  subst hP hw hK
  obtain ⟨f0,f1,f2,f3,f4,f5⟩:=hf it (by simp)
  have W:=Walks.range (prog:=X.prog) (w:=X.w) (I.ok.hd hc) it lo 1 n
  refine W.item i s _ _ hg st fun v h' tk hv st' kk=>?_
  obtain ⟨t,rfl⟩:=hv
  have I1:Inv X pins σ H { s with heap:=h',toks:=tk }:=I.turned (fun b o hb e=>kk b o (by simpa using hb) e) f0 f1 f3 f4 f5
  refine⟨_,rfl,go_of (s:={ s with heap:=h',toks:=tk }) (n:="range_iterator") st' rfl rfl (by decide) ⟨.int (lo+i),H,I1,⟨t,?_⟩,⟨rfl,rfl⟩,st',fun b hb=>(hf b hb).1⟩⟩
  rw [Int.mul_one]
 done:=by
  intro X hP hw hK hc i pins s σ H E I hf st hg
  subst hP hw hK
  obtain ⟨f0,f1,f2,f3,f4,f5⟩:=hf it (by simp)
  exact wpAny_pyNext_range_end (I.ok.hd hc) st (by have:n≤i:=hg;lia) fun h' eb=>⟨rfl,I.turned (t':=s.toks) (fun b o hb e=>eb b o hb e) f0 f1 f3 f4 f5⟩
 self:=fun _ _ _ _ _ st h=>wpAny_pyIter_rangeiter st h
end L2
namespace L2
open PySem PySem.Spec PyProof.Rows
section
variable {X:Cx} {tg:Expr}
noncomputable def iList (K:PySem.W.Frag) (tl:TE):TI:=fun σ H R=>tl σ H fun x H1=>∃ a,x=.ref a∧(∃ xs,SqL K H1 a xs)∧R (Itl K a) H1
noncomputable def iTup (K:PySem.W.Frag) (tl:TE):TI:=fun σ H R=>tl σ H fun x H1=>∃ a,x=.ref a∧(∃ xs,SqT K H1 a xs)∧R (Itt K a) H1
theorem pi_list {l:Expr} {tl:TE} (hl:PE X l tl):PI X tg l (iList X.K tl):=by
 intro pins s σ H R I h
 refine thn (hl pins s σ H _ I h) fun v s1 ⟨x,H1,I1,r1,q1⟩=>?_
 obtain ⟨a,e,⟨xs,hq⟩,q⟩:=q1
 subst e
 cases r1
 obtain ⟨its,rv,p,hz⟩:=I1.list hq
 refine wpAny_pyIter_list p.isList ?_
 refine⟨s1.heap.objs.size,[s1.heap.objs.size],_,_,H1,rfl,I1.kept (t':=s1.toks) fun b o e=>Heap.get?_push_of_some _ e,turn_list a _,⟨_,Heap.get?_push_size _ rfl,rfl,rfl⟩,fun b hb=>?_,q⟩
 have e:b=s1.heap.objs.size:=by simpa using hb
 subst e
 exact I1.fpOk (Nat.le_refl _) (I1.hok.fresh (Nat.le_refl _))
theorem pi_tup {l:Expr} {tl:TE} (hl:PE X l tl):PI X tg l (iTup X.K tl):=by
 intro pins s σ H R I h
 refine thn (hl pins s σ H _ I h) fun v s1 ⟨x,H1,I1,r1,q1⟩=>?_
 obtain ⟨a,e,⟨xs,hq⟩,q⟩:=q1
 subst e
 cases r1
 obtain ⟨its,rv,p,hz⟩:=I1.tuple hq
 refine wpAny_pyIter_tuple (show s1.heap.IsTuple a its.toArray from p) ?_
 refine⟨s1.heap.objs.size,[s1.heap.objs.size],_,_,H1,rfl,I1.kept (t':=s1.toks) fun b o e=>Heap.get?_push_of_some _ e,turn_tuple a _,⟨_,Heap.get?_push_size _ rfl,rfl,rfl⟩,fun b hb=>?_,q⟩
 have e:b=s1.heap.objs.size:=by simpa using hb
 subst e
 exact I1.fpOk (Nat.le_refl _) (I1.hok.fresh (Nat.le_refl _))
theorem range_it {pins:List (Addr×Obj)} {σ:St} {H:Hp} {s:Shared} {R:It→Hp→Prop} {E:Value→Shared→Prop} {lo hi:Int} {t u v:Tok} {tk:Nat} (I:Inv X pins σ H s) (h1:-(2 ^ 62)≤lo) (h2:lo<2 ^ 62) (h3:-(2 ^ 62)≤hi) (h4:hi<2 ^ 62)
  (q:R (Itr lo (hi - lo).toNat) H):wpAny (model X.prog X.w) X.A (pyIter (.ref s.heap.objs.size)) (PIE X pins σ tg R) E { s with heap:=s.heap.push { cls:=.type "range",data:=.fields #[.int lo t,.int hi u,.int 1 v] },toks:=tk }:=by
 refine wpAny_pyIter_range (IsRange.new ..) (small_one h1 h2 h3 h4) ?_
 have I1:Inv X pins σ H { s with heap:=s.heap.push { cls:=.type "range",data:=.fields #[.int lo t,.int hi u,.int 1 v] },toks:=tk }:=I.kept fun b o e=>Heap.get?_push_of_some _ e
 refine⟨(s.heap.push { cls:=.type "range",data:=.fields #[.int lo t,.int hi u,.int 1 v] }).objs.size,[(s.heap.push { cls:=.type "range",data:=.fields #[.int lo t,.int hi u,.int 1 v] }).objs.size],_,_,H,rfl,
  I1.kept (t':=tk) fun b o e=>Heap.get?_push_of_some _ e,turn_range _ lo (hi - lo).toNat,?_,fun b hb=>?_,q⟩
 ·have e1:lo+((0:Nat):Int)*1=lo:=by simp
  have e2:(((hi - lo).toNat:Nat):Int) - ((0:Nat):Int)=Builtin.Range.rangeSize lo hi 1:=by rw [rangeSize_one];split <;> lia
  show IsRangeIter _ _ (lo+((0:Nat):Int)*1) ((((hi - lo).toNat:Nat):Int) - ((0:Nat):Int)) 1
  rw [e1,e2]
  exact Heap.get?_push_size _ rfl
 ·have e:b=(s.heap.push { cls:=.type "range",data:=.fields #[.int lo t,.int hi u,.int 1 v] }).objs.size:=by simpa using hb
  subst e
  exact I1.fpOk (Nat.le_refl _) (I1.hok.fresh (Nat.le_refl _))
noncomputable def iRng1 (ta:TA):TI:=fun σ H R=>ta σ H fun vs H1=>∃ j:Int,vs=[.int j]∧-(2 ^ 62)≤j∧j<2 ^ 62∧R (Itr 0 j.toNat) H1
theorem pi_range1 {a:Expr} {ta:TA} {p pos:Pos} (hg:Gl X "range") (hm:X.mg "range"=none) (ha:PA X [a] ta) (hs:starEach [a] X.env=[(false,eval a X.env)]:=by rfl):PI X tg (.Call (.Name "range" p) [a] [] pos) (iRng1 ta):=by
 intro pins s σ H R I h
 refine Call_ (ld_blt I hg hm boot_range (PyProof.Rows.callWith_type1 (thn (ha pos pins s σ H _ I h) fun us s1 ⟨vs,H1,I1,r1,q1⟩=>?_) hs rfl))
 obtain ⟨j,e,q1,q2,q⟩:=q1
 subst e
 cases r1 with
 | cons r rr =>
  cases rr
  obtain ⟨t,rfl⟩:=r
  exact call_range_1 (range_it I1 (by lia) (by lia) q1 q2 (by simpa using q))
noncomputable def tFor (wi:TI) (g:TG) (tb:TS):TS:=fun D σ H=>wi σ H fun J H1=>∃ W:Nat→Nat→St→Hp→Prop,(∃ m,W 0 m σ H1)∧∀ i m σ H,W i m σ H →
 (J.stop i H∧D.nx σ H)∨(J.go i H∧∃ N:St→Hp→Prop,(∀ σ' H',N σ' H'→∃ m',m'<m∧W (i+1) m' σ' H')∧∀ x H',J.yld i H x H'→g x σ H' fun σ2 H2=>tb { D with nx:=N,ct:=N,bk:=D.nx } σ2 H2)
noncomputable def pinsAt (fp:List Addr) (h:Heap):List (Addr×Obj):=fp.filterMap fun b=>(h.get? b).map fun o=>(b,o)
theorem mem_pinsAt {fp:List Addr} {h:Heap} {b:Addr} {o:Obj} (hb:b∈fp) (e:h.get? b=some o):(b,o)∈pinsAt fp h:=List.mem_filterMap.mpr ⟨b,hb,by rw [e];rfl⟩
theorem of_pinsAt {fp:List Addr} {h:Heap} {p:Addr×Obj} (hp:p∈pinsAt fp h):p.1∈fp∧h.get? p.1=some p.2:=by
 obtain ⟨b,hb,e⟩:=List.mem_filterMap.mp hp
 cases q:h.get? b with
 | none=>rw [q] at e;cases e
 | some o =>
  rw [q] at e
  have e':(b,o)=p:=Option.some.inj e
  subst e'
  exact⟨hb,q⟩
theorem Inv.pinned {pins:List (Addr×Obj)} {σ:St} {H:Hp} {s:Shared} {fp:List Addr} (I:Inv X pins σ H s) (hf:∀ b∈fp,FpOk X pins H b) (ho:∀ b∈fp,∃ o,s.heap.get? b=some o∧∀ v,o.data≠.cell v):Inv X (pins++pinsAt fp s.heap) σ H s :=
 I.pins_of fun p hp=>(List.mem_append.mp hp).elim (fun z=>I.pin p (List.mem_append_right _ z)) fun z=>by
  obtain ⟨hb,e⟩:=of_pinsAt z
  obtain ⟨f0,f1,f2,_⟩:=hf p.1 hb
  obtain ⟨o,e',d⟩:=ho p.1 hb
  rw [e] at e';cases e'
  exact⟨e,f0,f1,f2,d⟩
theorem Inv.unpinned {pins pl:List (Addr×Obj)} {σ:St} {H:Hp} {s:Shared} (I:Inv X (pins++pl) σ H s):Inv X pins σ H s:=I.pins_of fun p hp=>I.pin p (List.mem_append_right _ (List.mem_append_left _ hp))
theorem ps_for {iter:Expr} {body:List Stmt} {wi:TI} {g:TG} {tb:TS} {pos:Pos} (hp:PassesOwn (model X.prog X.w) X.A X.env X.xe) (hc:X.calm=true) (hi:PI X tg iter wi) (hg:PG X tg g) (hb:PSs X body tb)
  (hs:∀ x,foldedSetIterable iter X.env x=pure x:=by intro _;rfl):PS X (.For tg iter body [] pos) (tFor wi g tb):=by
 intro pins s σ H D I h
 refine wpAny_For (thn (hi pins s σ H _ I h) fun v s1 h1=>thn h1 fun itv s2 h2=>?_) hs
 obtain ⟨it,fp,tn,J,H2,e,I2,T,st2,f2,W,⟨m0,w0⟩,turn⟩:=h2
 subst e
 have stat:∀ {H':Hp},(∀ b∈fp,H' b=none)→∀ b∈fp,FpOk X pins H' b:=fun hn b hb=>⟨hn b hb,(f2 b hb).2⟩
 refine codeAny_forLoop_any (fun n s'=>∃ i σ' H',Inv X pins σ' H' s'∧tn i s'.heap∧(∀ b∈fp,H' b=none)∧W i n σ' H') ?_ m0 ⟨0,σ,H2,I2,st2,fun b hb=>(f2 b hb).1,w0⟩
 rintro n s3 ⟨i,σ3,H3,I3,st3,fr3,w3⟩
 rcases turn i n σ3 H3 w3 with ⟨stop,qn⟩|⟨go,N,hN,step⟩
 ·refine wpAny_passesOwn hp (thn (T.done X rfl rfl rfl hc i pins s3 σ3 H3 X.xe I3 (stat fr3) st3 stop) fun r s4 ⟨hr,I4⟩=>?_)
  subst hr
  exact wpAny_execs_nil ⟨σ3,H3,I4,qn⟩
 ·refine wpAny_passesOwn hp (thn (T.item X rfl rfl rfl hc i pins s3 σ3 H3 X.xe I3 (stat fr3) st3 go) fun r s4 ⟨u,hr,h4⟩=>?_)
  subst hr
  refine wpAny_passesOwn hp (thn h4 fun _ s5 ⟨x,H5,I5,r5,y5,st5,fr5⟩=>?_)
  have I5':=I5.pinned (stat fr5) (T.obj _ _ st5)
  refine wpAny_passesOwn hp (thn (hg _ s5 σ3 H5 x u _ I5' r5 (step x H5 y5)) fun _ s6 ⟨σ6,H6,I6,q6⟩=>?_)
  refine wpAny_passesOwn hp (thn (hb _ s6 σ6 H6 _ I6 q6) fun f s7 q7=>?_)
  have again:∀ {σ7:St} {H7:Hp},Inv X (pins++pinsAt fp s5.heap) σ7 H7 s7→N σ7 H7→∃ m,m<n∧∃ i σ' H',Inv X pins σ' H' s7∧tn i s7.heap∧(∀ b∈fp,H' b=none)∧W i m σ' H':=fun {σ7 H7} I7 n7=>by
   obtain ⟨m',hm,w7⟩:=hN σ7 H7 n7
   refine⟨m',hm,i+1,σ7,H7,I7.unpinned,T.keep _ _ _ st5 fun b hb o e=>(I7.pin (b,o) (List.mem_append_right _ (List.mem_append_right _ (mem_pinsAt hb e)))).1,fun b hb=>?_,w7⟩
   obtain ⟨o,e,d⟩:=T.obj _ _ st5 b hb
   exact (I7.pin (b,o) (List.mem_append_right _ (List.mem_append_right _ (mem_pinsAt hb e)))).2.1
  cases f with
  | next=>obtain ⟨σ7,H7,I7,n7⟩:=q7;exact again I7 n7
  | cont=>obtain ⟨σ7,H7,I7,n7⟩:=q7;exact again I7 n7
  | brk=>obtain ⟨σ7,H7,I7,q7⟩:=q7;exact⟨σ7,H7,I7.unpinned,q7⟩
  | ret v=>obtain ⟨x7,σ7,H7,I7,r7,q7⟩:=q7;exact⟨x7,σ7,H7,I7.unpinned,r7,q7⟩
end
theorem for_range {lo:Int} {n:Nat} {g:TG} {tb:TS} {D:Ends} {σ:St} {H:Hp} (Pv:Nat→St→Hp→Prop) (h0:Pv 0 σ H)
  (hs:∀ i σ H,i<n→Pv i σ H→g (.int (lo+i)) σ H fun σ2 H2=>tb { D with nx:=Pv (i+1),ct:=Pv (i+1),bk:=D.nx } σ2 H2) (hd:∀ σ H,Pv n σ H→D.nx σ H) :
  ∃ W:Nat→Nat→St→Hp→Prop,(∃ m,W 0 m σ H)∧∀ i m σ H,W i m σ H →
   ((Itr lo n).stop i H∧D.nx σ H)∨((Itr lo n).go i H∧∃ N:St→Hp→Prop,(∀ σ' H',N σ' H'→∃ m',m'<m∧W (i+1) m' σ' H')∧∀ x H',(Itr lo n).yld i H x H'→g x σ H' fun σ2 H2=>tb { D with nx:=N,ct:=N,bk:=D.nx } σ2 H2):=by
 refine⟨fun i m σ H=>m=n - i∧i≤n∧Pv i σ H,⟨n,by simp,Nat.zero_le _,h0⟩,?_⟩
 rintro i m σ H ⟨rfl,hi,p⟩
 by_cases hlt:i<n
 ·refine .inr ⟨hlt,Pv (i+1),fun σ' H' p'=>⟨n - (i+1),by lia,rfl,hlt,p'⟩,fun x H' y=>?_⟩
  obtain ⟨e,y⟩:=y
  subst e y
  exact hs i σ _ hlt p
 ·have e:i=n:=by lia
  subst e
  exact .inl ⟨Nat.le_refl _,hd σ H p⟩
end L2
namespace L2
open PySem PySem.Spec PyProof.Rows
noncomputable abbrev R2:=V→V→Hp→VK→Prop
noncomputable def OpR (X:Cx) (f:Value→Value→Sem Value) (r:R2):Prop :=
 ∀ (pins:List (Addr×Obj)) (s:Shared) (σ:St) (H:Hp) (x y:V) (v u:Value) (Q:VK),Inv X pins σ H s→RelV x v→RelV y u→r x y H Q →
  wpAny (model X.prog X.w) X.A (f v u) (EP X pins σ Q) X.xe s
noncomputable def UnR (X:Cx) (f:Value→Sem Value) (r:V→Hp→VK→Prop):Prop :=
 ∀ (pins:List (Addr×Obj)) (s:Shared) (σ:St) (H:Hp) (x:V) (v:Value) (Q:VK),Inv X pins σ H s→RelV x v→r x H Q →
  wpAny (model X.prog X.w) X.A (f v) (EP X pins σ Q) X.xe s
noncomputable def CallR (X:Cx) (f:Value) (r:List V→Hp→VK→Prop):Prop :=
 ∀ (pins:List (Addr×Obj)) (s:Shared) (σ:St) (H:Hp) (xs:List V) (us:List Value) (Q:VK),Inv X pins σ H s→Vals xs us→r xs H Q →
  wpAny (model X.prog X.w) X.A (call f us) (EP X pins σ Q) X.xe s
noncomputable def tOp (r:R2) (ta tb:TE):TE:=fun σ H Q=>ta σ H fun x H1=>tb σ H1 fun y H2=>r x y H2 Q
noncomputable def tUn (r:V→Hp→VK→Prop) (ta:TE):TE:=fun σ H Q=>ta σ H fun x H1=>r x H1 Q
noncomputable def rI (C:Int→Int→Prop) (g:Int→Int→V):R2:=fun x y H Q=>∃ i j,x=.int i∧y=.int j∧C i j∧Q (g i j) H
noncomputable def rI0 (g:Int→Int→V):R2:=fun x y H Q=>∃ i j,x=.int i∧y=.int j∧Q (g i j) H
noncomputable def rU (g:Int→V):V→Hp→VK→Prop:=fun x H Q=>∃ i,x=.int i∧Q (g i) H
section
variable {X:Cx} {a b c:Expr} {ta tb tc:TE} {pos:Pos}
theorem binT (ha:PE X a ta) (hb:PE X b tb) {pins:List (Addr×Obj)} {s:Shared} {σ:St} {H:Hp} {R:V→V→Hp→Prop} (I:Inv X pins σ H s)
  (h:ta σ H fun x H1=>tb σ H1 fun y H2=>R x y H2) {Q:Value→Shared→Prop} {f:Value→Value→Sem Value}
  (hf:∀ v u s2 x y H2,Inv X pins σ H2 s2→RelV x v→RelV y u→R x y H2→wpAny (model X.prog X.w) X.A (f v u) Q X.xe s2) :
  wpAny (model X.prog X.w) X.A (eval a X.env) (fun v s₁=>wpAny (model X.prog X.w) X.A (eval b X.env) (fun u s₂=>wpAny (model X.prog X.w) X.A (f v u) Q X.xe s₂) X.xe s₁) X.xe s:=by
 refine thn (ha pins s σ H _ I h) fun v s1 ⟨x,H1,I1,r1,q1⟩=>?_
 refine thn (hb pins s1 σ H1 _ I1 q1) fun u s2 ⟨y,H2,I2,r2,q2⟩=>?_
 exact hf v u s2 x y H2 I2 r1 r2 q2
theorem pe_op {op:Operator} {r:R2} (ho:OpR X (binaryOp op) r) (ha:PE X a ta) (hb:PE X b tb):PE X (.BinOp a op b pos) (tOp r ta tb):=by
 intro pins s σ H Q I h
 exact wpAny_BinOp (binT ha hb I h fun v u s2 x y H2 I2 rx ry q=>ho pins s2 σ H2 x y v u Q I2 rx ry q)
theorem pe_un {op:UnaryOp} {r:V→Hp→VK→Prop} (ho:UnR X (unaryOp op) r) (ha:PE X a ta):PE X (.UnaryOp op a pos) (tUn r ta):=by
 intro pins s σ H Q I h
 exact UnaryOp_ (thn (ha pins s σ H _ I h) fun v s1 ⟨x,H1,I1,r1,q1⟩=>ho pins s1 σ H1 x v Q I1 r1 q1)
theorem opI {f:Value→Value→Sem Value} {C:Int→Int→Prop} {g:Int→Int→Int}
  (rule:∀ (i j:Int) (t u:Tok) (s:Shared) (Q:Value→Shared→Prop) (E:Value→Shared→Prop),C i j→Q (.int (g i j) s.toks) { s with toks:=s.toks+1 }→wpAny (model X.prog X.w) X.A (f (.int i t) (.int j u)) Q E s) :
  OpR X f (rI C fun i j=>.int (g i j)):=by
 intro pins s σ H x y v u Q I rx ry h
 obtain ⟨i,j,rfl,rfl,hc,q⟩:=h
 obtain ⟨t,rfl⟩:=rx
 obtain ⟨t',rfl⟩:=ry
 exact rule i j t t' s _ _ hc ⟨.int (g i j),H,I.tok _,⟨_,rfl⟩,q⟩
theorem opI0 {f:Value→Value→Sem Value} {g:Int→Int→Int}
  (rule:∀ (i j:Int) (t u:Tok) (s:Shared) (Q:Value→Shared→Prop) (E:Value→Shared→Prop),Q (.int (g i j) s.toks) { s with toks:=s.toks+1 }→wpAny (model X.prog X.w) X.A (f (.int i t) (.int j u)) Q E s) :
  OpR X f (rI0 fun i j=>.int (g i j)):=by
 intro pins s σ H x y v u Q I rx ry h
 obtain ⟨i,j,rfl,rfl,q⟩:=h
 obtain ⟨t,rfl⟩:=rx
 obtain ⟨t',rfl⟩:=ry
 exact rule i j t t' s _ _ ⟨.int (g i j),H,I.tok _,⟨_,rfl⟩,q⟩
theorem opB0 {f:Value→Value→Sem Value} {g:Int→Int→Bool}
  (rule:∀ (i j:Int) (t u:Tok) (s:Shared) (Q:Value→Shared→Prop) (E:Value→Shared→Prop),Q (.bool (g i j)) s→wpAny (model X.prog X.w) X.A (f (.int i t) (.int j u)) Q E s) :
  OpR X f (rI0 fun i j=>.bl (g i j)):=by
 intro pins s σ H x y v u Q I rx ry h
 obtain ⟨i,j,rfl,rfl,q⟩:=h
 obtain ⟨t,rfl⟩:=rx
 obtain ⟨t',rfl⟩:=ry
 exact rule i j t t' s _ _ ⟨.bl (g i j),H,I,rfl,q⟩
noncomputable def CDiv (i j:Int):Prop:=0<j∧j<1073741824
noncomputable def CPow (i j:Int):Prop:=0≤j∧j≤1000000∧i.natAbs<2 ^ 64
noncomputable def CMul (i j:Int):Prop:=(-(2 ^ 64)<i∧i<2 ^ 64)∨(-(2 ^ 64)<j∧j<2 ^ 64)
theorem CMul.ok {i j:Int} (h:CMul i j):IntMulOk i j:=by
 rcases h with ⟨h1,h2⟩|⟨h1,h2⟩
 ·exact .of_left (intBits_le_64 h1 h2)
 ·exact .of_right (intBits_le_64 h1 h2)
theorem op_add:OpR X (binaryOp .Add) (rI0 fun i j=>.int (i+j)):=opI0 fun _ _ _ _ _ _ _ q=>add_int q
theorem op_sub:OpR X (binaryOp .Sub) (rI0 fun i j=>.int (i - j)):=opI0 fun _ _ _ _ _ _ _ q=>sub_int q
theorem op_mul:OpR X (binaryOp .Mult) (rI CMul fun i j=>.int (i*j)):=opI fun _ _ _ _ _ _ _ hc q=>mul_int q hc.ok
theorem op_fdiv:OpR X (binaryOp .FloorDiv) (rI CDiv fun i j=>.int (i / j)):=opI fun i j _ _ _ _ _ hc q=>by
 have h1:(0:Int)<j:=hc.1
 have h2:j<1073741824:=hc.2
 exact floordiv_int (by lia) (by rw [Int.fdiv_eq_ediv_of_nonneg i (by lia)];exact q) (.inl (PyProof.noPylong_small (by lia)))
theorem op_mod:OpR X (binaryOp .Mod) (rI (fun _ j=>0<j) fun i j=>.int (i % j)):=opI fun i j _ _ _ _ _ hc q=>by
 have h1:(0:Int)<j:=hc
 exact mod_int' (by lia) (by rw [Int.fmod_eq_emod_of_nonneg i (by lia)];exact q)
theorem op_pow:OpR X (binaryOp .Pow) (rI CPow fun i j=>.int (i ^ j.toNat)):=opI fun _ _ _ _ _ _ _ hc q=>pow_int_small hc.1 hc.2.1 hc.2.2 q
theorem unI {f:Value→Sem Value} {g:Int→Int}
  (rule:∀ (i:Int) (t:Tok) (s:Shared) (Q:Value→Shared→Prop) (E:Value→Shared→Prop),Q (.int (g i) s.toks) { s with toks:=s.toks+1 }→wpAny (model X.prog X.w) X.A (f (.int i t)) Q E s) :
  UnR X f (rU fun i=>.int (g i)):=by
 intro pins s σ H x v Q I rx h
 obtain ⟨i,rfl,q⟩:=h
 obtain ⟨t,rfl⟩:=rx
 exact rule i t s _ _ ⟨.int (g i),H,I.tok _,⟨_,rfl⟩,q⟩
theorem un_neg:UnR X (unaryOp .USub) (rU fun i=>.int (-i)):=unI fun _ _ _ _ _ q=>neg_int q
end
noncomputable def scal:V→V→Bool
 | .non,.non=>true|.non,.int _=>true|.int _,.non=>true|.non,.bl _=>true|.bl _,.non=>true|.non,.str _=>true|.str _,.non=>true
 | .int _,.int _=>true|.bl _,.bl _=>true|.str _,.str _=>true|.byt _,.byt _=>true
 | .int _,.str _=>true|.str _,.int _=>true|.bl _,.str _=>true|.str _,.bl _=>true
 | _,_=>false
noncomputable def rEq:R2:=fun x y H Q=>scal x y=true∧Q (.bl (decide (x=y))) H
noncomputable def rNe:R2:=fun x y H Q=>scal x y=true∧Q (.bl (!decide (x=y))) H
theorem dec_int {i j:Int}:decide (V.int i=V.int j)=(i == j):=by
 rw [Bool.eq_iff_iff]
 simp
theorem dec_bl {i j:Bool}:decide (V.bl i=V.bl j)=(i == j):=by
 rw [Bool.eq_iff_iff]
 simp
theorem dec_str {i j:Str}:decide (V.str i=V.str j)=(i == j):=by
 rw [Bool.eq_iff_iff]
 simp
theorem dec_byt {i j:Array UInt8}:decide (V.byt i=V.byt j)=(i.toList == j.toList):=by
 rw [Bool.eq_iff_iff]
 cases i
 cases j
 simp
section
variable {X:Cx} {a b c:Expr} {ta tb tc:TE} {pos:Pos}
theorem fin_bl {pins:List (Addr×Obj)} {σ:St} {H:Hp} {s:Shared} {Q:VK} {k k':Bool} (I:Inv X pins σ H s) (q:Q (.bl k) H) (e:k=k'):EP X pins σ Q (.bool k') s:=by
 subst e
 exact⟨.bl k,H,I,rfl,q⟩
theorem op_eq:OpR X (compareOp .Eq) rEq:=by
 intro pins s σ H x y v u Q I rx ry h
 obtain ⟨hs,q⟩:=h
 cases x with
 | non =>
  cases rx
  cases y with
  | non=>cases ry;exact PySem.EqNone.eq_none_none (fin_bl I q (by simp))
  | bl j=>cases ry;exact PySem.EqNone.eq_none_bool (fin_bl I q (by simp))
  | int j=>obtain ⟨t',rfl⟩:=ry;exact PySem.EqNone.eq_none_int (fin_bl I q (by simp))
  | str j=>obtain ⟨t',rfl⟩:=ry;exact PySem.EqNone.eq_none_str (fin_bl I q (by simp))
  | _=>exact absurd (show false=true from hs) Bool.false_ne_true
 | bl i =>
  cases rx
  cases y with
  | non=>cases ry;exact PySem.EqNone.eq_bool_none (fin_bl I q (by simp))
  | bl j=>cases ry;exact eq_bool (fin_bl I q dec_bl)
  | str j=>obtain ⟨t',rfl⟩:=ry;exact PySem.EqMixed.eq_bool_str (fin_bl I q (by simp))
  | _=>exact absurd (show false=true from hs) Bool.false_ne_true
 | int i =>
  obtain ⟨t,rfl⟩:=rx
  cases y with
  | non=>cases ry;exact PySem.EqNone.eq_int_none (fin_bl I q (by simp))
  | int j=>obtain ⟨t',rfl⟩:=ry;exact eq_int (fin_bl I q dec_int)
  | str j=>obtain ⟨t',rfl⟩:=ry;exact PySem.EqMixed.eq_int_str (fin_bl I q (by simp))
  | _=>exact absurd (show false=true from hs) Bool.false_ne_true
 | str i =>
  obtain ⟨t,rfl⟩:=rx
  cases y with
  | non=>cases ry;exact PySem.EqNone.eq_str_none (fin_bl I q (by simp))
  | bl j=>cases ry;exact PySem.EqMixed.eq_str_bool (fin_bl I q (by simp))
  | int j=>obtain ⟨t',rfl⟩:=ry;exact PySem.EqMixed.eq_str_int (fin_bl I q (by simp))
  | str j=>obtain ⟨t',rfl⟩:=ry;exact eq_str (fin_bl I q dec_str)
  | _=>exact absurd (show false=true from hs) Bool.false_ne_true
 | byt i =>
  obtain ⟨t,rfl⟩:=rx
  cases y with
  | byt j=>obtain ⟨t',rfl⟩:=ry;exact PySem.W.eq_bytes (fin_bl I q dec_byt)
  | _=>exact absurd (show false=true from hs) Bool.false_ne_true
 | _=>cases y <;> exact absurd (show false=true from hs) Bool.false_ne_true
theorem op_ne:OpR X (compareOp .NotEq) rNe:=by
 intro pins s σ H x y v u Q I rx ry h
 obtain ⟨hs,q⟩:=h
 cases x with
 | non =>
  cases rx
  cases y with
  | non=>cases ry;exact PySem.EqNone.ne_none_none (fin_bl I q (by simp))
  | bl j=>cases ry;exact PySem.EqNone.ne_none_bool (fin_bl I q (by simp))
  | int j=>obtain ⟨t',rfl⟩:=ry;exact PySem.EqNone.ne_none_int (fin_bl I q (by simp))
  | str j=>obtain ⟨t',rfl⟩:=ry;exact PySem.EqNone.ne_none_str (fin_bl I q (by simp))
  | _=>exact absurd (show false=true from hs) Bool.false_ne_true
 | bl i =>
  cases rx
  cases y with
  | non=>cases ry;exact PySem.EqNone.ne_bool_none (fin_bl I q (by simp))
  | bl j=>cases ry;exact ne_bool (fin_bl I q (congrArg not dec_bl))
  | str j=>obtain ⟨t',rfl⟩:=ry;exact PySem.EqMixed.ne_bool_str (fin_bl I q (by simp))
  | _=>exact absurd (show false=true from hs) Bool.false_ne_true
 | int i =>
  obtain ⟨t,rfl⟩:=rx
  cases y with
  | non=>cases ry;exact PySem.EqNone.ne_int_none (fin_bl I q (by simp))
  | int j=>obtain ⟨t',rfl⟩:=ry;exact ne_int (fin_bl I q (congrArg not dec_int))
  | str j=>obtain ⟨t',rfl⟩:=ry;exact PySem.EqMixed.ne_int_str (fin_bl I q (by simp))
  | _=>exact absurd (show false=true from hs) Bool.false_ne_true
 | str i =>
  obtain ⟨t,rfl⟩:=rx
  cases y with
  | non=>cases ry;exact PySem.EqNone.ne_str_none (fin_bl I q (by simp))
  | bl j=>cases ry;exact PySem.EqMixed.ne_str_bool (fin_bl I q (by simp))
  | int j=>obtain ⟨t',rfl⟩:=ry;exact PySem.EqMixed.ne_str_int (fin_bl I q (by simp))
  | str j=>obtain ⟨t',rfl⟩:=ry;exact ne_str (fin_bl I q (congrArg not dec_str))
  | _=>exact absurd (show false=true from hs) Bool.false_ne_true
 | byt i =>
  obtain ⟨t,rfl⟩:=rx
  cases y with
  | byt j=>obtain ⟨t',rfl⟩:=ry;exact PySem.W.ne_bytes (fin_bl I q (congrArg not dec_byt))
  | _=>exact absurd (show false=true from hs) Bool.false_ne_true
 | _=>cases y <;> exact absurd (show false=true from hs) Bool.false_ne_true
theorem op_lt:OpR X (compareOp .Lt) (rI0 fun i j=>.bl (decide (i<j))):=opB0 fun _ _ _ _ _ _ _ q=>lt_int q
theorem op_gt:OpR X (compareOp .Gt) (rI0 fun i j=>.bl (decide (j<i))):=opB0 fun _ _ _ _ _ _ _ q=>gt_int q
theorem op_isN:OpR X (compareOp .Is) (fun x y H Q=>y=.non∧Q (.bl (decide (x=.non))) H):=by
 intro pins s σ H x y v u Q I rx ry h
 obtain ⟨rfl,q⟩:=h
 cases ry
 refine is_none_gen (fin_bl I q ?_)
 cases x <;> first
  | (cases rx;rfl)
  | (obtain ⟨t,rfl⟩:=rx;rfl)
theorem nomark (b:Expr) {op:CmpOp} (h:op≠.In:=by decide) (h2:op≠.NotIn:=by decide):behindInMarks op b=false:=by
 have e1:(op == CmpOp.In)=false:=by cases op <;> first|rfl|exact absurd rfl h
 have e2:(op == CmpOp.NotIn)=false:=by cases op <;> first|rfl|exact absurd rfl h2
 cases b <;> simp [behindInMarks,e1,e2]
theorem pe_cmpR {op:CmpOp} {r:R2} (ho:OpR X (compareOp op) r) (ha:PE X a ta) (hb:PE X b tb) (hm:behindInMarks op b=false):PE X (.Compare a [op] [b] pos) (tOp r ta tb):=by
 intro pins s σ H Q I h
 exact wpAny_Compare1 (binT ha hb I h fun v u s2 x y H2 I2 rx ry q=>ho pins s2 σ H2 x y v u Q I2 rx ry q) hm
noncomputable def tTest (t:TE):TT:=fun σ H Q=>t σ H fun x H'=>∃ k,x=.bl k∧Q k H'
theorem pt_cmpR {op:CmpOp} {r:R2} (ho:OpR X (compareOp op) r) (ha:PE X a ta) (hb:PE X b tb) (hm:behindInMarks op b=false):PT X (.Compare a [op] [b] pos) (tTest (tOp r ta tb)):=by
 intro pins s σ H Q I h
 refine wpAny_isTrue_Compare1 (thn (ha pins s σ H _ I h) fun v s1 ⟨x,H1,I1,r1,q1⟩=>thn (hb pins s1 σ H1 _ I1 q1) fun u s2 ⟨y,H2,I2,r2,q2⟩ =>
  thn (ho pins s2 σ H2 x y v u _ I2 r1 r2 q2) fun c s3 ⟨z,H3,I3,r3,k,e,q3⟩=>?_) hm
 subst e
 cases r3
 exact wpAny_truthy_bool ⟨H3,I3,q3⟩
theorem line63:(sizeLine:Nat)<2 ^ 63:=by rw [sizeLine_eq];decide
theorem op_add_str:OpR X (binaryOp .Add) (fun x y H Q=>∃ i j,x=.str i∧y=.str j∧i.length+j.length≤sizeLine∧Q (.str (i++j)) H):=by
 intro pins s σ H x y v u Q I rx ry h
 obtain ⟨i,j,rfl,rfl,hz,q⟩:=h
 obtain ⟨t,rfl⟩:=rx
 obtain ⟨t',rfl⟩:=ry
 exact add_str (fun t' tk=>⟨.str (i++j),H,I.tok _,⟨_,rfl⟩,q⟩) hz
theorem vals1 {x:V} {us:List Value} (r:Vals [x] us):∃ u,us=[u]∧RelV x u:=by
 cases r with
 | cons r1 r2=>cases r2;exact⟨_,rfl,r1⟩
theorem vals2 {x y:V} {us:List Value} (r:Vals [x,y] us):∃ u w',us=[u,w']∧RelV x u∧RelV y w':=by
 cases r with
 | cons r1 r2 =>
  cases r2 with
  | cons r3 r4=>cases r4;exact⟨_,_,rfl,r1,r3⟩
theorem call_abs:CallR X (.builtin "abs") (fun xs H Q=>∃ i,xs=[.int i]∧Q (.int (if i<0 then -i else i)) H):=by
 intro pins s σ H xs us Q I r h
 obtain ⟨i,rfl,q⟩:=h
 obtain ⟨u,rfl,t,rfl⟩:=vals1 r
 exact call_abs_int fun u tk=>⟨.int (if i<0 then -i else i),H,I.tok _,⟨_,rfl⟩,q⟩
theorem call_str_int:CallR X (.type "str") (fun xs H Q=>∃ i,xs=[.int i]∧i.natAbs.log2<1920∧Q (.str (toString i)) H):=by
 intro pins s σ H xs us Q I r h
 obtain ⟨i,rfl,hz,q⟩:=h
 obtain ⟨u,rfl,t,rfl⟩:=vals1 r
 exact PySem.P.str_of_int hz ⟨.str _,H,I.tok _,⟨_,rfl⟩,q⟩
end
end L2
namespace L2
open PySem PySem.Spec PyProof.Rows
structure ObjM (h:Heap) (x dx C:Addr) (mA:Str→Option Value):Prop where
 obj:h.get? x=some (PySem.W.instObj C dx)
 ns:h.Ns1 dx mA
 ne:dx≠x
theorem lookIn_ns {h:Heap} {dx:Addr} {mA:Str→Option Value} (n:h.Ns1 dx mA):∃ od,h.get? dx=some od∧∀ name,PySem.W.lookIn name od=some (mA name):=by
 obtain ⟨o,es,ep,ho,hd,hk,_,hm⟩:=n
 refine⟨o,ho,fun name=>?_⟩
 have e:=hm name
 unfold nsFind findBy at e
 rw [← Array.find?_toList] at e
 unfold PySem.W.lookIn
 rw [hd]
 dsimp only
 split
 ·rename_i y q
  rw [q] at e
  exact congrArg some e
 ·rename_i q
  rw [q] at e
  have a:es.toList.any (·.refKey)=false:=by
   rw [List.any_eq_false]
   intro y hy
   obtain ⟨z,t,hkey⟩:=hk y (Array.mem_toList_iff.mp hy)
   simp [DictEntry.refKey,hkey]
  have a':¬ es.toList.any (·.refKey)=true:=by rw [a];exact Bool.false_ne_true
  rw [if_neg a']
  exact congrArg some e
theorem ObjM.look {h:Heap} {x dx C:Addr} {mA:Str→Option Value} (I:ObjM h x dx C mA):∃ od,PySem.W.InstAt h x (PySem.W.instObj C dx) C (some od)∧∀ name,PySem.W.lookIn name od=some (mA name) :=
 let ⟨od,ho,hl⟩:=lookIn_ns I.ns
 ⟨od,⟨I.obj,rfl,rfl,ho⟩,hl⟩
section
variable {prog:Program} {w:World} {A:Around} {E:Value→Shared→Prop} {s:Shared} {K:PySem.W.Frag} {x dx C f:Addr} {mA:Str→Option Value} {name:Str} {v:Value}
theorem get_map {expr:Bool} {Q:Value→Shared→Prop} (X:K.In s.heap) (I:ObjM s.heap x dx C mA) (hg:PySem.W.plainGet K C name=true) (hh:PySem.W.hasDictIn K C=true)
  (ha:PySem.W.findIn K (.ref C) name=some none) (hv:mA name=some v) (hv':PySem.W.handedIn v=true) (h:Q v { s with toks:=s.toks+1 }) :
  wpAny (model prog w) A (getAttr (.ref x) name expr) Q E s:=by
 obtain ⟨od,J,hl⟩:=I.look
 exact PySem.W.get_value X J (PySem.W.plainGet_of hg).1 (PySem.W.findObj_own hh ha rfl (by rw [hl,hv])) hv' h
theorem get_meth {pl:Sem Bool} {Q:Value×List Value→Shared→Prop} (X:K.In s.heap) (I:ObjM s.heap x dx C mA) (hg:PySem.W.plainGet K C name=true)
  (hf:PySem.W.findIn K (.ref C) name=some (some (.ref f))) (ht:PySem.W.isFn K (.ref f)=true) (hv:mA name=none) (h:Q (.ref f,[.ref x]) s) :
  wpAny (model prog w) A (getMethod (.ref x) name pl) Q E s:=by
 obtain ⟨od,J,hl⟩:=I.look
 exact PySem.W.method_fn X J (PySem.W.plainGet_of hg).1 (PySem.W.plainGet_of hg).2 hf (beq_iff_eq.mp ht) (by show (PySem.W.lookIn name od).map (·.isSome)=some false;rw [hl,hv];rfl) h
theorem set_map {ns:List Str} {Q:Unit→Shared→Prop} (X:K.In s.heap) (I:ObjM s.heap x dx C mA)
  (hs:PySem.W.findIn K (.ref C) "__setattr__"=some (some (.builtin "object.__setattr__"))) (hp:PySem.W.plainOver K C=true) (ht:PySem.W.takerIn K C name=some none) (hh:PySem.W.hasDictIn K C=true)
  (hw:PySem.Within mA ns) (hsz:ns.length≤sizeLine)
  (h:∀ h',ObjM h' x dx C (fun y=>if y=name then some v else mA y)→Heap.SameBut dx s.heap h'→Q () { s with heap:=h',toks:=s.toks+2 }) :
  wpAny (model prog w) A (setAttr (.ref x) name v) Q E s:=by
 obtain ⟨od,J,hl⟩:=I.look
 refine PySem.W.set_plain X J hs (PySem.W.osa_open (s:={ s with toks:=s.toks+1 }) (r:=none) X J hp ht fun b=>?_)
 obtain ⟨cd,hc,hd'⟩:=PySem.W.any_some hh
 have hx:s.heap.get? x=some ⟨.ref C,some dx,.plain,#[]⟩:=I.obj
 refine wpAny_bind (wpAny_pure (wpAny_bind (wpAny_bind (wpAny_loadPart hx (wpAny_bind (PySem.W.Looks.here (s:={ s with toks:=s.toks+1 }) (PySem.W.looks_clsIn X hc) ?_))))))
 rw [hd']
 refine wpAny_pure (a:=some dx) (wpAny_bind (wpAny_pure (wpAny_bind ?_)))
 refine wpAny_nsSet1 (s:={ s with toks:=s.toks+1 }) I.ns fun h' hn2 hs2=>?_
 obtain ⟨oD,esD,epD,hoD,hdD,hcD⟩:=hn2.count (PySem.Within.cons name v hw)
 refine wpAny_bind (wpAny_lookBehind hoD (by rw [hdD];exact pastItsLine_dict (Nat.le_trans hcD (by rw [List.length_cons];lia))) ?_)
 exact wpAny_pure (h _ ⟨(hs2.2 _ (Ne.symm I.ne)).trans I.obj,hn2,I.ne⟩ hs2)
theorem make_map {R:Result→Shared→Prop} {vs:List Value} {kw:List (Str×Value)} (X:K.In s.heap) (hm:PySem.W.makesIn K C=true)
  (hi:PySem.W.findIn K (.ref C) "__init__"=some (some (.ref f))) (hf:PySem.W.typeIn K (.ref f)=some (.type "function"))
  (h:codeAny (model prog w) (A.under (.builtin "type.__call__" ⟨.ref C::vs,kw⟩)) (.call (.ref f) ⟨.ref (s.heap.objs.size+1)::vs,kw⟩) (PySem.W.InitBack (s.heap.objs.size+1) R)
   { s with heap:=(s.heap.push PySem.W.emptyDict).push (PySem.W.instObj C s.heap.objs.size) }) :
  codeAny (model prog w) A (.call (.ref C) ⟨vs,kw⟩) R s:=by
 obtain ⟨hh,g,d,t,os⟩:=s
 exact PySem.W.make_core (PySem.W.makes_of X hm) (PySem.W.looks_findIn X hi) (fun self=>PySem.W.bind_fn X self hf) (.inl rfl) h
theorem make_map0 {R:Result→Shared→Prop} (X:K.In s.heap) (hm:PySem.W.makesIn K C=true)
  (hi:PySem.W.findIn K (.ref C) "__init__"=some (some (.builtin "object.__init__")))
  (hb:∀ self,PySem.W.Looks (model prog w) s.heap (bindSpecial (.builtin "object.__init__") self) (.builtin "object.__init__",[self]))
  (h:codeAny (model prog w) (A.under (.builtin "type.__call__" ⟨[.ref C],[]⟩)) (.call (.builtin "object.__init__") ⟨[.ref (s.heap.objs.size+1)],[]⟩) (PySem.W.InitBack (s.heap.objs.size+1) R)
   { s with heap:=(s.heap.push PySem.W.emptyDict).push (PySem.W.instObj C s.heap.objs.size) }) :
  codeAny (model prog w) A (.call (.ref C) ⟨[],[]⟩) R s:=by
 obtain ⟨hh,g,d,t,os⟩:=s
 exact PySem.W.make_core (PySem.W.makes_of X hm) (PySem.W.looks_findIn X hi) hb (.inr ⟨rfl,rfl⟩) h
end
noncomputable def putF (f:Str) (v:V):List (Str×V)→List (Str×V)
 | []=>[(f,v)]
 | (g,x)::r=>if g=f then (g,v)::r else (g,x)::putF f v r
theorem lookup_putF (f g:Str) (v:V):∀ fs:List (Str×V),(putF f v fs).lookup g=if g=f then some v else fs.lookup g
 | []=>by
  show List.lookup g [(f,v)]=_
  by_cases h:g=f
  ·have hb:(g == f)=true:=beq_iff_eq.mpr h
   simp only [List.lookup,hb,if_pos h]
  ·have hb:(g == f)=false:=beq_eq_false_iff_ne.mpr h
   simp only [List.lookup,hb,if_neg h]
 | (k,x)::r=>by
  have ih:=lookup_putF f g v r
  rw [show putF f v ((k,x)::r)=(if k=f then (k,v)::r else (k,x)::putF f v r) from rfl]
  by_cases hk:k=f
  ·rw [if_pos hk]
   by_cases h:g=k
   ·have hb:(g == k)=true:=beq_iff_eq.mpr h
    simp only [List.lookup,hb,if_pos (h.trans hk)]
   ·have hb:(g == k)=false:=beq_eq_false_iff_ne.mpr h
    simp only [List.lookup,hb,if_neg (fun e:g=f=>h (e.trans hk.symm))]
  ·rw [if_neg hk]
   by_cases h:g=k
   ·have hb:(g == k)=true:=beq_iff_eq.mpr h
    simp only [List.lookup,hb,if_neg (fun e:g=f=>hk (h.symm.trans e))]
   ·have hb:(g == k)=false:=beq_eq_false_iff_ne.mpr h
    simp only [List.lookup,hb]
    exact ih
theorem keys_putF (f:Str) (v:V):∀ fs:List (Str×V),f∈(putF f v fs).map (·.1)∧∀ g,g∈fs.map (·.1)→g∈(putF f v fs).map (·.1)
 | []=>⟨by simp [putF],fun g h=>by simp at h⟩
 | (k,x)::r=>by
  obtain ⟨i1,i2⟩:=keys_putF f v r
  rw [show putF f v ((k,x)::r)=(if k=f then (k,v)::r else (k,x)::putF f v r) from rfl]
  by_cases hk:k=f
  ·rw [if_pos hk]
   subst hk
   exact⟨by simp,fun g h=>by simpa using h⟩
  ·rw [if_neg hk]
   refine⟨?_,fun g h=>?_⟩
   ·rw [List.map_cons]
    exact List.mem_cons_of_mem _ i1
   ·rw [List.map_cons] at h ⊢
    rcases List.mem_cons.mp h with e|e
    ·exact List.mem_cons.mpr (.inl e)
    ·exact List.mem_cons_of_mem _ (i2 g e)
theorem length_putF (f:Str) (v:V):∀ fs:List (Str×V),(putF f v fs).length≤fs.length+1
 | []=>by simp [putF]
 | (k,x)::r=>by
  have ih:=length_putF f v r
  rw [show putF f v ((k,x)::r)=(if k=f then (k,v)::r else (k,x)::putF f v r) from rfl]
  by_cases hk:k=f
  ·rw [if_pos hk,List.length_cons,List.length_cons];lia
  ·rw [if_neg hk,List.length_cons,List.length_cons];lia
theorem RelO.some_of {v:V} {o:Option Value} (r:RelO (some v) o):∃ u,o=some u∧RelV v u:=by
 cases o with
 | none=>exact (show False from r).elim
 | some u=>exact⟨u,rfl,r⟩
theorem RelO.none_of {o:Option Value} (r:RelO none o):o=none:=by
 cases o with
 | none=>rfl
 | some u=>exact (show False from r).elim
theorem handed_of {v:V} {u:Value} (r:RelV v u):PySem.W.handedIn u=true:=by
 cases v with
 | non=>cases (show u=Value.none from r);rfl
 | bl b=>cases (show u=Value.bool b from r);rfl
 | int i=>obtain ⟨t,e⟩:=(show ∃ t,u=Value.int i t from r);cases e;rfl
 | str x=>obtain ⟨t,e⟩:=(show ∃ t,u=Value.str x t from r);cases e;rfl
 | byt b=>obtain ⟨t,e⟩:=(show ∃ t,u=Value.bytes b t from r);cases e;rfl
 | flt b=>obtain ⟨t,e⟩:=(show ∃ t,u=Value.float b t from r);cases e;rfl
 | ref a=>cases (show u=Value.ref a from r);rfl
 | ty n=>cases (show u=Value.type n from r);rfl
section
variable {P:Program} {w:World} {H H':Hp} {h h':Heap} {a C dx:Addr} {fs fs':List (Str×V)}
theorem ins_get (hok:HOk P w H h) (e:H a=some (.ins C dx fs)):∃ mA,ObjM h a dx C mA∧(∀ f,RelO (fs.lookup f) (mA f))∧PySem.Within mA (fs.map (·.1))∧fs.length≤1000∧H dx=some (.own a):=by
 obtain ⟨d,z,ne,ob,mA,n,r,q⟩:=(show ObjOk P w H h a (.ins C dx fs) from hok a _ e)
 exact⟨mA,⟨ob,n,ne⟩,r,q,z,d⟩
end
structure Cls (K:PySem.W.Frag) (C:Addr):Prop where
 pg:PySem.W.plainGet K C Str.empty=true
 hd:PySem.W.hasDictIn K C=true
 po:PySem.W.plainOver K C=true
 sa:PySem.W.findIn K (.ref C) "__setattr__"=some (some (.builtin "object.__setattr__"))
theorem Cls.get {K:PySem.W.Frag} {C:Addr} (c:Cls K C) (f:Str):PySem.W.plainGet K C f=true:=c.pg
noncomputable def NoAttr (K:PySem.W.Frag) (C:Addr) (f:Str):Prop:=PySem.W.findIn K (.ref C) f=some none
theorem NoAttr.taker {K:PySem.W.Frag} {C:Addr} {f:Str} (n:NoAttr K C f):PySem.W.takerIn K C f=some none:=by
 unfold PySem.W.takerIn
 rw [show PySem.W.findIn K (.ref C) f=some none from n]
 rfl
structure Meth (K:PySem.W.Frag) (C:Addr) (m:Str) (f:Addr):Prop where
 at_:PySem.W.findIn K (.ref C) m=some (some (.ref f))
 fn:PySem.W.isFn K (.ref f)=true
 kp:PySem.W.keepIn K (.ref f)=true
section
variable {X:Cx} {pins:List (Addr×Obj)} {σ:St} {H:Hp} {s:Shared} {a C dx:Addr} {fs:List (Str×V)} {f:Str} {v:V} {A:Around} {E:Value→Shared→Prop}
theorem getattr_ok {b:Bool} {Q:Value→Shared→Prop} (I:Inv X pins σ H s) (e:H a=some (.ins C dx fs)) (c:Cls X.K C) (n:NoAttr X.K C f) (l:fs.lookup f=some v)
  (h:∀ u s',Inv X pins σ H s'→RelV v u→Q u s'):wpAny (model X.prog X.w) A (getAttr (.ref a) f b) Q E s:=by
 obtain ⟨mA,O,r,_,_,_⟩:=ins_get I.hok e
 obtain ⟨u,hu,ru⟩:=RelO.some_of (v:=v) (o:=mA f) (by rw [← l];exact r f)
 exact get_map I.kIn O (c.get f) c.hd n hu (handed_of ru) (h u _ (I.tok _) ru)
theorem getmeth_ok {m:Str} {g:Addr} {pl:Sem Bool} {Q:Value×List Value→Shared→Prop} (I:Inv X pins σ H s) (e:H a=some (.ins C dx fs)) (c:Cls X.K C) (k:Meth X.K C m g) (l:fs.lookup m=none)
  (h:Q (.ref g,[.ref a]) s):wpAny (model X.prog X.w) A (getMethod (.ref a) m pl) Q E s:=by
 obtain ⟨mA,O,r,_,_,_⟩:=ins_get I.hok e
 have hn:mA m=none:=RelO.none_of (by rw [← l];exact r m)
 exact get_meth I.kIn O (c.get m) k.at_ k.fn hn h
theorem setattr_ok {y:V} {u:Value} {Q:Unit→Shared→Prop} (I:Inv X pins σ H s) (e:H a=some (.ins C dx fs)) (c:Cls X.K C) (n:NoAttr X.K C f) (hl:fs.length<1000) (ry:RelV y u)
  (h:∀ s',Inv X pins σ (upd H a (.ins C dx (putF f y fs))) s'→Q () s'):wpAny (model X.prog X.w) A (setAttr (.ref a) f u) Q E s:=by
 obtain ⟨mA,O,r,wi,_,ho⟩:=ins_get I.hok e
 have hz:(fs.map (·.1)).length≤sizeLine:=by rw [List.length_map,sizeLine_eq];lia
 refine set_map I.kIn O c.sa c.po n.taker c.hd wi hz fun h' O' sb=>h _ ?_
 have hd:∃ o,h'.get? dx=some o:=let ⟨o,_,_,e',_⟩:=O'.ns;⟨o,e'⟩
 refine I.write (x:=a) (e:=dx) (by rw [e];exact True.intro) (.inr ho) (fun b q hb z=>(sb.2 b hb).trans z) hd ?_
 refine⟨by rw [upd_ne O.ne];exact ho,?_,O.ne,O'.obj,_,O'.ns,fun g=>?_,fun g hg=>?_⟩
 ·have:=length_putF f y fs;lia
 ·show RelO ((putF f y fs).lookup g) (if g=f then some u else mA g)
  rw [lookup_putF]
  by_cases q:g=f
  ·rw [if_pos q,if_pos q];exact ry
  ·rw [if_neg q,if_neg q];exact r g
 ·by_cases q:g=f
  ·rw [q];exact (keys_putF f y fs).1
  ·refine (keys_putF f y fs).2 g (wi g fun z=>hg ?_)
   show (if g=f then some u else mA g)=none
   rw [if_neg q];exact z
theorem Inv.made (I:Inv X pins σ H s):Inv X pins σ (upd (upd H s.heap.objs.size (.own (s.heap.objs.size+1))) (s.heap.objs.size+1) (.ins C s.heap.objs.size []))
  { s with heap:=(s.heap.push PySem.W.emptyDict).push (PySem.W.instObj C s.heap.objs.size) }:=by
 have e1:(s.heap.push PySem.W.emptyDict).get? s.heap.objs.size=some PySem.W.emptyDict:=Heap.get?_push_size s.heap rfl
 have e2:((s.heap.push PySem.W.emptyDict).push (PySem.W.instObj C s.heap.objs.size)).get? (s.heap.objs.size+1)=some (PySem.W.instObj C s.heap.objs.size):=by
  have:=Heap.get?_push_size (s.heap.push PySem.W.emptyDict) (o:=PySem.W.instObj C s.heap.objs.size) rfl
  rwa [Heap.size_push] at this
 have e3:(s.heap.push PySem.W.emptyDict).Ns s.heap.objs.size (fun _=>none):=⟨PySem.W.emptyDict,#[],_,e1,rfl,(fun e he=>absurd he (by simp)),fun _=>rfl⟩
 have I1:=I.laid (a:=s.heap.objs.size) (o:=.own (s.heap.objs.size+1)) (h':=s.heap.push PySem.W.emptyDict) (t':=s.toks) (fun b u q=>Heap.get?_push_of_some _ q) (Nat.le_refl _) ⟨_,e1⟩
 refine I1.laid (a:=s.heap.objs.size+1) (o:=.ins C s.heap.objs.size []) (t':=s.toks) (fun b u q=>Heap.get?_push_of_some _ q) (Nat.le_of_eq (Heap.size_push _ _)) ?_
 have ne:s.heap.objs.size≠s.heap.objs.size+1:=Nat.ne_of_lt (Nat.lt_succ_self _)
 refine⟨by rw [upd_ne ne,upd_same],Nat.zero_le _,ne,e2,fun _=>none,(Heap.Ns1.of_empty e3).at fun o q=>Heap.get?_push_of_some _ q,fun _=>True.intro,fun y hy=>absurd rfl hy⟩
theorem attr_of {prog:Program} {w:World} {env:Env} {e:Expr} {f:Str} {pos:Pos} {s:Shared} {Q:Value→Shared→Prop} (hb:attributeBase e f env (eval e env)=eval e env)
  (h:wpAny (model prog w) A (eval e env) (fun o s₁=>wpAny (model prog w) A (getAttr o f true) Q E s₁) E s):wpAny (model prog w) A (eval (.Attribute e f pos) env) Q E s :=
 Attribute_any_ h (by rw [arm_eval_Attribute,hb])
end
noncomputable def tFld (K:PySem.W.Frag) (ta:TE) (f:Str):TE:=fun σ H Q=>ta σ H fun x H1=>∃ a C dx fs v,x=.ref a∧H1 a=some (.ins C dx fs)∧Cls K C∧NoAttr K C f∧fs.lookup f=some v∧Q v H1
noncomputable def sFld (K:PySem.W.Frag) (ta tv:TE) (f:Str):TS:=fun D σ H=>tv σ H fun y H1=>ta σ H1 fun x H2=>∃ a C dx fs,x=.ref a∧H2 a=some (.ins C dx fs)∧Cls K C∧NoAttr K C f∧fs.length<1000 ∧
 D.nx σ (upd H2 a (.ins C dx (putF f y fs)))
section
variable {X:Cx} {o e value:Expr} {f:Str} {pos pos' tpos:Pos} {ta tv:TE}
theorem pe_fld (he:PE X e ta) (hb:attributeBase e f X.env (eval e X.env)=eval e X.env):PE X (.Attribute e f pos) (tFld X.K ta f):=by
 intro pins s σ H Q I h
 refine attr_of hb (thn (he pins s σ H _ I h) fun u s1 ⟨x,H1,I1,rx,a,C,dx,fs,v,ex,ea,c,n,l,q⟩=>?_)
 subst ex
 obtain rfl:u=Value.ref a:=rx
 exact getattr_ok I1 ea c n l fun u' s2 I2 ru=>⟨v,H1,I2,ru,q⟩
theorem ps_fld (ha:PE X o ta) (hv:PE X value tv) (hs:swapsWith value (some (.Attribute o f pos')) pos.line X.env=pure false):PS X (.Assign [.Attribute o f pos'] value pos) (sFld X.K ta tv f):=by
 intro pins s σ H D I h
 refine plainObj_wpAny_Assign_Attribute (thn (hv pins s σ H _ I h) fun u s1 ⟨y,H1,I1,ry,q⟩=>thn (ha pins s1 σ H1 _ I1 q) fun ov s2 ⟨x,H2,I2,rx,a,C,dx,fs,ex,ea,c,n,l,q2⟩=>?_) hs
 subst ex
 obtain rfl:ov=Value.ref a:=rx
 exact setattr_ok I2 ea c n l ry fun s3 I3=>⟨σ,_,I3,q2⟩
theorem methcall_of {pl:Sem Bool} {m:Str} {apos:Pos} {args:List Expr} {pins:List (Addr×Obj)} {s:Shared} {σ:St} {H:Hp} {Q:Value→Shared→Prop} {te:TE} (he:PE X e te) (I:Inv X pins σ H s)
  (h:te σ H fun x H1=>∃ a C dx fs g,x=.ref a∧H1 a=some (.ins C dx fs)∧Cls X.K C∧Meth X.K C m g∧fs.lookup m=none ∧
   ∀ s1,Inv X pins σ H1 s1→wpAny (model X.prog X.w) X.A (callWith pos (.ref g) [.ref a] (backTo pos (starEach args X.env)) (backToKw pos (keywordEach [] X.env))) Q X.xe s1)
  (ht:eval (.Call (.Attribute e m apos) args [] pos) X.env=(do
   let ov ← eval e X.env
   standAt apos.atName
   let (f,first) ← holding [ov] (getMethod ov m pl)
   callWith pos f first (backTo pos (starEach args X.env)) (backToKw pos (keywordEach [] X.env)))) :
  wpAny (model X.prog X.w) X.A (eval (.Call (.Attribute e m apos) args [] pos) X.env) Q X.xe s:=by
 refine PySem.W.methodCall_KW (pl:=pl) (thn (he pins s σ H _ I h) fun u s1 ⟨x,H1,I1,rx,a,C,dx,fs,g,ex,ea,c,k,l,q⟩=>?_) ht
 subst ex
 obtain rfl:u=Value.ref a:=rx
 exact getmeth_ok I1 ea c k l (q s1 I1)
end
section
variable {X:Cx} {pins:List (Addr×Obj)} {σ:St} {H:Hp} {s:Shared} {A:Around} {E:Value→Shared→Prop} {Q:Value→Shared→Prop} {c:Value} {b:Bool}
inductive TyOf (K:PySem.W.Frag) (H:Hp):V→Value→Prop where
 | non:TyOf K H .non (.type "NoneType")
 | bl (x:Bool):TyOf K H (.bl x) (.type "bool")
 | int (i:Int):TyOf K H (.int i) (.type "int")
 | str (x:Str):TyOf K H (.str x) (.type "str")
 | flt (x:UInt64):TyOf K H (.flt x) (.type "float")
 | lst {a:Addr} {xs:List V} (e:H a=some (.lst xs)):TyOf K H (.ref a) (.type "list")
 | frz {a:Addr} {o:Obj} {xs:List V} (e:H a=some (.frz o (.lst xs))):TyOf K H (.ref a) (.type "list")
 | tup {a:Addr} {xs:List V} (e:H a=some (.tup xs)):TyOf K H (.ref a) (.type "tuple")
 | dK {a:Addr} {kvs:List (Key×V)} (e:H a=some (.dK kvs)):TyOf K H (.ref a) (.type "dict")
 | dT {a:Addr} {kvs:List (List Key×V)} (e:H a=some (.dT kvs)):TyOf K H (.ref a) (.type "dict")
 | ins {a C dx:Addr} {fs:List (Str×V)} (e:H a=some (.ins C dx fs)) (cl:Cls K C) (ha:PySem.W.findIn K (.ref C) "__class__"=some (some (.builtin "object.__class__")))
   (hn:PySem.W.specialIn K (.builtin "object.__class__") "__get__"=some (some (.builtin "getset_descriptor.__get__"))) (htk:PySem.W.takesIn K (.builtin "object.__class__")=some true)
   (hm:PySem.W.mroIn K C (.type "object")=some true):TyOf K H (.ref a) (.ref C)
theorem isinst_ok {x:V} {u t:Value} (I:Inv X pins σ H s) (rx:RelV x u) (ty:TyOf X.K H x t) (e:PySem.W.kitOne X.K t c=some b) (h:∀ tk,Q (.bool b) { s with toks:=tk }) :
  wpAny (model X.prog X.w) A (call (.builtin "isinstance") [u,c]) Q E s:=by
 cases ty with
 | non=>cases (show u=Value.none from rx);exact PySem.W.kia_one PySem.W.kitx_none I.kIn True.intro e (fun z=>nomatch z) h
 | bl y=>cases (show u=Value.bool y from rx);exact PySem.W.kia_one PySem.W.kitx_bool I.kIn True.intro e (fun z=>nomatch z) h
 | int i=>obtain ⟨t,q⟩:=(show ∃ t,u=Value.int i t from rx);cases q;exact PySem.W.kia_one PySem.W.kitx_int I.kIn True.intro e (fun z=>nomatch z) h
 | str y=>obtain ⟨t,q⟩:=(show ∃ t,u=Value.str y t from rx);cases q;exact PySem.W.kia_one PySem.W.kitx_str I.kIn True.intro e (fun z=>nomatch z) h
 | flt y=>obtain ⟨t,q⟩:=(show ∃ t,u=Value.float y t from rx);cases q;exact PySem.W.kia_one PySem.W.kitx_float I.kIn True.intro e (fun z=>nomatch z) h
 | @lst a xs ea =>
  cases (show u=Value.ref a from rx)
  obtain ⟨_,_,n,_,h1⟩:=(show ObjOk X.prog X.w H s.heap a (.lst xs) from I.hok a _ ea)
  exact PySem.W.kia_one PySem.W.kitx_list I.kIn ⟨_,h1,rfl⟩ e (fun z=>nomatch z) h
 | @frz a ob xs ea =>
  cases (show u=Value.ref a from rx)
  obtain ⟨_,_,_,n,_,h1⟩:=(show ObjOk X.prog X.w H s.heap a (.frz ob (.lst xs)) from I.hok a _ ea)
  exact PySem.W.kia_one PySem.W.kitx_list I.kIn ⟨_,h1,rfl⟩ e (fun z=>nomatch z) h
 | @tup a xs ea =>
  cases (show u=Value.ref a from rx)
  obtain ⟨_,_,_,p⟩:=(show ObjOk X.prog X.w H s.heap a (.tup xs) from I.hok a _ ea)
  obtain ⟨o,h1,h2,_⟩:=p
  exact PySem.W.kia_one PySem.W.kitx_tuple I.kIn ⟨o,h1,h2⟩ e (fun z=>nomatch z) h
 | @dK a kvs ea =>
  cases (show u=Value.ref a from rx)
  obtain ⟨_,_,vs,_,p⟩:=(show ObjOk X.prog X.w H s.heap a (.dK kvs) from I.hok a _ ea)
  obtain ⟨o,es,ep,h1,h2,_⟩:=p
  exact PySem.W.kia_one PySem.W.kitx_dict I.kIn ⟨o,h1,h2.1⟩ e (fun z=>nomatch z) h
 | @dT a kvs ea =>
  cases (show u=Value.ref a from rx)
  obtain ⟨_,_,xs,_,o,es,ep,h1,h2,_⟩:=(show ObjOk X.prog X.w H s.heap a (.dT kvs) from I.hok a _ ea)
  exact PySem.W.kia_one PySem.W.kitx_dict I.kIn ⟨o,h1,h2.1⟩ e (fun z=>nomatch z) h
 | @ins a C dx fs ea cl ha hn htk hm =>
  cases (show u=Value.ref a from rx)
  obtain ⟨mA,O,_⟩:=ins_get I.hok ea
  obtain ⟨od,J,_⟩:=O.look
  exact PySem.W.kia_one (PySem.W.kitx_own (cl.get _) cl.hd ha hn htk hm) I.kIn J e (fun z=>nomatch z) h
end
end L2
namespace L2
open PySem PySem.Spec PyProof.Rows
structure Room (k:Nat) (A:Around):Prop where
 hd:A.handled=none
 dp:A.depth+3*k+5<recursionLimit
 un:A.units+16*k+200<cLine
theorem Room.mono {j k:Nat} {A:Around} (r:Room k A) (h:j≤k):Room j A:=⟨r.hd,by have:=r.dp;lia,by have:=r.un;lia⟩
theorem Room.deeper {k:Nat} {A:Around} (r:Room (k+1) A) (env:Env):Room k (A.deeper env) :=
 ⟨r.hd,by have:=r.dp;show A.depth+1+3*k+5<_;lia,by have:=r.un;show A.units+3+16*k+200<_;lia⟩
theorem Room.in1 {k:Nat} {A:Around} (r:Room (k+1) A):Room k A.in1 :=
 ⟨r.hd,by have:=r.dp;show A.depth+3*k+5<_;lia,by have:=r.un;show A.units+1+16*k+200<_;lia⟩
theorem make_depth {A:Around} {C:Addr} {us:List Value} {kw:List (Str×Value)}:(A.under (.builtin "type.__call__" ⟨.ref C::us,kw⟩)).depth=A.depth+1:=by
 first|rfl|simp [Around.under,Code.weight,Code.isCreation,Code.isGuard,Code.isCaller,Code.frames,Code.isFrame,guardIds]
theorem make_units {A:Around} {C:Addr} {us:List Value} {kw:List (Str×Value)}:(A.under (.builtin "type.__call__" ⟨.ref C::us,kw⟩)).units=A.units+1:=by
 first|rfl|simp [Around.under,Code.cUnits,Code.frames,Code.isFrame]
theorem Room.make {k:Nat} {A:Around} (r:Room (k+1) A) (C:Addr) (us:List Value) (kw:List (Str×Value)):Room k (A.under (.builtin "type.__call__" ⟨.ref C::us,kw⟩)) :=
 ⟨r.hd,by have:=r.dp;rw [make_depth];lia,by have:=r.un;rw [make_units];lia⟩
theorem Room.depth {k:Nat} {A:Around} (r:Room k A):A.depth<recursionLimit:=by have:=r.dp;lia
theorem Room.units {k:Nat} {A:Around} (r:Room k A):A.units+64<cLine:=by have:=r.un;lia
noncomputable def tNil:TA:=fun _ H Q=>Q [] H
noncomputable def tCons (ta:TE) (tr:TA):TA:=fun σ H Q=>ta σ H fun x H1=>tr σ H1 fun xs H2=>Q (x::xs) H2
section
variable {X:Cx} {e:Expr} {es:List Expr} {te:TE} {t:TA} {pos:Pos}
theorem pa_nil:PA X [] tNil:=fun _ _ _ _ H Q I h=>Calls.spliced_nil ⟨[],H,I,.nil,h⟩
theorem pa_cons (ha:PE X e te) (hr:PA X es t) (hs:starEach (e::es) X.env=(false,eval e X.env)::starEach es X.env:=by rfl):PA X (e::es) (tCons te t):=by
 intro pos pins s σ H Q I h
 rw [hs]
 show wpAny _ _ (spliced ((false,eval e X.env)::backTo pos (starEach es X.env))) _ _ s
 refine Calls.spliced_cons (thn (ha pins s σ H _ I h) fun u s1 ⟨x,H1,I1,r1,q1⟩=>?_)
 exact thn (hr pos pins s1 σ H1 _ I1 q1) fun us s2 ⟨xs,H2,I2,r2,q2⟩=>⟨x::xs,H2,I2,.cons r1 r2,q2⟩
noncomputable def tTup (t:TA):TE:=fun σ H Q=>t σ H fun xs H1=>xs.length≤sizeLine∧∀ p,H1 p=none→Q (.ref p) (upd H1 p (.tup xs))
noncomputable def tLst (t:TA):TE:=fun σ H Q=>t σ H fun xs H1=>xs.length≤sizeLine∧∀ p,H1 p=none→Q (.ref p) (upd H1 p (.lst xs))
theorem pe_tup {x1} (h:PA X es t):PE X (.Tuple es x1 pos) (tTup t):=by
 intro pins s σ H Q I hq
 refine wpAny_Tuple_spliced (thn (h pos pins s σ H _ I hq) fun us s1 ⟨xs,H1,I1,r,z,q⟩=>⟨by rw [← r.length];exact z,?_⟩)
 have hf:H1 s1.heap.objs.size=none:=I1.hok.fresh (Nat.le_refl _)
 refine⟨.ref s1.heap.objs.size,upd H1 s1.heap.objs.size (.tup xs),I1.laid (t':=s1.toks) (fun b u e=>Heap.get?_push_of_some _ e) (Nat.le_refl _) ?_,rfl,q _ hf⟩
 exact⟨z,us,r,⟨_,Heap.get?_push_size _ rfl,rfl,_,rfl⟩⟩
theorem pe_lst (h:PA X es t):PE X (.List es pos) (tLst t):=by
 intro pins s σ H Q I hq
 refine wpAny_List_spliced (thn (h pos pins s σ H _ I hq) fun us s1 ⟨xs,H1,I1,r,z,q⟩=>⟨by rw [← r.length];exact z,?_⟩)
 have hf:H1 s1.heap.objs.size=none:=I1.hok.fresh (Nat.le_refl _)
 refine⟨.ref s1.heap.objs.size,upd H1 s1.heap.objs.size (.lst xs),I1.laid (t':=s1.toks) (fun b u e=>Heap.get?_push_of_some _ e) (Nat.le_refl _) ?_,rfl,q _ hf⟩
 exact⟨z,us,0,r,Heap.get?_push_size _ rfl⟩
end
noncomputable abbrev Sp:=List V→Hp→VK→XK→Prop
noncomputable abbrev CXT:=List Env→Hp→Shared→XK→Value→Shared→Prop
structure Env0 (P:Program) (w:World) (K:PySem.W.Frag) (mg:Str→Option Value) (base:Heap) (A:Around) (outer:List Env) (s:Shared) (H:Hp):Prop where
 frames:A.frames=some outer
 mod:Mod K mg base
 bs:∀ b o,base.get? b=some o→s.heap.get? b=some o∧H b=none
 bsz:base.objs.size≤s.heap.objs.size
 funs:s.heap.FunFrames base outer
 frf:∀ b∈frs outer,H b=none
 hok:HOk P w H s.heap
 bare:AllBare s.gens
noncomputable def CE (outer:List Env) (P:Program) (w:World) (H:Hp) (s:Shared) (Q:VK) (u:Value) (s':Shared):Prop :=
 ∃ v H',s'.os=s.os∧AllBare s'.gens∧Un (frs outer) [] H H' s.heap s'.heap∧HOk P w H' s'.heap∧RelV v u∧Q v H'
noncomputable def CR (CX:CXT) (outer:List Env) (P:Program) (w:World) (H:Hp) (s:Shared) (Q:VK) (E:XK) (r:Result) (s':Shared):Prop :=
 match r with
 | .ok (.ret u)=>CE outer P w H s Q u s'
 | .ok _=>False
 | .error e=>CX outer H s E e s'
structure FnOk (P:Program) (w:World) (K:PySem.W.Frag) (mg:Str→Option Value) (base:Heap) (CX:CXT) (k:Nat) (f:Addr) (fd:FuncData) (ps:List Str) (sp:Sp):Prop where
 len:∀ vs H Q E,sp vs H Q E→vs.length=ps.length
 run:∀ (A:Around) (outer:List Env) (s:Shared) (H:Hp) (args:Args) (us:List Value) (vs:List V) (Q:VK) (E:XK),Room k A→Env0 P w K mg base A outer s H→BindsTo s fd args (ps.zip us)→Vals vs us→sp vs H Q E →
  codeAny (model P w) A (.call (.ref f) args) (CR CX outer P w H s Q E) s
theorem Env0.make {P:Program} {w:World} {K:PySem.W.Frag} {mg:Str→Option Value} {base:Heap} {A:Around} {outer:List Env} {s:Shared} {H:Hp} (e:Env0 P w K mg base A outer s H) (C:Addr) (us:List Value) (kw:List (Str×Value)) :
  Env0 P w K mg base (A.under (.builtin "type.__call__" ⟨.ref C::us,kw⟩)) outer s H:=⟨by first|exact e.frames|(simpa [Around.under,Code.envs,Code.isFrame,pushEnvs] using e.frames),e.mod,e.bs,e.bsz,e.funs,e.frf,e.hok,e.bare⟩
section
variable {X:Cx} {pins:List (Addr×Obj)} {σ:St} {H:Hp} {s s':Shared}
theorem Inv.env0 (I:Inv X pins σ H s):Env0 X.prog X.w X.K X.mg X.base X.A X.stack s H :=
 ⟨I.ok.frames,I.ok.mod,I.bs,Nat.le_trans I.ok.bsz I.sz,I.stack,I.stkFree,I.hok,I.bare⟩
theorem Inv.after {Q:VK} {u:Value} (I:Inv X pins σ H s) (h:CE X.stack X.prog X.w H s Q u s'):EP X pins σ Q u s':=by
 obtain ⟨v,H',os,bare,un,hok,r,q⟩:=h
 obtain ⟨hh,g,d,t,os'⟩:=s'
 obtain rfl:os'=s.os:=os
 exact⟨v,H',I.call (h':=hh) (g':=g) (d':=d) (t':=t) (ch:=[]) un hok bare (fun b z=>absurd z (by simp)),r,q⟩
end
noncomputable def tCall (sp:Sp) (dvs:List V) (E:XK) (t:TA):TE:=fun σ H Q=>t σ H fun vs H1=>sp (vs++dvs) H1 Q E
noncomputable def tMeth (C:Addr) (m:Str) (sp:Sp) (dvs:List V) (E:XK) (ta:TE) (t:TA):TE:=fun σ H Q=>ta σ H fun x H1=>∃ a dx fs,x=.ref a∧H1 a=some (.ins C dx fs)∧fs.lookup m=none ∧
 t σ H1 fun vs H2=>sp (x::(vs++dvs)) H2 Q E
noncomputable def tMake (C:Addr) (sp:Sp) (dvs:List V) (E:XK) (t:TA):TE:=fun σ H Q=>t σ H fun vs H1=>∀ x dx,H1 x=none→H1 dx=none→dx≠x →
 sp (.ref x::(vs++dvs)) (upd (upd H1 dx (.own x)) x (.ins C dx [])) (fun v H2=>v=.non∧Q (.ref x) H2) E
noncomputable def Binds (K:PySem.W.Frag) (fd:FuncData) (ps:List Str) (ds:List Value):Prop :=
 ∀ (s:Shared) (us:List Value),K.In s.heap→(us++ds).length=ps.length→BindsTo s fd ⟨us,[]⟩ (ps.zip (us++ds))
theorem Binds.all {K:PySem.W.Frag} {fd:FuncData} {ps:List Str} (h:∀ us:List Value,us.length=ps.length→bindArgs fd ⟨us,[]⟩=pure (ps.zip us)):Binds K fd ps []:=fun s us _ hl=>by
 rw [List.append_nil] at hl ⊢
 exact .of_eq (h us hl)
noncomputable def Passes (CX:CXT) (X:Cx) (E:XK):Prop:=∀ (pins:List (Addr×Obj)) (σ:St) (H:Hp) (s:Shared) (e:Value) (s':Shared),Inv X pins σ H s→CX X.stack H s E e s'→X.xe e s'
section
variable {X:Cx} {CX:CXT} {k:Nat} {f C:Addr} {fd:FuncData} {ps:List Str} {sp:Sp} {dvs:List V} {ds:List Value} {E:XK} {x m:Str} {p pos apos:Pos} {e o:Expr} {es:List Expr} {ta:TE} {t:TA}
theorem run_fn {pins:List (Addr×Obj)} {σ:St} {H:Hp} {s:Shared} {Q:VK} {us:List Value} {vs:List V} (F:FnOk X.prog X.w X.K X.mg X.base CX k f fd ps sp) (hr:Room k X.A) (hb:Binds X.K fd ps ds) (hd:Vals dvs ds) (hx:Passes CX X E)
  (I:Inv X pins σ H s) (r:Vals vs us) (h:sp (vs++dvs) H Q E):wpAny (model X.prog X.w) X.A (call (.ref f) us) (EP X pins σ Q) X.xe s:=by
 have r2:Vals (vs++dvs) (us++ds):=r.append hd
 have hl:(us++ds).length=ps.length:=by rw [← r2.length];exact F.len _ _ _ _ h
 refine wpAny_call (codeAny_mono (F.run X.A X.stack s H ⟨us,[]⟩ (us++ds) (vs++dvs) Q E hr I.env0 (hb s us I.kIn hl) r2 h) fun r s' hq=>?_)
 cases r with
 | error e=>exact hx pins σ H s e s' I hq
 | ok fl =>
  cases fl with
  | ret u=>exact I.after hq
  | next=>exact False.elim hq
  | brk=>exact False.elim hq
  | cont=>exact False.elim hq
theorem pe_call (F:FnOk X.prog X.w X.K X.mg X.base CX k f fd ps sp) (hr:Room k X.A) (hg:Gl X x) (hm:X.mg x=some (.ref f)) (hk:PySem.W.keepIn X.K (.ref f)=true) (hb:Binds X.K fd ps ds) (hd:Vals dvs ds) (hx:Passes CX X E)
  (ha:PA X (e::es) t) (hdb:(x == ("__debug__":Str))=false:=by decide) (he:starEach (e::es) X.env=(false,eval e X.env)::starEach es X.env:=by rfl) (hpl:(backTo pos (starEach es X.env)).any (·.1)=false:=by rfl) :
  PE X (.Call (.Name x p) (e::es) [] pos) (tCall sp dvs E t):=by
 intro pins s σ H Q I h
 refine wpAny_Call_Name_kw (ld_glob I hg hm ?_ hdb)
 refine PySem.W.callWith_K (h₀:=X.base) I.ok.mod.kin hk (thn (ha pos pins s σ H _ I h) fun us s1 ⟨vs,H1,I1,r,q⟩=>⟨I1.kIn,?_⟩) he hpl
 exact run_fn F hr hb hd hx I1 r q
theorem pe_meth {pl:Sem Bool} (he:PE X o ta) (c:Cls X.K C) (hm:Meth X.K C m f) (F:FnOk X.prog X.w X.K X.mg X.base CX k f fd ps sp) (hr:Room k X.A) (hb:Binds X.K fd ps ds) (hd:Vals dvs ds) (hx:Passes CX X E) (ha:PA X (e::es) t)
  (hst:starEach (e::es) X.env=(false,eval e X.env)::starEach es X.env:=by rfl) (hpl:(backTo pos (starEach es X.env)).any (·.1)=false:=by rfl)
  (ht:eval (.Call (.Attribute o m apos) (e::es) [] pos) X.env=(do
   let ov ← eval o X.env
   standAt apos.atName
   let (f,first) ← holding [ov] (getMethod ov m pl)
   callWith pos f first (backTo pos (starEach (e::es) X.env)) (backToKw pos (keywordEach [] X.env))):=by rfl) :
  PE X (.Call (.Attribute o m apos) (e::es) [] pos) (tMeth C m sp dvs E ta t):=by
 intro pins s σ H Q I h
 refine PySem.W.methodCall_KW (pl:=pl) (thn (he pins s σ H _ I h) fun u s1 ⟨x,H1,I1,rx,a,dx,fs,ex,ea,l,q⟩=>?_) ht
 subst ex
 obtain rfl:u=Value.ref a:=rx
 refine getmeth_ok I1 ea c hm l ?_
 refine PySem.W.callWith_K (first:=[.ref a]) (h₀:=X.base) I.ok.mod.kin hm.kp (thn (ha pos pins s1 σ H1 _ I1 q) fun us s2 ⟨vs,H2,I2,r,q2⟩=>⟨I2.kIn,?_⟩) hst hpl
 exact run_fn (us:=.ref a::us) (vs:=.ref a::vs) F hr hb hd hx I2 (.cons rfl r) q2
structure Mk (K:PySem.W.Frag) (C f:Addr):Prop where
 makes:PySem.W.makesIn K C=true
 init:PySem.W.findIn K (.ref C) "__init__"=some (some (.ref f))
 fn:PySem.W.isFn K (.ref f)=true
 kp:PySem.W.keepIn K (.ref C)=true
theorem run_make {pins:List (Addr×Obj)} {σ:St} {H:Hp} {s:Shared} {Q:VK} {us:List Value} {vs:List V} (M:Mk X.K C f) (F:FnOk X.prog X.w X.K X.mg X.base CX k f fd ps sp) (hr:Room (k+1) X.A) (hb:Binds X.K fd ps ds) (hd:Vals dvs ds)
  (hx:Passes CX X E) (I:Inv X pins σ H s) (r:Vals vs us)
  (h:∀ x dx,H x=none→H dx=none→dx≠x→sp (.ref x::(vs++dvs)) (upd (upd H dx (.own x)) x (.ins C dx [])) (fun v H2=>v=.non∧Q (.ref x) H2) E) :
  wpAny (model X.prog X.w) X.A (call (.ref C) us) (EP X pins σ Q) X.xe s:=by
 have hq:=h (s.heap.objs.size+1) s.heap.objs.size (I.hok.fresh (Nat.le_succ _)) (I.hok.fresh (Nat.le_refl _)) (Nat.ne_of_lt (Nat.lt_succ_self _))
 have I2:=Inv.made (C:=C) I
 have r2:Vals (V.ref (s.heap.objs.size+1)::(vs++dvs)) (Value.ref (s.heap.objs.size+1)::(us++ds)):=.cons rfl (r.append hd)
 have hl:(Value.ref (s.heap.objs.size+1)::us++ds).length=ps.length:=by
  have e:=r2.length
  rw [F.len _ _ _ _ hq] at e
  exact e.symm
 refine wpAny_call (make_map (f:=f) I.kIn M.makes M.init (beq_iff_eq.mp M.fn) (codeAny_mono (F.run _ X.stack _ _ ⟨Value.ref (s.heap.objs.size+1)::us,[]⟩ (Value.ref (s.heap.objs.size+1)::(us++ds)) _ _ E (hr.make C us [])
  (I2.env0.make C us []) (hb _ (Value.ref (s.heap.objs.size+1)::us) I2.kIn hl) r2 hq) fun r s' hq'=>?_))
 cases r with
 | error e=>exact hx pins σ _ _ e s' I2 hq'
 | ok fl =>
  cases fl with
  | ret u =>
   obtain ⟨v,H',I3,rv,ev,q3⟩:=I2.after hq'
   subst ev
   exact⟨rv,⟨V.ref (s.heap.objs.size+1),H',I3,rfl,q3⟩⟩
  | next=>exact False.elim hq'
  | brk=>exact False.elim hq'
  | cont=>exact False.elim hq'
theorem pe_make (M:Mk X.K C f) (F:FnOk X.prog X.w X.K X.mg X.base CX k f fd ps sp) (hr:Room (k+1) X.A) (hg:Gl X x) (hm:X.mg x=some (.ref C)) (hb:Binds X.K fd ps ds) (hd:Vals dvs ds) (hx:Passes CX X E)
  (ha:PA X (e::es) t) (hdb:(x == ("__debug__":Str))=false:=by decide) (he:starEach (e::es) X.env=(false,eval e X.env)::starEach es X.env:=by rfl) (hpl:(backTo pos (starEach es X.env)).any (·.1)=false:=by rfl) :
  PE X (.Call (.Name x p) (e::es) [] pos) (tMake C sp dvs E t):=by
 intro pins s σ H Q I h
 refine wpAny_Call_Name_kw (ld_glob I hg hm ?_ hdb)
 refine PySem.W.callWith_K (h₀:=X.base) I.ok.mod.kin M.kp (thn (ha pos pins s σ H _ I h) fun us s1 ⟨vs,H1,I1,r,q⟩=>⟨I1.kIn,?_⟩) he hpl
 exact run_make M F hr hb hd hx I1 r q
end
noncomputable def PK (X:Cx) (kws:List Keyword) (t:TA):Prop :=
 ∀ (pos:Pos) (pins:List (Addr×Obj)) (s:Shared) (σ:St) (H:Hp) (Q:List V→Hp→Prop),Inv X pins σ H s→t σ H Q→wpAny (model X.prog X.w) X.A (evalAll ((backToKw pos (keywordEach kws X.env)).map (·.2))) (AP X pins σ Q) X.xe s
section
variable {X:Cx} {CX:CXT} {k:Nat} {f C:Addr} {fd:FuncData} {ps ks:List Str} {sp:Sp} {E:XK} {x m:Str} {p pos apos kpos:Pos} {e o:Expr} {es:List Expr} {kws:List Keyword} {te ta:TE} {t tk:TA} {nm:Option Str}
theorem pk_nil:PK X [] tNil:=fun _ _ _ _ H Q I h=>wpAny_evalAll_nil ⟨[],H,I,.nil,h⟩
theorem pk_cons (ha:PE X e te) (hr:PK X kws t):PK X (⟨nm,e,kpos⟩::kws) (tCons te t):=by
 intro pos pins s σ H Q I h
 show wpAny _ _ (evalAll ((do let v ← eval e X.env;standAt pos;pure v)::(backToKw pos (keywordEach kws X.env)).map (·.2))) _ _ s
 refine wpAny_evalAll_cons (wpAny_bind (thn (ha pins s σ H _ I h) fun u s1 ⟨x,H1,I1,r1,q1⟩=>wpAny_bind (wpAny_standAt (wpAny_pure ?_))))
 exact thn (hr pos pins s1 σ H1 _ I1 q1) fun us s2 ⟨xs,H2,I2,r2,q2⟩=>⟨x::xs,H2,I2,.cons r1 r2,q2⟩
variable {g:List Value→List Value→List Value} {gV:List V→List V→List V}
end
structure FnScope (N P:List Str) (sc:Scope):Prop where
 kind:sc.kind=.function
 co:sc.isCoroutine=false
 gen:sc.isGenerator=false
 nd:N.Nodup
 pre:N.take P.length=P
 par:∀ x∈P,sc.names.lookup x=some .local∨sc.names.lookup x=some .cell
 nofree:∀ y∈sc.names,y.2≠.free
theorem bindL_out {kindOf:Str→Option NameKind} {x:Str}:∀ {binds:List (Str×Value)} {m:Str→Option Value},(∀ v,(x,v)∉binds)→bindL kindOf binds m x=m x
 | [],_,_=>rfl
 | (n,v)::r,m,h=>by
  unfold bindL
  rw [bindL_out fun w hw=>h w (List.mem_cons_of_mem _ hw)]
  split
  ·have:x≠n:=by rintro rfl;exact h v List.mem_cons_self
   simp [this]
  ·rfl
theorem bindC_out {kindOf:Str→Option NameKind} {x:Str}:∀ {binds:List (Str×Value)} {m:Str→Option Value},(∀ v,(x,v)∉binds)→bindC kindOf binds m x=m x
 | [],_,_=>rfl
 | (n,v)::r,m,h=>by
  unfold bindC
  rw [bindC_out fun w hw=>h w (List.mem_cons_of_mem _ hw)]
  split
  ·rfl
  ·have:x≠n:=by rintro rfl;exact h v List.mem_cons_self
   simp [this]
theorem bindL_get {kindOf:Str→Option NameKind} {x:Str} {v:Value}:∀ {P:List Str} {vs:List Value} {i:Nat} {m:Str→Option Value},P.Nodup→P[i]?=some x→vs[i]?=some v→kindOf x=some .local →
  bindL kindOf (P.zip vs) m x=some v
 | [],_,_,_,_,h,_,_=>by simp at h
 | _::_,[],_,_,_,_,h,_=>by simp at h
 | p::P,w::vs,0,m,nd,h1,h2,hk=>by
  simp at h1 h2;subst h1;subst h2
  show bindL kindOf ((p,w)::P.zip vs) m p=_
  unfold bindL
  rw [bindL_out fun v hv=>(List.nodup_cons.mp nd).1 (List.of_mem_zip hv).1,if_pos hk]
  simp
 | p::P,w::vs,i+1,m,nd,h1,h2,hk=>by
  show bindL kindOf ((p,w)::P.zip vs) m x=_
  unfold bindL
  exact bindL_get (i:=i) (List.nodup_cons.mp nd).2 (by simpa using h1) (by simpa using h2) hk
theorem bindC_get {kindOf:Str→Option NameKind} {x:Str} {v:Value}:∀ {P:List Str} {vs:List Value} {i:Nat} {m:Str→Option Value},P.Nodup→P[i]?=some x→vs[i]?=some v→kindOf x≠some .local →
  bindC kindOf (P.zip vs) m x=some v
 | [],_,_,_,_,h,_,_=>by simp at h
 | _::_,[],_,_,_,_,h,_=>by simp at h
 | p::P,w::vs,0,m,nd,h1,h2,hk=>by
  simp at h1 h2;subst h1;subst h2
  show bindC kindOf ((p,w)::P.zip vs) m p=_
  unfold bindC
  rw [bindC_out fun v hv=>(List.nodup_cons.mp nd).1 (List.of_mem_zip hv).1,if_neg hk]
  simp
 | p::P,w::vs,i+1,m,nd,h1,h2,hk=>by
  show bindC kindOf ((p,w)::P.zip vs) m x=_
  unfold bindC
  exact bindC_get (i:=i) (List.nodup_cons.mp nd).2 (by simpa using h1) (by simpa using h2) hk
noncomputable def start (N:List Str) (vs:List V):St:=vs.map some++List.replicate (N.length - vs.length) none
noncomputable def cxOf (CX:CXT) (P:Program) (w:World) (K:PySem.W.Frag) (mg:Str→Option Value) (base:Heap) (N:List Str) (qual:Str) (scope:Scope) (f:Addr) (cd:Value) (A:Around) (outer:List Env) (s:Shared) (H:Hp) (E:XK):Cx where
 prog:=P
 w:=w
 K:=K
 mg:=mg
 base:=base
 A:=A.deeper (envOfC qual scope s.heap.objs.size f cd)
 N:=N
 s₀:=s
 H₀:=H
 env:=envOfC qual scope s.heap.objs.size f cd
 outer:=outer
 stack:=envOfC qual scope s.heap.objs.size f cd::outer
 ex:=[]
 calm:=true
 fn:=fun _=>true
 pn:=[]
 xe:=fun e s'=>wpAny (model P w) (A.deeper (envOfC qual scope s.heap.objs.size f cd)) (leaving (envOfC qual scope s.heap.objs.size f cd) e) (fun _ s''=>CX outer H s E e s'') (fun e' s''=>CX outer H s E e' s'') s'
theorem cell_has {sc:Scope} {n:Nat} {x:Str} (h:sc.names.lookup x=some .cell):∃ c,(cellsFrom n sc.names []).lookup x=some c:=by
 have q:=PySem.W.cellsFrom_some sc.names n [] (.inl h)
 exact Option.isSome_iff_exists.mp q
theorem inv_start {CX:CXT} {P:Program} {w:World} {K:PySem.W.Frag} {mg:Str→Option Value} {base:Heap} {N ps:List Str} {qual:Str} {scope:Scope} {f:Addr} {cd:Value} {A:Around} {outer:List Env} {s s1:Shared} {H:Hp} {E:XK} {us:List Value} {vs:List V}
  (S:FnScope N ps scope) (hd:A.handled=none) (e0:Env0 P w K mg base A outer s H) (hl:vs.length=ps.length) (r:Vals vs us)
  (x:InCallC s s.heap.objs.size (bindL (envOfC qual scope s.heap.objs.size f cd).kindOf (ps.zip us) fun _=>none) (cellsFrom (s.heap.objs.size+1) scope.names []) (bindC (envOfC qual scope s.heap.objs.size f cd).kindOf (ps.zip us) fun _=>none) s1) :
  Inv (cxOf CX P w K mg base N qual scope f cd A outer s H E) [] (start N vs) H s1:=by
 have hpl:ps.length≤N.length:=by have:=congrArg List.length S.pre;rw [List.length_take] at this;lia
 obtain ⟨h1,tk,rfl,hk⟩:=x.done
 have noA:∀ b:Addr,b∉(cxOf CX P w K mg base N qual scope f cd A outer s H E).ex:=fun b z=>absurd (show b∈([]:List Addr) from z) (by simp)
 refine⟨⟨e0.mod,S.kind,rfl,rfl,Nat.le_refl _,fun y z c h1 h2=>?_,fun y hy=>?_,fun y c _ h=>?_,fun _=>hd,Around.frames_deeper e0.frames,.inr ⟨rfl,rfl⟩,fun b z=>absurd z (noA b),e0.bs,e0.bsz,fun b _ _=>noA b,fun b z=>absurd z (noA b),e0.funs,e0.frf⟩,
  rfl,e0.bare,Un.kept hk,⟨_,x.toInCall.ns,fun i y v h1 h2 h3=>?_⟩,fun y c h=>⟨_,x.cell y c h⟩,e0.hok.fresh (Nat.le_refl _),fun y c h=>?_,fun p hp=>absurd (show p∈([]:List (Addr×Obj)) from hp) (by simp),e0.hok.kept hk,?_⟩
 ·exact name_of_addr x.apart (PySem.mem_of_lookup h1) (PySem.mem_of_lookup h2)
 ·have hy:scope.names.lookup y=some .cell∨scope.names.lookup y=some .free:=hy
  rcases hy with hy|hy
  ·exact cell_has hy
  ·exact absurd rfl (S.nofree _ (PySem.mem_of_lookup hy))
 ·exact Nat.le_of_lt (x.above y c (PySem.mem_of_lookup h))
 ·have hi:i<vs.length:=by
   unfold start at h2
   by_cases hi:i<vs.length
   ·exact hi
   ·rw [List.getElem?_append_right (by simpa using hi)] at h2
    rw [List.getElem?_replicate] at h2
    split at h2 <;> cases h2
  have ha:vs[i]?=some v:=by
   unfold start at h2
   rw [List.getElem?_append_left (by simpa using hi),List.getElem?_map] at h2
   cases e:vs[i]? with
   | none=>rw [e] at h2;cases h2
   | some a=>rw [e] at h2;cases h2;rfl
  obtain ⟨u,hu,rv⟩:=r.get ha
  have hp:ps[i]?=some y:=by
   rw [← S.pre,List.getElem?_take_of_lt (by lia)];exact h1
  have ndP:ps.Nodup:=by rw [← S.pre];exact S.nd.sublist (List.take_sublist _ _)
  refine⟨u,rv,?_⟩
  rcases S.par y (List.mem_of_getElem? hp) with k|k
  ·exact .inl ⟨k,bindL_get ndP hp hu k⟩
  ·obtain ⟨c,e⟩:=cell_has (n:=s.heap.objs.size+1) k
   refine .inr ⟨.inl k,c,e,?_⟩
   have q:=x.cell y c e
   rw [bindC_get ndP hp hu (by show scope.names.lookup y≠_;rw [k];decide)] at q
   exact q
 ·exact e0.hok.fresh (Nat.le_of_lt (x.above y c (PySem.mem_of_lookup h)))
 ·unfold start
  show _=N.length
  rw [List.length_append,List.length_map,List.length_replicate]
  lia
theorem fn_of {CX:CXT} {P:Program} {w:World} {K:PySem.W.Frag} {mg:Str→Option Value} {base:Heap} {k:Nat} {f:Addr} {name qual:Str} {params:Arguments} {body:List Stmt} {scope:Scope} {dV kV doc pm cdv ct oc:Value} {an od:Option Addr}
  {osl:Array (Option Value)} {N ps:List Str} {sp:Sp} (lk:K.lookup f=some ⟨oc,od,.func (PySem.W.fnOf name qual params body scope dV kV doc pm an cdv ct),osl⟩) (hcd:PySem.W.codeIn K cdv qual=true) (S:FnScope N ps scope)
  (len:∀ vs H Q E,sp vs H Q E→vs.length=ps.length)
  (hbody:∀ (A:Around) (outer:List Env) (s:Shared) (H:Hp) (vs:List V) (Q:VK) (E:XK),Room k (A.deeper (envOfC qual scope s.heap.objs.size f cdv))→sp vs H Q E →
   ∃ t,PSs (cxOf CX P w K mg base N qual scope f cdv A outer s H E) body t∧t { nx:=fun _ H'=>Q .non H',rt:=Q } (start N vs) H) :
  FnOk P w K mg base CX (k+1) f (PySem.W.fnOf name qual params body scope dV kV doc pm an cdv ct) ps sp:=by
 refine⟨len,fun A outer s H args us vs Q E hr e0 hb r hsp=>?_⟩
 have hl:=len _ _ _ _ hsp
 have KX:K.In s.heap:=e0.mod.kin.keeps fun b o e=>(e0.bs b o e).1
 have lim:s.heap.NoLimit:=e0.mod.nolimit.keeps fun b o e=>(e0.bs b o e).1
 have hkind:∀ y∈ps.zip us,scope.names.lookup y.1=some .local∨(scope.names.lookup y.1=some .cell∧((cellsFrom (s.heap.objs.size+1) scope.names []).lookup y.1).isSome=true):=fun ⟨n,v⟩ hy=>by
  rcases S.par n (List.of_mem_zip hy).1 with q|q
  ·exact .inl q
  ·exact .inr ⟨q,PySem.W.cellsFrom_some _ _ _ (.inl q)⟩
 refine codeAny_call_function hr.depth (KX _ _ lk) rfl S.co S.gen rfl (PySem.W.codeRec_of KX hcd) (hb _ _ _ _ ?_)
 refine wpAny_newFunctionEnv_cells S.kind hkind fun env he s1 x=>?_
 subst he
 refine⟨lim.keeps x.toInCall.keep,codeAny_func ?_⟩
 obtain ⟨t,ht,hq⟩:=hbody A outer s H vs Q E (hr.deeper _) hsp
 have I:Inv (cxOf CX P w K mg base N qual scope f cdv A outer s H E) [] (start N vs) H s1:=inv_start S hr.hd e0 hl r x
 refine wpAny_mono (ht [] s1 (start N vs) H _ I hq) (fun fl s' hs=>?_) fun e s' hs=>hs
 have fin:∀ {σ':St} {H':Hp} {v:V} {u:Value},Inv (cxOf CX P w K mg base N qual scope f cdv A outer s H E) [] σ' H' s'→RelV v u→Q v H'→CE outer P w H s Q u s' :=
  fun {σ' H' v u} J rv q=>⟨v,H',J.os,J.bare,J.base,J.hok,rv,q⟩
 cases fl with
 | ret u =>
  obtain ⟨v,σ',H',J,rv,q⟩:=hs
  exact fin J rv q
 | next =>
  obtain ⟨σ',H',J,q⟩:=hs
  exact fin (v:=V.non) (u:=Value.none) J rfl q
 | brk =>
  obtain ⟨_,_,_,q⟩:=hs
  exact False.elim q
 | cont =>
  obtain ⟨_,_,_,q⟩:=hs
  exact False.elim q
end L2
namespace L2
open PySem PySem.Spec PyProof.Rows
section
variable {X:Cx} {x:Str} {p pos:Pos} {e:Expr} {es:List Expr} {t:TA} {id T:String} {r:List V→Hp→VK→Prop}
noncomputable def tCB (r:List V→Hp→VK→Prop) (t:TA):TE:=fun σ H Q=>t σ H fun vs H1=>r vs H1 Q
theorem pe_callB (hc:CallR X (.builtin id) r) (hg:Gl X x) (hm:X.mg x=none) (hv:bootBuiltins x=some (.builtin id)) (ha:PA X (e::es) t) (hn:x≠"__name__":=by decide) (hdb:(x == ("__debug__":Str))=false:=by decide)
  (he:starEach (e::es) X.env=(false,eval e X.env)::starEach es X.env:=by rfl) (hpl:(backTo pos (starEach es X.env)).any (·.1)=false:=by rfl):PE X (.Call (.Name x p) (e::es) [] pos) (tCB r t):=by
 intro pins s σ H Q I h
 refine wpAny_Call_Name_kw (ld_blt I hg hm hv ?_ hn hdb)
 exact PyProof.Rows.callWith_builtin1 (thn (ha pos pins s σ H _ I h) fun us s1 ⟨vs,H1,I1,r1,q1⟩=>hc pins s1 σ H1 vs us Q I1 r1 q1) he hpl
theorem pe_callTy (hc:CallR X (.type T) r) (hg:Gl X x) (hm:X.mg x=none) (hv:bootBuiltins x=some (.type T)) (ha:PA X (e::es) t) (hn:x≠"__name__":=by decide) (hdb:(x == ("__debug__":Str))=false:=by decide)
  (he:starEach (e::es) X.env=(false,eval e X.env)::starEach es X.env:=by rfl) (hpl:(backTo pos (starEach es X.env)).any (·.1)=false:=by rfl):PE X (.Call (.Name x p) (e::es) [] pos) (tCB r t):=by
 intro pins s σ H Q I h
 refine wpAny_Call_Name_kw (ld_blt I hg hm hv ?_ hn hdb)
 exact PyProof.Rows.callWith_type1 (thn (ha pos pins s σ H _ I h) fun us s1 ⟨vs,H1,I1,r1,q1⟩=>hc pins s1 σ H1 vs us Q I1 r1 q1) he hpl
end
end L2
namespace HT
open PySem PyProof.Rows
section
variable {prog:Program} {w:World} {A:Around} {E:Value→Shared→Prop} {s:Shared}
theorem cat_tup {t b:Addr} {vs ws:List Value} {Q:Value→Shared→Prop} (ht:IsTup s.heap t vs.toArray) (hb:IsTup s.heap b ws.toArray) (hv:vs≠[])
  (h1:ws=[]→Q (.ref t) s) (h2:ws≠[]→Q (.ref s.heap.objs.size) { s with heap:=s.heap.push { cls:=.type "tuple",data:=.seq (vs++ws).toArray } })
  (hsz:vs.length+ws.length≤sizeLine):wpAny (model prog w) A (binaryOp .Add (.ref t) (.ref b)) Q E s:=by
 obtain ⟨⟨cls,dd,data,sl⟩,ho,hc,n,hd⟩:=id ht
 obtain ⟨⟨cls2,dd2,data2,sl2⟩,ho2,hc2,n2,hd2⟩:=id hb
 simp only at hc hd hc2 hd2
 subst hc hd hc2 hd2
 have e:vs.toArray++ws.toArray=(vs++ws).toArray:=by simp
 by_cases hw:ws=[]
 ·exact concat_meets ⟨_,ho,rfl⟩ ⟨_,ho2,rfl⟩ noFill_tuple_add seq_tuple_add PySem.F.slot_tuple_add PySem.F.entry_tuple_add (PySem.F.args_tuple_add_2 _ _)
   (tuple_addW1 t b vs.toArray ws.toArray n n2 dd dd2 sl sl2 (by simpa using hv) (by simp [hw])) ⟨ho,ho2,h1 hw⟩
 ·refine concat_meets ⟨_,ho,rfl⟩ ⟨_,ho2,rfl⟩ noFill_tuple_add seq_tuple_add PySem.F.slot_tuple_add PySem.F.entry_tuple_add (PySem.F.args_tuple_add_2 _ _)
   (tuple_addW2 t b vs.toArray ws.toArray n n2 dd dd2 sl sl2 (by simpa using hv) (by simpa using hw) (by rw [List.size_toArray,List.size_toArray];exact hsz)) ⟨ho,ho2,?_⟩
  rw [e]
  exact h2 hw
noncomputable def sIx (n d:Nat):Option Int→Nat
 | none=>d
 | some v=>if v<0 then (v+(n:Int)).toNat else min v.toNat n
theorem sIx_none (n d:Nat):sIx n d none=d:=rfl
theorem sIx_nat (n d k:Nat):sIx n d (some (k:Int))=min k n:=by
 show (if (k:Int)<0 then ((k:Int)+(n:Int)).toNat else min (k:Int).toNat n)=min k n
 rw [if_neg (by lia),Int.toNat_natCast]
theorem sIx_le (n d:Nat) (hd:d≤n) (o:Option Int):sIx n d o≤n:=by
 cases o with
 | none=>exact hd
 | some v =>
  show (if v<0 then (v+(n:Int)).toNat else min v.toNat n)≤n
  by_cases hv:v<0
  ·rw [if_pos hv];lia
  ·rw [if_neg hv];exact Nat.min_le_right _ _
theorem clip_eq (v:Int) (n d:Nat):(if v<0 then max (v+(n:Int)) 0 else min v (n:Int))=((sIx n d (some v):Nat):Int):=by
 show (if v<0 then max (v+(n:Int)) 0 else min v (n:Int))=(((if v<0 then (v+(n:Int)).toNat else min v.toNat n):Nat):Int)
 by_cases hv:v<0
 ·simp only [if_pos hv];lia
 ·simp only [if_neg hv];lia
theorem adjust_gen (lo hi:Option Int) (n:Nat):Builtin.Slice.sliceAdjust lo hi 1 (n:Int)=(((sIx n 0 lo:Nat):Int),((sIx n n hi:Nat):Int)):=by
 have h1:¬ ((1:Int)<0):=by lia
 unfold Builtin.Slice.sliceAdjust
 simp only [h1,if_false]
 refine Prod.ext ?_ ?_
 ·cases lo with
  | none=>rfl
  | some v=>exact clip_eq v n 0
 ·cases hi with
  | none=>rfl
  | some v=>exact clip_eq v n n
theorem places_gen (i j:Nat):Builtin.Slice.slicePlaces (i:Int) (j:Int) 1=j - i:=by
 unfold Builtin.Slice.slicePlaces
 have h1:(1:Int) > 0:=by lia
 simp only [h1,if_true,Int.ediv_one]
 split <;> lia
theorem slicePart_ {v:Value} {o:Option Int} {Q:Option Int→Shared→Prop} (p:IsPart v o) (h:Q o s):wpAny (model prog w) A (Builtin.Slice.slicePartIndex v) Q E s:=by
 cases p with
 | none=>exact slicePart_none h
 | int i t=>exact slicePart_int h
theorem sliceApplied_gen {sl:Addr} {vl vu:Value} {lo hi:Option Int} {n:Nat} {Q:Int×Int×Nat→Shared→Prop} (hs:s.heap.IsSliceOf sl vl vu .none) (pl:IsPart vl lo) (pu:IsPart vu hi)
  (h:Q (((sIx n 0 lo:Nat):Int),1,sIx n n hi - sIx n 0 lo) s):wpAny (model prog w) A (Builtin.Slice.sliceApplied (.ref sl) (pure (n:Int))) Q E s:=by
 obtain ⟨os,hos,hcs,hds⟩:=id hs
 unfold Builtin.Slice.sliceApplied Builtin.Slice.sliceFields
 refine wpAny_bind (wpAny_bind (wpAny_field hos hds (x:=vl) rfl (wpAny_bind (wpAny_field hos hds (x:=vu) rfl (wpAny_bind (wpAny_field hos hds (x:=.none) rfl (wpAny_pure ?_)))))))
 refine wpAny_bind (slicePart_none ?_)
 show wpAny _ _ (if ((1:Int) == 0)=true then _ else _) _ _ s
 rw [if_neg (by decide)]
 refine wpAny_bind (slicePart_ pl (wpAny_bind (slicePart_ pu (wpAny_bind (wpAny_pure ?_)))))
 show wpAny _ _ (match Builtin.Slice.sliceAdjust lo hi 1 (n:Int) with|(lo,hi)=>pure (lo,(1:Int),Builtin.Slice.slicePlaces lo hi 1)) _ _ s
 rw [adjust_gen lo hi n]
 show wpAny _ _ (pure (((sIx n 0 lo:Nat):Int),(1:Int),Builtin.Slice.slicePlaces ((sIx n 0 lo:Nat):Int) ((sIx n n hi:Nat):Int) 1)) _ _ s
 rw [places_gen]
 exact wpAny_pure h
theorem pick_gen (xs:Array Value) (i k:Nat):((List.range k).filterMap fun (m:Nat)=>xs[((i:Int)+(m:Int)*1).toNat]?).toArray=((xs.toList.drop i).take k).toArray:=by
 have e:(fun (m:Nat)=>xs[((i:Int)+(m:Int)*1).toNat]?)=fun m=>xs[i+m]?:=by
  funext m
  have:((i:Int)+(m:Int)*1).toNat=i+m:=by lia
  rw [this]
 rw [e]
 have:=pick_run xs i k
 rw [List.filterMap_map] at this
 have e2:((fun x=>xs[x]?) ∘ fun x=>i+x)=fun m=>xs[i+m]?:=rfl
 rw [e2] at this
 rw [this]
theorem getItem_tuple_cut {t sl:Addr} {items:Array Value} {vl vu:Value} {lo hi:Option Int} {Q:Value→Shared→Prop} (ht:IsTup s.heap t items) (hs:s.heap.IsSliceOf sl vl vu .none) (pl:IsPart vl lo) (pu:IsPart vu hi)
  (hw:¬ (sIx items.size 0 lo=0∧sIx items.size items.size hi=items.size))
  (h:Q (.ref s.heap.objs.size) { s with heap:=s.heap.push { cls:=.type "tuple",data:=.seq ((items.toList.drop (sIx items.size 0 lo)).take (sIx items.size items.size hi - sIx items.size 0 lo)).toArray } })
  (hsz:items.size≤sizeLine):wpAny (model prog w) A (getItem (.ref t) (.ref sl)) Q E s:=by
 have htake:sizeOk (.seq ((items.toList.drop (sIx items.size 0 lo)).take (sIx items.size items.size hi - sIx items.size 0 lo)).toArray):=by
  show ((items.toList.drop (sIx items.size 0 lo)).take (sIx items.size items.size hi - sIx items.size 0 lo)).toArray.size≤sizeLine
  rw [List.size_toArray,List.length_take,List.length_drop,Array.length_toList]
  exact Nat.le_trans (Nat.min_le_right _ _) (Nat.le_trans (Nat.sub_le _ _) hsz)
 have hj:sIx items.size items.size hi≤items.size:=sIx_le _ _ (Nat.le_refl _) hi
 obtain ⟨os,hos,hcs,hds⟩:=id hs
 have hTs:s.TypeIs (.ref sl) "slice":=⟨os,hos,hcs⟩
 unfold getItem
 try with_reducible refine wpAny_holding ?_
 first|refine wpAny_bind (wpAny_pure ?_)|skip
 refine wpAny_bind (wpAny_sequenceKey ht.typeIs (by decide) ?_)
 refine wpAny_bind (wpAny_callSpecial?_slot (name:=Str.ofString "__getitem__") ht.typeIs PyProof.Rows.slot_tuple_getitem
  (wpAny_call_entry PyProof.Rows.slot_tuple_getitem ht.typeIs entry_tuple_getitem ?_ (args_tuple_getitem _ _)))
 show wpAny _ _ (Builtin.Tuple.tupleItemsOf (.ref t) >>= _) _ _ s
 refine wpAny_bind (tupleItemsOf_ ht ?_)
 refine wpAny_bind (wpAny_typeOf hTs ?_)
 rw [if_pos (by decide)]
 refine wpAny_bind (sliceApplied_gen hs pl pu ?_)
 have hno:¬ ((((sIx items.size 0 lo:Nat):Int) == 0 && (1:Int) == 1 && (sIx items.size items.size hi - sIx items.size 0 lo) == items.size)=true):=by
  intro q
  rw [Bool.and_eq_true,Bool.and_eq_true] at q
  have q1:((sIx items.size 0 lo:Nat):Int)=0:=eq_of_beq q.1.1
  have q2:sIx items.size items.size hi - sIx items.size 0 lo=items.size:=eq_of_beq q.2
  exact hw ⟨by lia,by lia⟩
 show wpAny _ _ (if (((sIx items.size 0 lo:Nat):Int) == 0 && (1:Int) == 1 && (sIx items.size items.size hi - sIx items.size 0 lo) == items.size)=true then _ else _) _ _ s
 rw [if_neg hno,pick_gen]
 first
  | exact wpAny_bind (m:=Builtin.Tuple.tupleExact _) (wpAny_newObj_type (wpAny_pure ⟨_,rfl,wpAny_pure h⟩) htake)
  | exact wpAny_bind (m:=Builtin.Tuple.tupleExact _) (wpAny_newObj_type (wpAny_bind (wpAny_pure (wpAny_pure ⟨_,rfl,wpAny_pure h⟩))) htake)
  | exact wpAny_bind (wpAny_bind (m:=Builtin.Tuple.tupleExact _) (wpAny_newObj_type (wpAny_pure (wpAny_pure ⟨_,rfl,wpAny_pure h⟩)) htake))
  | exact wpAny_bind (wpAny_bind (m:=Builtin.Tuple.tupleExact _) (wpAny_newObj_type (wpAny_pure ⟨_,rfl,wpAny_pure h⟩) htake))
end
end HT
namespace L2
open PySem PySem.Spec PyProof.Rows
noncomputable abbrev TO:=St→Hp→(Option Int→Hp→Prop)→Prop
noncomputable def PO (X:Cx) (e:Option Expr) (t:TO):Prop :=
 ∀ (pins:List (Addr×Obj)) (s:Shared) (σ:St) (H:Hp) (Q:Option Int→Hp→Prop),Inv X pins σ H s→t σ H Q →
  wpAny (model X.prog X.w) X.A (evalPart e X.env) (fun u s'=>∃ o H',Inv X pins σ H' s'∧IsPart u o∧Q o H') X.xe s
noncomputable def tNoPart:TO:=fun _ H Q=>Q none H
noncomputable def tPart (t:TE):TO:=fun σ H Q=>t σ H fun x H1=>∃ i,x=.int i∧Q (some i) H1
theorem intsAre_of {ns:List Int}:∀ {us:List Value},Vals (ns.map V.int) us→IntsAre us ns:=by
 induction ns with
 | nil=>intro us r;rw [List.map_nil] at r;cases r;exact .nil
 | cons n ns ih =>
  intro us r
  rw [List.map_cons] at r
  cases r with
  | cons r1 r2 =>
   obtain ⟨t,e⟩:=r1
   subst e
   exact .cons n t (ih r2)
section
variable {X:Cx} {e:Expr} {te:TE} {lo hi:Option Expr} {tl th:TO} {pos p2:Pos}
theorem po_none:PO X none tNoPart:=by
 intro pins s σ H Q I h
 rw [evalPart_none]
 exact wpAny_pure ⟨none,H,I,.none,h⟩
theorem po_some (h:PE X e te):PO X (some e) (tPart te):=by
 intro pins s σ H Q I hw
 rw [evalPart_some]
 refine thn (h pins s σ H _ I hw) fun u s1 ⟨x,H1,I1,r1,q1⟩=>?_
 obtain ⟨i,rfl,q⟩:=q1
 obtain ⟨t,rfl⟩:=r1
 exact⟨some i,H1,I1,.int i t,q⟩
noncomputable def SlR (X:Cx) (r:V→Option Int→Option Int→Hp→VK→Prop):Prop :=
 ∀ (pins:List (Addr×Obj)) (s:Shared) (σ:St) (H:Hp) (x:V) (v vl vu:Value) (lo hi:Option Int) (sl:Addr) (Q:VK),Inv X pins σ H s→RelV x v→s.heap.IsSliceOf sl vl vu .none→IsPart vl lo→IsPart vu hi→r x lo hi H Q →
  ∃ T id,typeLookup (.type T) "__getitem__"=pure (some (.builtin id))∧s.TypeIs v T∧wpAny (model X.prog X.w) X.A (getItem v (.ref sl)) (EP X pins σ Q) X.xe s
noncomputable def tSl (r:V→Option Int→Option Int→Hp→VK→Prop) (te:TE) (tl th:TO):TE:=fun σ H Q=>te σ H fun x H1=>tl σ H1 fun l H2=>th σ H2 fun u H3=>r x l u H3 Q
theorem pe_slice {r:V→Option Int→Option Int→Hp→VK→Prop} (hr:SlR X r) (he:PE X e te) (hl:PO X lo tl) (hu:PO X hi th):PE X (.Subscript e (.Slice lo hi none p2) pos) (tSl r te tl th):=by
 intro pins s σ H Q I h
 refine Subscript_ (thn (he pins s σ H _ I h) fun v s1 ⟨x,H1,I1,r1,q1⟩=>?_)
 refine wpAny_Slice (thn (hl pins s1 σ H1 _ I1 q1) fun vl s2 ⟨l,H2,I2,pl,q2⟩=>thn (hu pins s2 σ H2 _ I2 q2) fun vu s3 ⟨u,H3,I3,pu,q3⟩=>?_)
 rw [evalPart_none]
 refine wpAny_pure ?_
 have I4:Inv X pins σ H3 { s3 with heap:=s3.heap.push { cls:=.type "slice",data:=.fields #[vl,vu,.none] } }:=I3.kept (t':=s3.toks) fun b ob q=>Heap.get?_push_of_some _ q
 obtain ⟨T,id,hT,ht,hg⟩:=hr pins { s3 with heap:=s3.heap.push { cls:=.type "slice",data:=.fields #[vl,vu,.none] } } σ H3 x v vl vu l u s3.heap.objs.size Q I4 r1 (Heap.IsSliceOf.new ..) pl pu q3
 show wpAny (model X.prog X.w) X.A (subscriptTail e (.Slice lo hi none p2) v (.ref s3.heap.objs.size)) (EP X pins σ Q) X.xe { s3 with heap:=s3.heap.push { cls:=.type "slice",data:=.fields #[vl,vu,.none] } }
 exact tail_any (ops:=[.ref s3.heap.objs.size,v]) ht hT hg (by with_unfolding_all rfl)
noncomputable def cutV (xs:List V) (lo hi:Option Int):List V:=(xs.drop (HT.sIx xs.length 0 lo)).take (HT.sIx xs.length xs.length hi - HT.sIx xs.length 0 lo)
theorem cutV_length (xs:List V) (lo hi:Option Int):(cutV xs lo hi).length≤xs.length:=by
 unfold cutV
 rw [List.length_take,List.length_drop]
 lia
noncomputable def rSlT (K:PySem.W.Frag):V→Option Int→Option Int→Hp→VK→Prop:=fun x lo hi H Q=>∃ a xs,x=.ref a∧SqT K H a xs ∧
 ¬ (HT.sIx xs.length 0 lo=0∧HT.sIx xs.length xs.length hi=xs.length)∧∀ p,H p=none→Q (.ref p) (upd H p (.tup (cutV xs lo hi)))
theorem sl_tup:SlR X (rSlT X.K):=by
 intro pins s σ H x v vl vu lo hi sl Q I rx hs pl pu h
 obtain ⟨a,xs,rfl,hx,hw,q⟩:=h
 cases rx
 obtain ⟨its,r,ht,hz⟩:=I.tuple hx
 have hlen:its.toArray.size=xs.length:=by rw [List.size_toArray];exact r.length.symm
 refine⟨"tuple",_,PyProof.Rows.slot_tuple_getitem.lookup,ht.typeIs,?_⟩
 refine HT.getItem_tuple_cut ht hs pl pu (by rw [hlen];exact hw) ?_ (by rw [hlen];exact hz)
 rw [hlen]
 refine⟨.ref s.heap.objs.size,_,I.laid (t':=s.toks) (o:=.tup (cutV xs lo hi)) (fun b ob q=>Heap.get?_push_of_some _ q) (Nat.le_refl _) ?_,rfl,q _ (I.hok.fresh (Nat.le_refl _))⟩
 exact⟨Nat.le_trans (cutV_length xs lo hi) hz,_,(r.drop (HT.sIx xs.length 0 lo)).take (HT.sIx xs.length xs.length hi - HT.sIx xs.length 0 lo),IsTup.new _ _⟩
noncomputable def rCatT (K:PySem.W.Frag):R2:=fun x y H Q=>∃ a b xs ys,x=.ref a∧y=.ref b∧SqT K H a xs∧SqT K H b ys∧xs≠[]∧xs.length+ys.length≤sizeLine ∧
 (ys=[]→Q (.ref a) H)∧(ys≠[]→∀ p,H p=none→Q (.ref p) (upd H p (.tup (xs++ys))))
theorem Vals.nil_iff {xs:List V} {us:List Value} (r:Vals xs us):us=[]↔xs=[]:=by
 cases r with
 | nil=>simp
 | cons _ _=>simp
theorem op_catT:OpR X (binaryOp .Add) (rCatT X.K):=by
 intro pins s σ H x y v u Q I rx ry h
 obtain ⟨a,b,xs,ys,rfl,rfl,ha,hb,hx,hz,q1,q2⟩:=h
 cases rx
 cases ry
 obtain ⟨its,r1,p1,_⟩:=I.tuple ha
 obtain ⟨its2,r2,p2,_⟩:=I.tuple hb
 refine HT.cat_tup p1 p2 (fun z=>hx (r1.nil_iff.mp z)) (fun z=>⟨.ref a,H,I,rfl,q1 (r2.nil_iff.mp z)⟩) (fun z=>?_) (by rw [← r1.length,← r2.length];exact hz)
 refine⟨.ref s.heap.objs.size,_,I.laid (t':=s.toks) (o:=.tup (xs++ys)) (fun b ob q=>Heap.get?_push_of_some _ q) (Nat.le_refl _) ?_,rfl,q2 (fun w=>z (r2.nil_iff.mpr w)) _ (I.hok.fresh (Nat.le_refl _))⟩
 exact⟨by rw [List.length_append];exact hz,_,r1.append r2,IsTup.new _ _⟩
end
end L2
namespace L2
open PySem PySem.Spec PyProof.Rows
noncomputable def ixN (n:Nat) (i:Int):Option Nat:=if 0≤i then (if i<n then some i.toNat else none) else if -(n:Int)≤i then some (i+n).toNat else none
noncomputable def atI {α:Type} (xs:List α) (i:Int):Option α:=(ixN xs.length i).bind fun j=>xs[j]?
theorem ixN_seq {n:Nat} {i:Int} {j:Nat} (h:ixN n i=some j):seqIndex? i n=some j∧j<n∧-(n:Int)≤i∧i<n:=by
 unfold ixN at h
 by_cases h0:0≤i
 ·rw [if_pos h0] at h
  by_cases h1:i<n
  ·rw [if_pos h1] at h
   have e:i.toNat=j:=Option.some.inj h
   exact⟨by rw [seqIndex_of h0 h1,e],by lia,by lia,h1⟩
  ·rw [if_neg h1] at h;cases h
 ·rw [if_neg h0] at h
  by_cases h1:-(n:Int)≤i
  ·rw [if_pos h1] at h
   have e:(i+n).toNat=j:=Option.some.inj h
   exact⟨by rw [seqIndex_neg (by lia) h1,e],by lia,h1,by lia⟩
  ·rw [if_neg h1] at h;cases h
theorem atI_get {α:Type} {xs:List α} {i:Int} {v:α} (h:atI xs i=some v):∃ j,seqIndex? i xs.length=some j∧xs[j]?=some v∧j<xs.length∧-(xs.length:Int)≤i∧i<xs.length:=by
 unfold atI at h
 cases e:ixN xs.length i with
 | none=>rw [e] at h;cases h
 | some j =>
  rw [e] at h
  obtain ⟨h1,h2,h3,h4⟩:=ixN_seq e
  exact⟨j,h1,h,h2,h3,h4⟩
theorem atI_nat {α:Type} {xs:List α} {j:Nat} {v:α} (h:xs[j]?=some v):atI xs (j:Int)=some v:=by
 have hj:j<xs.length:=(List.getElem?_eq_some_iff.mp h).1
 have e:ixN xs.length (j:Int)=some j:=by
  unfold ixN
  rw [if_pos (by lia),if_pos (by lia)];simp
 unfold atI;rw [e];exact h
noncomputable def PlainIx (b:Expr):Prop:=∀ o i,subscripted b false o i=operate [o,i] (getItem o i)
noncomputable def IxR (X:Cx) (r:R2):Prop :=
 ∀ (value slice:Expr) (pins:List (Addr×Obj)) (s:Shared) (σ:St) (H:Hp) (x y:V) (v u:Value) (Q:VK),Inv X pins σ H s→RelV x v→RelV y u→r x y H Q →
  subscripted slice false v u=operate [v,u] (getItem v u)→wpAny (model X.prog X.w) X.A (subscriptTail value slice v u) (EP X pins σ Q) X.xe s
noncomputable def MtR (X:Cx) (id:String) (r:V→List V→Hp→VK→Prop):Prop :=
 ∀ (pins:List (Addr×Obj)) (s:Shared) (σ:St) (H:Hp) (x:V) (xs:List V) (v:Value) (us:List Value) (Q:VK),Inv X pins σ H s→RelV x v→Vals xs us→r x xs H Q →
  wpAny (model X.prog X.w) X.A (call (.builtin id) (v::us)) (EP X pins σ Q) X.xe s
section
variable {X:Cx} {a b:Expr} {ta tb:TE} {pos:Pos}
theorem IxR.or {r r':R2} (h:IxR X r) (h':IxR X r'):IxR X (fun x y H Q=>r x y H Q∨r' x y H Q):=by
 intro value slice pins s σ H x y v u Q I rx ry q hs
 rcases q with q|q
 ·exact h value slice pins s σ H x y v u Q I rx ry q hs
 ·exact h' value slice pins s σ H x y v u Q I rx ry q hs
theorem pe_ix {r:R2} (hr:IxR X r) (ha:PE X a ta) (hb:PE X b tb) (hs:PlainIx b):PE X (.Subscript a b pos) (tOp r ta tb):=by
 intro pins s σ H Q I h
 exact Subscript_ (binT ha hb I h fun v u s2 x y H2 I2 rx ry q=>hr a b pins s2 σ H2 x y v u Q I2 rx ry q (hs _ _))
noncomputable def rIxL (K:PySem.W.Frag):R2:=fun x y H Q=>∃ p xs i v,x=.ref p∧y=.int i∧SqL K H p xs∧atI xs i=some v∧Q v H
noncomputable def rIxT (K:PySem.W.Frag):R2:=fun x y H Q=>∃ p xs i v,x=.ref p∧y=.int i∧SqT K H p xs∧atI xs i=some v∧Q v H
noncomputable def rIxS:R2:=fun x y H Q=>∃ z i c,x=.str z∧y=.int i∧z.length≤sizeLine∧atI z.cps.toList i=some c∧Q (.str ⟨#[c]⟩) H
theorem ix_list:IxR X (rIxL X.K):=by
 intro value slice pins s σ H x y v u Q I rx ry h hs
 obtain ⟨p,xs,i,z,rfl,rfl,hq,he,q⟩:=h
 cases rx
 obtain ⟨t,rfl⟩:=ry
 obtain ⟨its,r,pl,hz⟩:=I.list hq
 obtain ⟨j,h1,h2,h3,h4,h5⟩:=atI_get he
 obtain ⟨w,ew,rw'⟩:=r.get h2
 have hl:=r.length
 have hn:=line63
 have fin:EP X pins σ Q w s:=⟨z,H,I,rw',q⟩
 by_cases h0:0≤i
 ·have hj:i.toNat=j:=by
   rw [seqIndex_of h0 h5] at h1
   exact Option.some.inj h1
  exact item_listR pl.isList h0 (by lia) (by rw [hj];simpa using ew) fin hs
 ·have hj:(i+(its.toArray.size:Int)).toNat=j:=by
   rw [seqIndex_neg (by lia) h4] at h1
   rw [List.size_toArray,← hl]
   exact Option.some.inj h1
  exact subscriptTail_builtinR (x:=w) pl.isList.typeIs slot_list_getitem.lookup
   (wpAny_getItem_list_neg (Q:=fun r s'=>r=w∧EP X pins σ Q r s') pl.isList (by lia) (by rw [List.size_toArray] <;> lia) (by lia) (by rw [hj];simpa using ew) ⟨rfl,fin⟩) hs
theorem ix_tup:IxR X (rIxT X.K):=by
 intro value slice pins s σ H x y v u Q I rx ry h hs
 obtain ⟨p,xs,i,z,rfl,rfl,hq,he,q⟩:=h
 cases rx
 obtain ⟨t,rfl⟩:=ry
 obtain ⟨its,r,pl,hz⟩:=I.tuple hq
 obtain ⟨j,h1,h2,h3,h4,h5⟩:=atI_get he
 obtain ⟨w,ew,rw'⟩:=r.get h2
 have hl:=r.length
 have hn:=line63
 have fin:EP X pins σ Q w s:=⟨z,H,I,rw',q⟩
 exact subscriptTail_builtinR (x:=w) pl.typeIs slot_tuple_getitem.lookup
  (getItem_tuple (j:=j) (Q:=fun r s'=>r=w∧EP X pins σ Q r s') pl (by lia) (by lia) (by rw [List.size_toArray,← hl];exact h1) (by simpa using ew) ⟨rfl,fin⟩) hs
theorem ix_str:IxR X rIxS:=by
 intro value slice pins s σ H x y v u Q I rx ry h hs
 obtain ⟨z,i,c,rfl,rfl,hz,he,q⟩:=h
 obtain ⟨t,rfl⟩:=rx
 obtain ⟨t',rfl⟩:=ry
 obtain ⟨j,h1,h2,h3,h4,h5⟩:=atI_get he
 have hl:z.cps.toList.length=z.length:=by simp [Str.length]
 rw [hl] at h1 h4 h5
 have hn:=line63
 exact tail_any (typeIs_str s z t) slot_str_getitem.lookup (getItem_str (c:=c) (by
  have e1:decide (i < -(2 ^ 63:Int))=false:=decide_eq_false (by lia)
  have e2:decide (i ≥ 2 ^ 63)=false:=decide_eq_false (by lia)
  rw [e1,e2,Bool.or_false]) (by rw [h1];simpa using h2) ⟨.str ⟨#[c]⟩,H,I.tok _,⟨_,rfl⟩,q⟩) hs
noncomputable def rIx (K:PySem.W.Frag):R2:=fun x y H Q=>rIxL K x y H Q∨rIxT K x y H Q∨rIxS x y H Q
theorem ix_seq:IxR X (rIx X.K):=ix_list.or (ix_tup.or ix_str)
theorem mapSeq_set (its:List Value) (n j:Nat) (u:Value):Obj.mapSeq (·.setIfInBounds j u) { cls:=.type "list",data:=.seq its.toArray n }={ cls:=.type "list",data:=.seq (its.set j u).toArray n }:=by
 simp [Obj.mapSeq]
theorem Inv.lst {pins:List (Addr×Obj)} {σ:St} {H:Hp} {s:Shared} {p:Addr} {xs:List V} (I:Inv X pins σ H s) (h:H p=some (.lst xs)) :
  ∃ (its:List Value) (n:Nat),Vals xs its∧s.heap.get? p=some { cls:=.type "list",data:=.seq its.toArray n }∧xs.length≤sizeLine:=by
 obtain ⟨z,its,n,r,e⟩:=I.hok p _ h
 exact⟨its,n,r,e,z⟩
theorem Inv.lstUpd {pins:List (Addr×Obj)} {σ:St} {H:Hp} {s:Shared} {p:Addr} {xs ys:List V} {its its':List Value} {n n':Nat} {f:Obj→Obj} (I:Inv X pins σ H s) (h:H p=some (.lst xs))
  (ho:s.heap.get? p=some { cls:=.type "list",data:=.seq its.toArray n }) (hf:f { cls:=.type "list",data:=.seq its.toArray n }={ cls:=.type "list",data:=.seq its'.toArray n' }) (r:Vals ys its') (hz:ys.length≤sizeLine) (t:Nat) :
  Inv X pins σ (upd H p (.lst ys)) { s with heap:=s.heap.update p f,toks:=t }:=by
 have e:(s.heap.update p f).get? p=some { cls:=.type "list",data:=.seq its'.toArray n' }:=by
  rw [Heap.get?_update_self f ho (by rw [hf] <;> rfl),hf]
 refine I.write (x:=p) (e:=p) (by rw [h];trivial) (.inl rfl) (fun b u hb q=>(Heap.get?_update_other _ _ (Ne.symm hb)).trans q) ⟨_,e⟩ ?_
 exact⟨hz,its',n',r,e⟩
noncomputable def rSetL:V→V→V→Hp→(Hp→Prop)→Prop:=fun o i v H Q=>∃ p xs k j,o=.ref p∧i=.int k∧H p=some (.lst xs)∧ixN xs.length k=some j∧Q (upd H p (.lst (xs.set j v)))
theorem set_list:PSet X rSetL:=by
 intro pins s σ H o i v ov iv u Q I ro ri rv h
 obtain ⟨p,xs,k,j,rfl,rfl,hp,hj,q⟩:=h
 cases ro
 obtain ⟨t,rfl⟩:=ri
 obtain ⟨its,n,r,ho,hz⟩:=I.lst hp
 obtain ⟨h1,h2,h3,h4⟩:=ixN_seq hj
 have hl:=r.length
 have hn:=line63
 have I':Inv X pins σ (upd H p (.lst (xs.set j v))) { s with heap:=s.heap.update p (Obj.mapSeq (·.setIfInBounds j u)) } :=
  I.lstUpd hp ho (mapSeq_set its n j u) (r.set rv j) (by rw [List.length_set];exact hz) s.toks
 by_cases h0:0≤k
 ·have hk:k.toNat=j:=by
   rw [seqIndex_of h0 h4] at h1
   exact Option.some.inj h1
  exact PySem.W.ki_setAt ho h0 (by lia) (by rw [List.size_toArray,← hl];exact h4) (by rw [hk];exact⟨_,I',q⟩)
 ·have hk:(k+(its.toArray.size:Int)).toNat=j:=by
   rw [seqIndex_neg (by lia) h3] at h1
   rw [List.size_toArray,← hl]
   exact Option.some.inj h1
  exact PySem.W.ki_setBack ho (by lia) (by rw [List.size_toArray,← hl];exact h3) (by lia) (by rw [hk];exact⟨_,I',q⟩)
theorem slice_bounds (lo hi:Option Int) (n:Nat):(sliceBounds lo hi none n).1=((HT.sIx n 0 lo:Nat):Int)∧(sliceBounds lo hi none n).2.1=((HT.sIx n n hi:Nat):Int)∧(sliceBounds lo hi none n).2.2=1:=by
 refine⟨?_,?_,rfl⟩
 ·cases lo with
  | none=>simp [sliceBounds,HT.sIx]
  | some i =>
   simp only [sliceBounds,HT.sIx,Option.getD_none,show (1:Int) > 0 by decide,if_true]
   by_cases h:i<0
   ·simp only [h,if_true] <;> lia
   ·simp only [h,if_false] <;> lia
 ·cases hi with
  | none=>simp [sliceBounds,HT.sIx]
  | some i =>
   simp only [sliceBounds,HT.sIx,Option.getD_none,show (1:Int) > 0 by decide,if_true]
   by_cases h:i<0
   ·simp only [h,if_true] <;> lia
   ·simp only [h,if_false] <;> lia
theorem slicePick_cut (its:List Value) (lo hi:Option Int):slicePick its.toArray lo hi none=((its.drop (HT.sIx its.length 0 lo)).take (HT.sIx its.length its.length hi - HT.sIx its.length 0 lo)).toArray:=by
 obtain ⟨h1,h2,h3⟩:=slice_bounds lo hi its.toArray.size
 unfold slicePick
 rw [h1,h2,h3]
 simp only [sliceRange_one,pick_run,List.size_toArray] <;> rfl
noncomputable def rSlL (K:PySem.W.Frag):V→Option Int→Option Int→Hp→VK→Prop:=fun x lo hi H Q=>∃ a xs,x=.ref a∧SqL K H a xs∧∀ p,H p=none→Q (.ref p) (upd H p (.lst (cutV xs lo hi)))
theorem sl_list:SlR X (rSlL X.K):=by
 intro pins s σ H x v vl vu lo hi sl Q I rx hs pl pu h
 obtain ⟨a,xs,rfl,hx,q⟩:=h
 cases rx
 obtain ⟨its,r,ht,hz⟩:=I.list hx
 have hlen:=r.length
 refine⟨"list",_,slot_list_getitem.lookup,ht.isList.typeIs,?_⟩
 refine wpAny_getItem_list_slice ht.isList hs pl pu .none (by simp) ?_ (by rw [List.size_toArray] <;> lia)
 rw [slicePick_cut,← hlen]
 refine⟨.ref s.heap.objs.size,_,I.laid (t':=s.toks) (o:=.lst (cutV xs lo hi)) (fun b ob q=>Heap.get?_push_of_some _ q) (Nat.le_refl _) ?_,rfl,q _ (I.hok.fresh (Nat.le_refl _))⟩
 exact⟨Nat.le_trans (cutV_length xs lo hi) hz,_,0,(r.drop (HT.sIx xs.length 0 lo)).take (HT.sIx xs.length xs.length hi - HT.sIx xs.length 0 lo),Heap.get?_push_size _ rfl⟩
theorem call_len_seq:CallR X (.builtin "len") (fun xs H Q=>∃ p ys,xs=[.ref p]∧(SqL X.K H p ys∨SqT X.K H p ys)∧Q (.int ys.length) H):=by
 intro pins s σ H xs us Q I r h
 obtain ⟨p,ys,rfl,hq,q⟩:=h
 obtain ⟨u,rfl,rx⟩:=vals1 r
 cases rx
 have hn:=line63
 rcases hq with hq|hq
 ·obtain ⟨its,r',pl,hz⟩:=I.list hq
  have hlen:=r'.length
  exact Calls.call_len_list pl.isList (by simp only [List.size_toArray] <;> lia) ⟨.int ys.length,H,I.tok _,⟨s.toks+1,by rw [List.size_toArray,hlen]⟩,q⟩
 ·obtain ⟨its,r',pl,hz⟩:=I.tuple hq
  have hlen:=r'.length
  exact len_tuple pl (by simp only [List.size_toArray] <;> lia) ⟨.int ys.length,H,I.tok _,⟨s.toks+1,by rw [List.size_toArray,hlen]⟩,q⟩
theorem call_list_of:CallR X (.type "list") (fun xs H Q=>∃ p ys,xs=[.ref p]∧(SqL X.K H p ys∨SqT X.K H p ys)∧∀ l,H l=none→Q (.ref l) (upd H l (.lst ys))):=by
 intro pins s σ H xs us Q I r h
 obtain ⟨p,ys,rfl,hq,q⟩:=h
 obtain ⟨u,rfl,rx⟩:=vals1 r
 cases rx
 have fin:∀ (its:List Value),Vals ys its→ys.length≤sizeLine→∀ (h':Heap) (c':Nat),(∀ b o',s.heap.get? b=some o'→h'.get? b=some o') →
   h'.get? s.heap.objs.size=some { cls:=.type "list",dict:=none,data:=.seq its.toArray c',slots:=#[] }→EP X pins σ Q (.ref s.heap.objs.size) { s with heap:=h' }:=fun its r' hz h' c' kp e =>
  ⟨.ref s.heap.objs.size,_,I.laid (t':=s.toks) kp (Nat.le_refl _) (show ObjOk X.prog X.w _ h' _ (.lst ys) from ⟨hz,its,c',r',e⟩),rfl,q _ (I.hok.fresh (Nat.le_refl _))⟩
 rcases hq with hq|hq
 ·obtain ⟨its,r',pl,hz⟩:=I.list hq
  have hlen:=r'.length
  obtain ⟨o,ho,hc,n,hd⟩:=pl.isList
  exact call_list_seq p (.inl rfl) ho hc hd (fun h' c' kp e=>fin its r' hz h' c' kp e) (by simp only [List.size_toArray] <;> lia)
 ·obtain ⟨its,r',pl,hz⟩:=I.tuple hq
  have hlen:=r'.length
  obtain ⟨o,ho,hc,n,hd⟩:=pl
  exact call_list_seq p (.inr rfl) ho hc hd (fun h' c' kp e=>fin its r' hz h' c' kp e) (by simp only [List.size_toArray] <;> lia)
theorem call_tuple_of:CallR X (.type "tuple") (fun xs H Q=>∃ p ys,xs=[.ref p]∧((SqL X.K H p ys∧∀ l,H l=none→Q (.ref l) (upd H l (.tup ys)))∨(SqT X.K H p ys∧Q (.ref p) H))):=by
 intro pins s σ H xs us Q I r h
 obtain ⟨p,ys,rfl,h⟩:=h
 obtain ⟨u,rfl,rx⟩:=vals1 r
 cases rx
 rcases h with ⟨hq,q⟩|⟨hq,q⟩
 ·obtain ⟨its,r',pl,hz⟩:=I.list hq
  have hlen:=r'.length
  refine call_tuple_list pl.isList (fun h' kp=>?_) (by simp only [List.size_toArray] <;> lia)
  have I1:Inv X pins σ H { s with heap:=h' }:=I.kept (t':=s.toks) kp
  have I2:Inv X pins σ (upd H h'.objs.size (.tup ys)) { s with heap:=h'.push { cls:=.type "tuple",data:=.seq its.toArray } } :=
   I1.laid (t':=s.toks) (fun b o e=>Heap.get?_push_of_some _ e) (Nat.le_refl _) (show ObjOk X.prog X.w _ _ _ (.tup ys) from ⟨hz,its,r',IsTup.new _ _⟩)
  exact⟨.ref h'.objs.size,_,I2,rfl,q _ (I1.hok.fresh (Nat.le_refl _))⟩
 ·obtain ⟨its,r',pl,hz⟩:=I.tuple hq
  exact call_tuple_same pl ⟨.ref p,H,I,rfl,q⟩
noncomputable def tyV (K:PySem.W.Frag) (T:String) (x:V) (H:Hp):Prop:=match x with
 | .str _=>T = "str"
 | .int _=>T = "int"
 | .ref p=>(T = "list"∧∃ xs,SqL K H p xs)∨(T = "tuple"∧∃ o,K.lookup p=some o∧o.cls=.type "tuple"∧o.dict=none) ∨
   (T = "dict"∧((∃ kvs,H p=some (.dK kvs))∨∃ kvs,H p=some (.dT kvs)))∨(T = "set"∧∃ S n,H p=some (.set S n))
 | _=>False
theorem tyV_is {pins:List (Addr×Obj)} {σ:St} {H:Hp} {s:Shared} {T:String} {x:V} {v:Value} (I:Inv X pins σ H s) (r:RelV x v) (ty:tyV X.K T x H) :
  s.TypeIs v T∧∀ a,v=.ref a→∃ ob,s.heap.get? a=some ob∧ob.dict=none:=by
 cases x with
 | str z =>
  obtain ⟨t,rfl⟩:=r
  cases (show T = "str" from ty)
  exact⟨typeIs_str s z t,fun _ e=>nomatch e⟩
 | int i =>
  obtain ⟨t,rfl⟩:=r
  cases (show T = "int" from ty)
  exact⟨typeIs_int s i t,fun _ e=>nomatch e⟩
 | ref p =>
  cases r
  rcases ty with ⟨rfl,xs,hq⟩|⟨rfl,o,hk,hc,hd⟩|⟨rfl,hk⟩|⟨rfl,S,n,hk⟩
  ·obtain ⟨its,_,pl,_⟩:=I.list hq
   refine⟨pl.isList.typeIs,fun a e=>?_⟩
   cases e
   obtain ⟨o,n,e,c,hd,_⟩:=pl
   exact⟨o,e,hd⟩
  ·refine⟨⟨o,I.kIn p o hk,hc⟩,fun a e=>?_⟩
   cases e
   exact⟨o,I.kIn _ o hk,hd⟩
  ·have z:∃ o,s.heap.get? p=some o∧o.ExactDict:=by
    rcases hk with ⟨kvs,hk⟩|⟨kvs,hk⟩
    ·obtain ⟨_,_,_,_,o,_,_,e,ex,_⟩:=I.hok p _ hk
     exact⟨o,e,ex⟩
    ·obtain ⟨_,_,_,_,o,_,_,e,ex,_⟩:=I.hok p _ hk
     exact⟨o,e,ex⟩
   obtain ⟨o,e,ex⟩:=z
   refine⟨⟨o,e,ex.1⟩,fun a e2=>?_⟩
   cases e2
   exact⟨o,e,ex.2.1⟩
  ·obtain ⟨o,_,_,_,e,ex,_⟩:=I.hok p _ hk
   refine⟨⟨o,e,ex.1⟩,fun a e2=>?_⟩
   cases e2
   exact⟨o,e,ex.2.1⟩
 | _=>exact False.elim ty
noncomputable def tBM0 (K:PySem.W.Frag) (T:String) (r:V→List V→Hp→VK→Prop) (to:TE):TE:=fun σ H Q=>to σ H fun x H1=>tyV K T x H1∧r x [] H1 Q
noncomputable def tBM (K:PySem.W.Frag) (T:String) (r:V→List V→Hp→VK→Prop) (to:TE) (t:TA):TE:=fun σ H Q=>to σ H fun x H1=>tyV K T x H1∧t σ H1 fun xs H2=>r x xs H2 Q
variable {o e:Expr} {es:List Expr} {to:TE} {t:TA} {name:Str} {apos cpos:Pos} {T id:String} {r:V→List V→Hp→VK→Prop}
theorem pe_bm0 (pa:PlainAttrs T) (slot:Slot T name id) (hty:typeOf (.builtin id)=pure (.type "method_descriptor")) (hm:MtR X id r) (ho:PE X o to)
  (hbase:attributeBase o name X.env (eval o X.env)=eval o X.env:=by rfl) (hline:(apos.endLine == cpos.line)=true:=by rfl):PE X (.Call (.Attribute o name apos) [] [] cpos) (tBM0 X.K T r to):=by
 intro pins s σ H Q I h
 refine wpAny_Call_method0_late hbase hline (thn (ho pins s σ H _ I h) fun v s1 ⟨x,H1,I1,r1,ty,q1⟩=>?_)
 obtain ⟨h1,h2⟩:=tyV_is I1 r1 ty
 exact⟨T,id,pa,slot,hty,h1,h2,Calls.callWith_builtin rfl (PySem.evalArgs_none (hm pins s1 σ H1 x [] v [] Q I1 r1 .nil q1))⟩
theorem pe_bm (pa:PlainAttrs T) (slot:Slot T name id) (hty:typeOf (.builtin id)=pure (.type "method_descriptor")) (hm:MtR X id r) (ho:PE X o to) (ha:PA X (e::es) t)
  (hbase:attributeBase o name X.env (eval o X.env)=eval o X.env:=by rfl)
  (hfew:((backTo cpos (starEach (e::es) X.env)).all (fun x=>!x.1) && (backToKw cpos (keywordEach [] X.env)).all (fun x=>x.1.isSome)
   && decide ((e::es).length+([]:List Keyword).length+(if ([]:List Keyword).isEmpty then 0 else 1)<30))=true:=by rfl)
  (hline:(apos.endLine == cpos.line)=true:=by rfl) (hs:starEach (e::es) X.env=(false,eval e X.env)::starEach es X.env:=by rfl) (hplain:(backTo cpos (starEach es X.env)).any (·.1)=false:=by rfl) :
  PE X (.Call (.Attribute o name apos) (e::es) [] cpos) (tBM X.K T r to t):=by
 intro pins s σ H Q I h
 refine wpAny_Call_method_late hbase hfew hline rfl (thn (ho pins s σ H _ I h) fun v s1 ⟨x,H1,I1,r1,ty,q1⟩=>?_)
 obtain ⟨h1,h2⟩:=tyV_is I1 r1 ty
 refine⟨T,id,pa,slot,hty,h1,h2,?_⟩
 have hA:=ha cpos pins s1 σ H1 _ I1 q1
 rw [hs] at hA ⊢
 refine Calls.callWith_builtin (by show (false || (backTo cpos (starEach es X.env)).any (·.1))=false;rw [hplain] <;> rfl) (Calls.evalArgs_plain ?_)
 exact thn hA fun us s2 ⟨vs,H2,I2,r2,q2⟩=>hm pins s2 σ H2 x vs v us Q I2 r1 r2 q2
/- xs.append(e),list.index on a module's tuple .. are MtR facts of 06m -/
end
end L2
namespace L2
open PySem PySem.Spec PyProof.Rows
noncomputable def MtM (X:Cx) (id:String) (r:V→List V→Hp→VK→Prop):Prop :=
 ∀ (pins:List (Addr×Obj)) (s:Shared) (σ:St) (H:Hp) (x:V) (xs:List V) (v:Value) (us:List Value) (Q:VK),Inv X pins σ H s→RelV x v→Vals xs us→r x xs H Q →
  wpAny (model X.prog X.w) X.A (call (.builtin id) (v::us)) (EP X pins σ Q) X.xe s
theorem Vals.one:∀ {x:V} {us:List Value},Vals [x] us→∃ u,us=[u]∧RelV x u
 | _,_,.cons r .nil=>⟨_,rfl,r⟩
theorem Vals.zero:∀ {us:List Value},Vals [] us→us=[]
 | _,.nil=>rfl
theorem Vals.dropLast {xs:List V} {us:List Value} (h:Vals xs us):Vals xs.dropLast us.dropLast:=by
 induction h with
 | nil=>exact .nil
 | cons r t ih =>
  cases t with
  | nil=>exact .nil
  | cons q t'=>exact .cons r ih
theorem Vals.rep {xs:List V} {us:List Value} (h:Vals xs us):∀ k:Nat,Vals (List.replicate k xs).flatten (List.replicate k us).flatten
 | 0=>.nil
 | k+1=>by
  rw [List.replicate_succ,List.replicate_succ,List.flatten_cons,List.flatten_cons]
  exact Vals.append h (Vals.rep h k)
theorem erase_last {α:Type} (l:List α):l.eraseIdx (l.length - 1)=l.dropLast:=by
 induction l with
 | nil=>rfl
 | cons a r ih =>
  cases r with
  | nil=>rfl
  | cons b r =>
   have e:(a::b::r).length - 1=((b::r).length - 1)+1:=by
    have h1:(a::b::r).length=r.length+2:=rfl
    have h2:(b::r).length=r.length+1:=rfl
    lia
   rw [e,List.eraseIdx_cons_succ,ih]
   all_goals rfl
theorem foldl_rep (its:List Value):∀ (k:Nat) (acc:List Value),
  List.foldl (fun x1 x2=>x1++x2) acc.toArray (List.replicate k its.toArray)=(acc++(List.replicate k its).flatten).toArray
 | 0,acc=>by simp
 | k+1,acc=>by
  have e:acc.toArray++its.toArray=(acc++its).toArray:=by simp
  have e2:(acc++its)++(List.replicate k its).flatten=acc++(List.replicate (k+1) its).flatten:=by
   rw [List.replicate_succ,List.flatten_cons,List.append_assoc]
  rw [← e2,← foldl_rep its k (acc++its),← e,List.replicate_succ,List.foldl_cons]
section
variable {X:Cx} {pins:List (Addr×Obj)} {σ:St} {H:Hp} {s:Shared} {l b:Addr} {xs ys zs:List V}
theorem Inv.lset {its its':List Value} {n:Nat} {f:Array Value→Array Value} {t':Nat} (I:Inv X pins σ H s) (hH:H l=some (.lst xs))
  (e:s.heap.get? l=some { cls:=.type "list",data:=.seq its.toArray n }) (hf:f its.toArray=its'.toArray) (hv:Vals ys its') (hz:ys.length≤sizeLine) :
  Inv X pins σ (upd H l (.lst ys)) { s with heap:=s.heap.update l (Obj.mapSeq f),toks:=t' }:=by
 have q:=PySem.IsL.update e f
 rw [hf] at q
 refine I.write (x:=l) (e:=l) (by rw [hH];exact trivial) (.inl rfl) (fun b' u hb hu=>(Heap.get?_update_other s.heap (Obj.mapSeq f) (Ne.symm hb)).trans hu) ⟨_,q⟩ ?_
 exact⟨hz,its',_,hv,q⟩
theorem Inv.lnew {its:List Value} {t':Nat} (I:Inv X pins σ H s) (hv:Vals ys its) (hz:ys.length≤sizeLine) :
  Inv X pins σ (upd H s.heap.objs.size (.lst ys)) { s with heap:=s.heap.push { cls:=.type "list",data:=.seq its.toArray },toks:=t' } :=
 I.laid (fun _ _ q=>Heap.get?_push_of_some _ q) (Nat.le_refl _) ⟨hz,its,0,hv,Heap.get?_push_size _ rfl⟩
theorem Inv.fresh (I:Inv X pins σ H s):H s.heap.objs.size=none:=I.hok.fresh (Nat.le_refl _)
theorem Inv.lstM (I:Inv X pins σ H s) (hH:H l=some (.lst xs)):xs.length≤sizeLine∧∃ (its:List Value) (n:Nat),Vals xs its∧xs.length=its.length∧s.heap.get? l=some { cls:=.type "list",data:=.seq its.toArray n }:=by
 obtain ⟨z,its,n,r,e⟩:=I.hok l _ hH
 exact⟨z,its,n,r,r.length,e⟩
theorem notLongL {n:Nat} (h:n≤sizeLine):Builtin.List.listTooLong n=false:=by
 unfold Builtin.List.listTooLong
 exact decide_eq_false (by lia)
end
section
variable {X:Cx}
noncomputable def rAppend:V→List V→Hp→VK→Prop:=fun x vs H Q=>∃ l xs y,x=.ref l∧vs=[y]∧H l=some (.lst xs)∧xs.length<sizeLine∧Q .non (upd H l (.lst (xs++[y])))
theorem mt_append:MtM X "list.append" rAppend:=by
 intro pins s σ H x vs v us Q I rx rv h
 obtain ⟨l,xs,y,rfl,rfl,hH,hz,q⟩:=h
 cases rx
 obtain ⟨u,rfl,ru⟩:=rv.one
 obtain ⟨z,its,n,r,hl,e⟩:=I.lstM hH
 refine call_meets F.slot_list_append ⟨_,e,rfl⟩ F.entry_list_append (F.args_list_append_2 _ _) (PySem.list_append l its.toArray n u (by rw [List.size_toArray];lia)) ⟨e,?_⟩
 refine⟨.non,_,I.lset (its':=its++[u]) hH e (by simp) (r.append (.cons ru .nil)) ?_,rfl,q⟩
 rw [List.length_append,List.length_singleton]
 lia
noncomputable def rExtend:V→List V→Hp→VK→Prop:=fun x vs H Q=>∃ l b xs zs,x=.ref l∧vs=[.ref b]∧H l=some (.lst xs)∧H b=some (.lst zs)∧xs.length+zs.length≤sizeLine∧Q .non (upd H l (.lst (xs++zs)))
theorem mt_extend:MtM X "list.extend" rExtend:=by
 intro pins s σ H x vs v us Q I rx rv h
 obtain ⟨l,b,xs,zs,rfl,rfl,hH,hB,hz,q⟩:=h
 cases rx
 obtain ⟨u,rfl,ru⟩:=rv.one
 cases ru
 obtain ⟨z,its,n,r,hl,e⟩:=I.lstM hH
 obtain ⟨z2,its2,n2,r2,hl2,e2⟩:=I.lstM hB
 have hsz:its.toArray.size+its2.toArray.size≤sizeLine:=by rw [List.size_toArray,List.size_toArray];lia
 have hlong:¬ (!its.toArray.isEmpty && Builtin.List.listTooLong (its.toArray.size+its2.toArray.size))=true:=by
  rw [notLongL hsz,Bool.and_false]
  exact Bool.false_ne_true
 refine call_meets F.slot_list_extend ⟨_,e,rfl⟩ F.entry_list_extend (F.args_list_extend_2 _ _)
  (AutoSeq1.list_extend_list_list_0 l its.toArray n b its2.toArray n2 hlong (by rw [List.size_toArray];lia) (by lia)) ⟨e,e2,?_⟩
 refine⟨.non,_,I.lset (its':=its++its2) hH e (by simp) (r.append r2) ?_,rfl,q⟩
 rw [List.length_append]
 lia
noncomputable def rPop:V→List V→Hp→VK→Prop:=fun x vs H Q=>∃ l xs y,x=.ref l∧vs=[]∧H l=some (.lst xs)∧xs[xs.length - 1]?=some y∧Q y (upd H l (.lst xs.dropLast))
theorem mt_pop:MtM X "list.pop" rPop:=by
 intro pins s σ H x vs v us Q I rx rv h
 obtain ⟨l,xs,y,rfl,rfl,hH,hy,q⟩:=h
 cases rx
 have hus:=rv.zero
 subst hus
 obtain ⟨z,its,n,r,hl,e⟩:=I.lstM hH
 obtain ⟨u,hu,ru⟩:=r.get hy
 have hy':its.toArray[its.toArray.size - 1]?=some u:=by
  show its.toArray[its.length - 1]?=some u
  rw [← Array.getElem?_toList,← hl]
  exact hu
 refine call_meets F.slot_list_pop ⟨_,e,rfl⟩ F.entry_list_pop (F.args_list_pop_1 _) (MeetsSeq.list_pop_last l its.toArray n u hy' (by rw [List.size_toArray];lia)) ⟨e,?_⟩
 refine⟨y,_,I.lset (its':=its.dropLast) hH e ?_ r.dropLast ?_,ru,q⟩
 ·show its.toArray.eraseIdxIfInBounds (its.toArray.size - 1)=its.dropLast.toArray
  rw [List.size_toArray,List.eraseIdxIfInBounds_toArray,erase_last]
 ·rw [List.length_dropLast]
  lia
noncomputable def rClear:V→List V→Hp→VK→Prop:=fun x vs H Q=>∃ l xs,x=.ref l∧vs=[]∧H l=some (.lst xs)∧Q .non (upd H l (.lst []))
theorem mt_clear:MtM X "list.clear" rClear:=by
 intro pins s σ H x vs v us Q I rx rv h
 obtain ⟨l,xs,rfl,rfl,hH,q⟩:=h
 cases rx
 have hus:=rv.zero
 subst hus
 obtain ⟨z,its,n,r,hl,e⟩:=I.lstM hH
 refine call_meets F.slot_list_clear ⟨_,e,rfl⟩ F.entry_list_clear (F.args_list_clear_1 _) (AutoSeq1.list_clear_list_0 l its.toArray n (by rw [List.size_toArray];lia)) ⟨e,?_⟩
 exact⟨.non,_,I.lset (its':=[]) (ys:=[]) hH e rfl .nil (Nat.zero_le _),rfl,q⟩
noncomputable def rCat:R2:=fun x y H Q=>∃ l b xs zs,x=.ref l∧y=.ref b∧H l=some (.lst xs)∧H b=some (.lst zs)∧xs.length+zs.length≤sizeLine∧∀ p,H p=none→Q (.ref p) (upd H p (.lst (xs++zs)))
theorem op_cat:OpR X (binaryOp .Add) rCat:=by
 intro pins s σ H x y v u Q I rx ry h
 obtain ⟨l,b,xs,zs,rfl,rfl,hH,hB,hz,q⟩:=h
 cases rx
 cases ry
 obtain ⟨z,its,n,r,hl,e⟩:=I.lstM hH
 obtain ⟨z2,its2,n2,r2,hl2,e2⟩:=I.lstM hB
 refine PySem.P.add_list e e2 ?_ (by rw [List.size_toArray,List.size_toArray];lia)
 have ea:its.toArray++its2.toArray=(its++its2).toArray:=by simp
 rw [ea]
 exact⟨.ref _,_,I.lnew (t':=s.toks) (r.append r2) (by rw [List.length_append];lia),rfl,q _ I.fresh⟩
noncomputable def rRep:R2:=fun x y H Q=>∃ l k xs,x=.ref l∧y=.int k∧H l=some (.lst xs)∧-(2 ^ 63)≤k∧k<2 ^ 63∧xs.length*k.toNat≤sizeLine ∧
 ∀ p,H p=none→Q (.ref p) (upd H p (.lst (List.replicate k.toNat xs).flatten))
theorem len_rep {α:Type} (xs:List α) (k:Nat):(List.replicate k xs).flatten.length=k*xs.length:=by
 induction k with
 | zero=>simp
 | succ k ih=>rw [List.replicate_succ,List.flatten_cons,List.length_append,ih,Nat.succ_mul,Nat.add_comm]
theorem op_rep:OpR X (binaryOp .Mult) rRep:=by
 intro pins s σ H x y v u Q I rx ry h
 obtain ⟨l,k,xs,rfl,rfl,hH,h1,h2,hz,q⟩:=h
 cases rx
 obtain ⟨t,rfl⟩:=ry
 obtain ⟨z,its,n,r,hl,e⟩:=I.lstM hH
 have hlen:its.toArray.size*k.toNat≤sizeLine:=by rw [List.size_toArray,← hl];exact hz
 have hcap:¬ its.toArray.size*k.toNat > (2 ^ 63 - 1) / 8:=by
  have:(sizeLine:Nat)≤(2 ^ 63 - 1) / 8:=by decide
  lia
 have hfit:¬ (!Builtin.List.listFitsIndex k)=true:=by
  rw [fitsIndex_both h1 h2]
  exact Bool.false_ne_true
 have hlong:¬ Builtin.List.listTooLong (its.toArray.size*k.toNat)=true:=by
  rw [notLongL hlen]
  exact Bool.false_ne_true
 have hnew:List.foldl (fun x1 x2=>x1++x2) #[] (List.replicate (if its.toArray.isEmpty=true then 0 else k.toNat) its.toArray)=(List.replicate k.toNat its).flatten.toArray:=by
  have f0:∀ m:Nat,List.foldl (fun x1 x2=>x1++x2) #[] (List.replicate m its.toArray)=(List.replicate m its).flatten.toArray:=fun m=>by
   have:=foldl_rep its m []
   rw [List.nil_append] at this
   exact this
  rw [f0]
  cases its with
  | nil=>simp
  | cons a r'=>rw [if_neg (by simp)]
 refine wpAny_binaryOp_repeat_ref (T:="list") (U:="int") (by decide) ⟨_,e,rfl⟩ (fun s'=>typeIs_int s' k t) noFill_list_mul F.fills_int_mul F.slot_int_rmul repeat_list F.slot_int_index.lookup
  (call_meets F.slot_int_rmul (typeIs_int s k t) F.entry_int_rmul (F.args_int_rmul_2 _ _) (int___rmul___int_list k t l its.toArray n)
   ⟨e,rfl,⟨_,e,rfl⟩,call_meets F.slot_list_mul ⟨_,e,rfl⟩ F.entry_list_mul (F.args_list_mul_2 _ _) (AutoListH.list___mul___list_int_3 l its.toArray n k t hfit hcap hlong) ⟨e,?_⟩⟩)
 rw [hnew]
 exact⟨.ref _,_,I.lnew (t':=s.toks) (r.rep k.toNat) (by rw [len_rep,Nat.mul_comm];exact hz),rfl,q _ I.fresh⟩
end
end L2
namespace Att
open PySem PySem.W PySem.Calls PyProof.Rows
theorem ints_of_wellAll {P:Params} {h:Heap}:∀ (ns:List Int) (vs:List Value),WellAll P h vs (ns.map WData.int)→IntsAre vs ns:=by
 intro ns
 induction ns with
 | nil =>
  intro vs w
  rw [List.map_nil] at w
  cases w
  exact .nil
 | cons n ns ih =>
  intro vs w
  rw [List.map_cons] at w
  cases w with
  | cons a b =>
   cases a
   exact .cons _ _ (ih _ b)
theorem script_of {l:OpenLaw} {n:Nat} (hn:l.most=some n) {P:Params} {h:Heap} {args:List WData} {vals:List Value}
  (hpre:l.row.toRowW.claim.pre args=true) (hwl:WellAll P h vals args) :
  ∃ a vs ns,vals=[Value.ref a]∧args=[WData.list (ns.map WData.int)]∧h.get? a=some { cls:=.type "list",data:=.seq vs.toArray }∧IntsAre vs ns∧ns.length≤n:=by
 have hsh:WShape.hasAll [] args [.list .int]=true:=(pre_splitW hpre).1
 have hc:l.pre.holds [] { args:=args }=true:=(pre_splitW hpre).2
 obtain ⟨d,r,rfl,h1,h2⟩:=hasAllW_cons hsh
 obtain rfl:=hasAllW_nil h2
 obtain ⟨xs,rfl,h3⟩:=hasW_list h1
 obtain ⟨ns,rfl⟩:=items_int h3
 have hlen:ns.length≤n:=by
  unfold OpenLaw.pre at hc
  have h4:(WTm.not (.lt (.lit (.int (n:Int))) (.len (.arg 0)))).holds [] { args:=[.list (ns.map .int)] }=true:=by
   have h4:=(holds_andW hc).1
   rw [hn] at h4
   exact h4
  have h5:=condW_of h4 (w_not (w_lt w_lit (w_len_list (w_arg rfl))))
  rw [List.length_map] at h5
  refine Nat.le_of_not_lt fun q=>?_
  have q':(n:Int)<((ns.length:Nat):Int):=by lia
  first
   | (rw [decide_eq_true q'] at h5;exact absurd h5 (by decide))
   | (simp at h5;lia)
 cases hwl with
 | cons w1 w2 =>
  cases w2
  cases w1 with
  | list ho hall=>exact⟨_,_,ns,rfl,rfl,ho,ints_of_wellAll ns _ hall,hlen⟩
theorem post_true (l:OpenLaw) (args:List WData):l.row.toRowW.claim.post args (.bool true) args=true :=
 postW_of (r:=l.row.toRowW) (X:=(true == true))
  (show WShape.has [] (.bool true) .bool=true by first|rfl|decide|simp [WShape.has,WShape.arms,WShape.armsAll])
  (show (WTm.eq .res (.lit (.bool true))).value [] { args:=args,res:=some (.bool true),after:=args }=some (.bool (true == true)) from w_eq_bool (w_res rfl) w_lit) rfl
theorem attach_call {l:OpenLaw} {n:Nat} {q:Program} {loose:List Str} {XP:(Str→Option Value)→Heap→Prop} {YP:World→Heap→Prop} {d:DefRec}
  (hn:l.most=some n) (hdf:d.params.defaults=[])
  (call:∀ (w:World) (s₀ s₁:Shared) (mg mb:Str→Option Value) (fa:Addr) (o:Obj) (pm cd doc:Value) (a:Addr) (vs:List Value) (ns:List Int),
   Ground q loose [] XP w s₀ mg mb s₁.heap→YP w s₁.heap →
   s₁.heap.get? fa=some o→o.data=.func (docDef d.name d.params d.body d.scope pm cd doc)→s₁.heap.CodeRec cd d.name→mg d.name=some (.ref fa) →
   s₁.heap.get? a=some { cls:=.type "list",data:=.seq vs.toArray }→IntsAre vs ns→ns.length≤n→s₁.gens=#[] →
   codeAny (model l.prog w) callerA (.call (.ref fa) ⟨[.ref a],[]⟩) (fun r s'=>r=.ok (.ret (.bool true))∧OldK s₁.heap s'.heap∧s'.os=s₁.os∧AllBare s'.gens) s₁) :
  WalkO q loose XP YP l.row.toRowW d [] (fun f vs=>PySem.call f vs):=by
 intro w s₀ s₁ mg mb G Y fa o pm cd doc dV kV ho hd hcd hD hmg hg args vals as hpre hlay hrd hwl hlo
 obtain rfl:dV=.none:=Dflts.none hD hdf
 obtain rfl:kV=.none:=Dflts.noKw hD
 obtain ⟨a,vs,ns,rfl,rfl,hobj,hints,hlen⟩:=script_of hn hpre hwl
 refine enter_call (codeAny_mono (call w s₀ s₁ mg mb fa o pm cd doc a vs ns G Y ho (fd_plain hd) hcd hmg hobj hints hlen hg) fun r s' hq=>?_)
 obtain ⟨rfl,h2,h3,h4⟩:=hq
 exact⟨.inl ⟨.bool true,.bool true,[],rfl,fun _=>rfl,.bool true,post_true l _,fun _=>⟨List.Pairwise.nil,fun _ hm=>(nomatch hm)⟩⟩,h2,h3,h4⟩
section
variable {prog:Program} {w:World} {A:Around} {E:Value→Shared→Prop} {s:Shared} {K:Frag}
noncomputable def noObjs (h:Heap):Heap:={ h with objs:=#[] }
theorem noObjs_get (h:Heap) (b:Addr):(noObjs h).get? b=none:=by
 cases e:(noObjs h).get? b with
 | none=>rfl
 | some o=>exact absurd (Heap.lt_size e) (Nat.not_lt_zero _)
noncomputable def ledger (h:Heap) (L d:Addr):List (Addr×Obj):=(List.range h.objs.size).filterMap fun a=>if a=L∨a=d then none else (h.get? a).map fun o=>(a,o)
theorem mem_ledger {h:Heap} {L d a:Addr} {o:Obj}:(a,o)∈ledger h L d↔a≠L∧a≠d∧h.get? a=some o:=by
 unfold ledger
 rw [List.mem_filterMap]
 constructor
 ·rintro ⟨b,_,e⟩
  split at e
  ·cases e
  ·rename_i hb
   obtain ⟨o',ho,e'⟩:=Option.map_eq_some_iff.mp e
   cases e'
   exact⟨fun q=>hb (.inl q),fun q=>hb (.inr q),ho⟩
 ·rintro ⟨n1,n2,ho⟩
  refine⟨a,List.mem_range.mpr (Heap.lt_size ho),?_⟩
  rw [if_neg (show ¬ (a=L∨a=d) from fun q=>q.elim n1 n2),ho] <;> rfl
theorem news_ledger {h:Heap} {L d:Addr} {od:Obj} (hne:d≠L) (ho:h.get? d=some od):News (noObjs h) L h ([]++(d,od)::ledger h L d):=by
 rintro ⟨a,o⟩ hp
 rcases List.mem_cons.mp hp with e|hp
 ·cases e
  exact⟨ho,hne,noObjs_get _ _⟩
 ·obtain ⟨n1,n2,e⟩:=mem_ledger.mp hp
  exact⟨e,n1,noObjs_get _ _⟩
theorem fr_all {h:Heap} {L:Addr} {m:Str→Option Value} (n:h.Ns L m):Fr (noObjs h) L h m :=
 ⟨n,fun b o e=>(by rw [noObjs_get] at e;cases e),Nat.zero_le _⟩
theorem set_field {x C dx L:Addr} {ox:Obj} {m:Str→Option Value} {es es':List DictEntry} {n n':Nat} {name:Str} {v:Value} {Q:Unit→Shared→Prop}
  (X:K.In s.heap) (I:PySem.W.InstAt s.heap x ox C (some (dictOf es n))) (hd:ox.dict=some dx) (hL:s.heap.Ns L m) (hne:dx≠L)
  (hs:findIn K (.ref C) "__setattr__"=some (some (.builtin "object.__setattr__"))) (hp:plainOver K C=true) (ht:takerIn K C name=some none) (hh:hasDictIn K C=true) (hl:(getL name es).isSome=true)
  (e:(putL name (PyData.keyHash w.params name) (.str name (s.toks+1)) v es,putN name es n)=(es',n')) (hz:es'.length≤1000)
  (h:∀ h':Heap,h'.Ns L m→h'.get? dx=some (dictOf es' n')→(∀ b o,b≠dx→b≠L→s.heap.get? b=some o→h'.get? b=some o)→Q () { s with heap:=h',toks:=s.toks+2 }) :
  wpAny (model prog w) A (setAttr (.ref x) name v) Q E s:=by
 obtain ⟨e1,e2⟩:=Prod.mk.inj e
 have hdx:s.heap.get? dx=some (dictOf es n):=by
  have:=I.dict
  rw [hd] at this
  exact this
 refine set_plain X I hs (osa_dict (s:={ s with toks:=s.toks+1 }) (h₀:=noObjs s.heap) (L:=L) (m:=m) (od:=dictOf es n) (od':=dictOf es' n') (es:=es') (n:=n') (pre:=[]) (post:=ledger s.heap L dx)
  (fr_all hL) (news_ledger hne hdx) X I hd hp ht hh hl (fun _ q=>nomatch q) (fun ⟨_,_⟩ q=>(mem_ledger.mp q).2.1) (by rw [putName_dict,e1,e2]) rfl hz fun h' F' N'=>?_)
 exact h h' F'.ns (N'.get (List.Mem.head _)) fun b o n1 n2 ho=>N'.get (List.Mem.tail _ (mem_ledger.mpr ⟨n2,n1,ho⟩))
end
end Att
namespace L2
open PySem PySem.Spec PyProof.Rows
theorem vals_ints:∀ {vs:List Value} {ns:List Int},IntsAre vs ns→Vals (ns.map V.int) vs
 | _,_,.nil=>.nil
 | _,_,.cons n t h=>.cons ⟨t,rfl⟩ (vals_ints h)
end L2
namespace L2
open PySem PySem.Spec PyProof.Rows
noncomputable def defArgs (s:Stmt):Arguments:=match s with
 | .FunctionDef _ a _ _ _ _ _ _ _ _=>a
 | _=>{ posonlyargs:=[],args:=[],vararg:=none,kwonlyargs:=[],kw_defaults:=[],kwarg:=none,defaults:=[] }
noncomputable def defBody (s:Stmt):List Stmt:=match s with
 | .FunctionDef _ _ b _ _ _ _ _ _ _=>b
 | _=>[]
noncomputable def defScope (s:Stmt):Scope:=match s with
 | .FunctionDef _ _ _ _ _ _ sc _ _ _=>sc
 | _=>{ kind:=.function,names:=[],isGenerator:=false,isCoroutine:=false }
noncomputable abbrev CX0:CXT:=fun _ _ _ _ _ _=>False
noncomputable abbrev E0:XK:=fun _ _ _=>False
theorem pass0 {X:Cx}:Passes CX0 X E0:=fun _ _ _ _ _ _ _ h=>h.elim
structure Fun (K:PySem.W.Frag) (x qual:Str) (st:Stmt) (f:Addr) (fd:FuncData):Prop where
 ex:∃ (oc:Value) (od:Option Addr) (kV doc pm:Value) (an:Option Addr) (cdv ct:Value) (osl:Array (Option Value)),
  fd=PySem.W.fnOf x qual (defArgs st) (defBody st) (defScope st) .none kV doc pm an cdv ct∧K.lookup f=some ⟨oc,od,.func fd,osl⟩∧PySem.W.codeIn K cdv qual=true
 kp:PySem.W.keepIn K (.ref f)=true
section
variable {P:Program} {w:World} {K:PySem.W.Frag} {mg:Str→Option Value} {base:Heap}
theorem Fun.ok {x qual:Str} {st:Stmt} {f:Addr} {fd:FuncData} {N ps:List Str} {k:Nat} {sp:Sp} (F:Fun K x qual st f fd) (S:FnScope N ps (defScope st)) (len:∀ vs H Q E,sp vs H Q E→vs.length=ps.length)
  (hbody:∀ (cdv:Value) (A:Around) (outer:List Env) (s:Shared) (H:Hp) (vs:List V) (Q:VK) (E:XK),Room k (A.deeper (envOfC qual (defScope st) s.heap.objs.size f cdv))→sp vs H Q E →
   ∃ t,PSs (cxOf CX0 P w K mg base N qual (defScope st) f cdv A outer s H E).nox (defBody st) t∧t { nx:=fun _ H'=>Q .non H',rt:=Q } (start N vs) H):FnOk P w K mg base CX0 (k+1) f fd ps sp:=by
 obtain ⟨oc,od,kV,doc,pm,an,cdv,ct,osl,rfl,lk,hcd⟩:=F.ex
 refine fn_of lk hcd S len fun A outer s H vs Q E hr hsp=>?_
 obtain ⟨t,h,q⟩:=hbody cdv A outer s H vs Q E hr hsp
 exact⟨t,h.nox,q⟩
theorem Fun.binds {x qual:Str} {st:Stmt} {f:Addr} {fd:FuncData} {ps:List Str} (F:Fun K x qual st f fd)
  (h:∀ (kV doc pm:Value) (an:Option Addr) (cdv ct:Value) (us:List Value),us.length=ps.length→bindArgs (PySem.W.fnOf x qual (defArgs st) (defBody st) (defScope st) .none kV doc pm an cdv ct) ⟨us,[]⟩=pure (ps.zip us)):Binds K fd ps []:=by
 obtain ⟨oc,od,kV,doc,pm,an,cdv,ct,osl,rfl,lk,hcd⟩:=F.ex
 exact .all (h kV doc pm an cdv ct)
theorem fun_mk {x qual:Str} {st:Stmt} {f:Addr} {oc:Value} {od an:Option Addr} {osl:Array (Option Value)} {kV doc pm cdv ct:Value} (l:K.lookup f=some ⟨oc,od,.func (PySem.W.fnOf x qual (defArgs st) (defBody st) (defScope st) .none kV doc pm an cdv ct),osl⟩)
  (c:PySem.W.codeIn K cdv qual=true) (k:PySem.W.keepIn K (.ref f)=true):Fun K x qual st f (PySem.W.fnOf x qual (defArgs st) (defBody st) (defScope st) .none kV doc pm an cdv ct):=⟨⟨oc,od,kV,doc,pm,an,cdv,ct,osl,rfl,l,c⟩,k⟩
end
theorem hu_of {A:Around} {k:Nat} (hr:Room k A):A.units+1<cLine:=Nat.lt_of_le_of_lt (Nat.add_le_add_left (by decide:1≤64) _) hr.units
theorem small1000 {n:Nat} (h:n≤1000):n<sizeLine:=Nat.lt_of_le_of_lt h (by decide)
section
variable {X:Cx}
theorem pv (i:Nat) {x:Str} {pos:Pos} (hN:X.N[i]?=some x:=by rfl) (hv:Vis X.env.scope x:=by first|exact Or.inl rfl|exact Or.inr (Or.inl rfl)|exact Or.inr (Or.inr rfl)) (hd:(x == ("__debug__":Str))=false:=by decide)
  (hcd:(x == ("__classdict__":Str))=false:=by decide):PE X (.Name x pos) (tVar i):=pe_var hN hv hd hcd
end
theorem iteF {A B:Prop} (h:B):if false=true then A else B:=by
 rw [if_neg Bool.false_ne_true]
 exact h
theorem iteT {A B:Prop} (h:A):if true=true then A else B:=by
 rw [if_pos rfl]
 exact h
noncomputable def Same (H H':Hp):Prop:=∀ b o,H b=some o→H' b=some o
theorem Same.refl (H:Hp):Same H H:=fun _ _ h=>h
theorem Same.trans {H H1 H2:Hp} (a:Same H H1) (b:Same H1 H2):Same H H2:=fun c o h=>b c o (a c o h)
theorem Same.seq {K:PySem.W.Frag} {H H':Hp} {a:Addr} {xs:List V} (e:Same H H') (h:SqL K H a xs):SqL K H' a xs:=by
 rcases h with (h|⟨o,h⟩)|h
 ·exact .inl (.inl (e _ _ h))
 ·exact .inl (.inr ⟨o,e _ _ h⟩)
 ·exact .inr h
end L2
namespace L2
open PySem
noncomputable def clOf (cells:List (Str×Addr)):List (Str×NameKind)→List (Str×Addr)→List (Str×Addr)
 | [],acc=>acc
 | (n,k)::r,acc=>clOf cells r (if k == .free then (match cells.lookup n with|some c=>(n,c)::acc|none=>acc) else acc)
theorem closure_eq {scope:Scope} {env:Env} (h:∀ p∈scope.names,p.2=.free→∃ c,env.cells.lookup p.1=some c):closureFor scope env=pure (clOf env.cells scope.names []):=by
 have key:∀ (names:List (Str×NameKind)) (acc:List (Str×Addr)),(∀ p∈names,p.2=.free→∃ c,env.cells.lookup p.1=some c) →
   (forIn names acc (fun (x:Str×NameKind) (cs:List (Str×Addr))=>if (x.2 == NameKind.free)=true then (do let c ← cellOf env x.1;pure (ForInStep.yield ((x.1,c)::cs))) else pure (ForInStep.yield cs)):Sem (List (Str×Addr)))=pure (clOf env.cells names acc):=by
  intro names
  induction names with
  | nil=>intro acc _;rfl
  | cons p r ih =>
   intro acc hp
   obtain ⟨n,k⟩:=p
   rw [List.forIn_cons]
   by_cases hk:k=.free
   ·subst hk
    obtain ⟨c,hc⟩:=hp (n,.free) List.mem_cons_self rfl
    have e:cellOf env n=pure c:=by unfold cellOf;rw [show env.cells.lookup n=some c from hc]
    show (if (NameKind.free == NameKind.free)=true then _ else _) >>= _=_
    rw [if_pos (by rfl)]
    dsimp only
    rw [e]
    show (forIn r ((n,c)::acc) _:Sem _)=_
    rw [ih _ fun q hq=>hp q (List.mem_cons_of_mem _ hq)]
    simp [clOf,show env.cells.lookup n=some c from hc]
   ·have hk':(k == NameKind.free)=false:=by simpa using hk
    show (if (k == NameKind.free)=true then _ else _) >>= _=_
    rw [if_neg (by rw [hk'];exact Bool.false_ne_true)]
    show (forIn r acc _:Sem _)=_
    rw [ih _ fun q hq=>hp q (List.mem_cons_of_mem _ hq)]
    simp [clOf,hk']
 unfold closureFor
 have k:=key scope.names [] h
 exact (congrArg (fun m:Sem (List (Str×Addr))=>m >>= fun cs=>pure cs) k).trans rfl
theorem clOf_sub {cells:List (Str×Addr)}:∀ {names:List (Str×NameKind)} {acc:List (Str×Addr)},(∀ x c,acc.lookup x=some c→cells.lookup x=some c)→∀ x c,(clOf cells names acc).lookup x=some c→cells.lookup x=some c
 | [],acc,h,x,c,e=>h x c e
 | (n,k)::r,acc,h,x,c,e=>by
  refine clOf_sub (names:=r) (fun y d q=>?_) x c e
  split at q
  ·split at q
   ·rename_i c0 hc0
    rw [List.lookup_cons] at q
    split at q
    ·rename_i hy
     have hy':y=n:=by simpa using hy
     subst hy'
     rw [hc0];exact q
    ·exact h y d q
   ·exact h y d q
  ·exact h y d q
theorem clOf_has {cells:List (Str×Addr)}:∀ {names:List (Str×NameKind)} {acc:List (Str×Addr)} {x:Str},(acc.lookup x).isSome=true∨((x,NameKind.free)∈names∧(cells.lookup x).isSome=true)→((clOf cells names acc).lookup x).isSome=true
 | [],acc,x,h=>by
  rcases h with h|h
  ·exact h
  ·exact absurd h.1 (by simp)
 | (n,k)::r,acc,x,h=>by
  refine clOf_has (names:=r) ?_
  rcases h with h|⟨hm,hc⟩
  ·left
   split
   ·split
    ·rw [List.lookup_cons];split
     ·rfl
     ·exact h
    ·exact h
   ·exact h
  ·rcases List.mem_cons.mp hm with e|hm
   ·injection e with e1 e2
    subst e1;subst e2
    left
    rw [if_pos (by rfl)]
    cases hq:cells.lookup x with
    | none=>rw [hq] at hc;cases hc
    | some c=>simp
   ·exact .inr ⟨hm,hc⟩
section
variable {prog:Program} {w:World} {A:Around}
theorem comp_loop {R:Result→Shared→Prop} {s:Shared} {elt target iter:Expr} {ifs:List Expr} {scope:Scope} {pos:Pos} {it acc:Value} {env:Env} {E:Value→Shared→Prop} (hE:∀ e s',E e s'→notedBy (model prog w) A env (fun e s'=>R (.error e) s') e s') (I:Nat→Shared→Prop)
  (turn:∀ n s,I n s→wpAny (model prog w) A (pyNext it) (fun r s₁=>match r with
   | none=>R (.ok .next) s₁
   | some v=>wpAny (model prog w) A (letOwnedTupleGo target it v) (fun _ s₁'=>wpAny (model prog w) A (assign target env v) (fun _ s₂ =>
     wpAny (model prog w) A (forIn ifs true fun c r=>if r=true then do let ok ← isTrue c env (eval c env);pure (ForInStep.yield ok) else pure (ForInStep.yield r)) (fun ok s₃ =>
      if ok=true then wpAny (model prog w) A (eval elt env) (fun x s₄ =>
       wpAny (model prog w) A (call (.builtin "list.append") [acc,x]) (fun _ s₅=>∃ m,m<n∧I m s₅) E s₄) E s₃
      else ∃ m,m<n∧I m s₃) E s₂) E s₁') E s₁) E s)
  (n:Nat) (h:I n s) :
  codeAny (model prog w) A (.compLoop (.ListComp elt [⟨target,iter,ifs,0⟩] scope pos) 0 it acc env) R s:=by
 have noted:∀ {α:Type} {t:Sem α} {Q:α→Shared→Prop} {s:Shared},wpAny (model prog w) A t Q E s→wpAny (model prog w) A t Q (notedBy (model prog w) A env fun e s'=>R (.error e) s') s:=fun q=>wpAny_mono q (fun _ _ z=>z) hE
 refine codeAny_loop rfl I (fun n s hI=>?_) n h
 show wpAny _ A ((compTurn (.ListComp elt [⟨target,iter,ifs,0⟩] scope pos) 0 it acc env).onRaise (fun x=>do noteFrame x env;theTreesLotGoes x)) _ _ s
 refine wpAny_noted ?_
 rw [compTurn_list]
 refine wpAny_bind (wpAny_standAt (wpAny_bind (wpAny_mono (noted (turn n s hI)) (fun r s₁ h₁=>?_) fun _ _ h'=>h')))
 cases r with
 | none=>exact wpAny_pure h₁
 | some v =>
  refine wpAny_bind (wpAny_mono (noted h₁) (fun _ s₁' h₁'=>?_) fun _ _ h'=>h')
  refine wpAny_bind (wpAny_mono (noted h₁') (fun _ s₂ h₂=>wpAny_bind (wpAny_mono (noted h₂) (fun ok s₃ h₃=>?_) fun _ _ h'=>h')) fun _ _ h'=>h')
  cases ok with
  | false=>exact wpAny_pure ⟨rfl,h₃⟩
  | true =>
   simp only [if_true] at h₃ ⊢
   exact wpAny_bind (wpAny_bind (wpAny_mono (noted h₃) (fun x s₄ h₄=>wpAny_bind (wpAny_mono (noted h₄) (fun _ s₅ h₅=>wpAny_pure (wpAny_pure ⟨rfl,h₅⟩)) fun _ _ h'=>h')) fun _ _ h'=>h'))
end
end L2
namespace L2
open PySem PySem.Spec PyProof.Rows
noncomputable abbrev compCx (X:Cx) (pins:List (Addr×Obj)) (N:List Str) (scope:Scope) (C:Addr) (s:Shared) (H:Hp) (fp:List Addr):Cx :=
 { X with N:=N,s₀:=s,H₀:=H,env:=compEnvC scope (clOf X.env.cells scope.names []) C X.env,outer:=X.stack,stack:=X.stack,ex:=fp,fn:=fun _=>false,pn:=X.pn++pins,xe:=fun _ _=>False }
noncomputable def pick (ix:List (Option Nat)) (σ:St):St:=ix.map fun o=>o.bind fun j=>(σ[j]?).join
noncomputable def IxOk (X:Cx) (scope:Scope):List Str→List (Option Nat)→Prop
 | [],[]=>True
 | _::N,none::ix=>IxOk X scope N ix
 | x::N,some j::ix=>(X.N[j]?=some x∧Vis X.env.scope x∧(X.env.scope.names.lookup x == some .local)=false∧scope.names.lookup x=some .free)∧IxOk X scope N ix
 | _,_=>False
theorem IxOk.len {X:Cx} {scope:Scope}:∀ {N:List Str} {ix:List (Option Nat)},IxOk X scope N ix→ix.length=N.length
 | [],[],_=>rfl
 | [],none::_,h=>h.elim
 | [],some _::_,h=>h.elim
 | _::_,[],h=>h.elim
 | _::N,none::ix,h=>by simp only [List.length_cons];rw [IxOk.len (N:=N) (ix:=ix) h]
 | _::N,some _::ix,h=>by simp only [List.length_cons];rw [IxOk.len (N:=N) (ix:=ix) h.2]
theorem IxOk.get {X:Cx} {scope:Scope}:∀ {N:List Str} {ix:List (Option Nat)} {i j:Nat} {x:Str},IxOk X scope N ix→N[i]?=some x→ix[i]?=some (some j) →
  X.N[j]?=some x∧Vis X.env.scope x∧(X.env.scope.names.lookup x == some .local)=false∧scope.names.lookup x=some .free
 | [],[],_,_,_,_,h,_=>by simp at h
 | [],none::_,_,_,_,h,_,_=>h.elim
 | [],some _::_,_,_,_,h,_,_=>h.elim
 | _::_,[],_,_,_,h,_,_=>h.elim
 | _::N,none::ix,0,_,_,_,_,e=>by simp at e
 | _::N,none::ix,i+1,_,_,h,h1,e=>IxOk.get (N:=N) (ix:=ix) (i:=i) h (by simpa using h1) (by simpa using e)
 | y::N,some k::ix,0,j,x,h,h1,e=>by
  simp at h1 e
  subst h1;subst e
  exact h.1
 | _::N,some _::ix,i+1,_,_,h,h1,e=>IxOk.get (N:=N) (ix:=ix) (i:=i) h.2 (by simpa using h1) (by simpa using e)
theorem pick_get {ix:List (Option Nat)} {σ:St} {i:Nat} {v:V} (h:(pick ix σ)[i]?=some (some v)):∃ j,ix[i]?=some (some j)∧σ[j]?=some (some v):=by
 unfold pick at h
 rw [List.getElem?_map] at h
 cases e:ix[i]? with
 | none=>rw [e] at h;cases h
 | some o =>
  rw [e] at h
  cases o with
  | none=>cases h
  | some j =>
   refine⟨j,rfl,?_⟩
   have h':(σ[j]?).join=some v:=Option.some.inj h
   cases q:σ[j]? with
   | none=>rw [q] at h';cases h'
   | some z=>rw [q] at h';have h2:z=some v:=h';rw [h2]
theorem relabel_not_local {env : Env} : ∀ {names : List (Str × NameKind)} {x : Str}, (∀ y ∈ names, y.2 ≠ .cell) →
    ((names.map fun (n, k) => if (k == NameKind.free && env.scope.kind == .function && env.kindOf n == some .cell) then (n, NameKind.cell) else (n, k)).lookup x=some .cell ∨
     (names.map fun (n, k) => if (k == NameKind.free && env.scope.kind == .function && env.kindOf n == some .cell) then (n, NameKind.cell) else (n, k)).lookup x=some .free) → names.lookup x=some .free
  | [], _, _, h => by simp at h
  | (n, k)::r, x, hc, h => by
    have ih := @relabel_not_local env r x fun y hy => hc y (List.mem_cons_of_mem _ hy)
    have hk : k ≠ .cell := hc (n, k) List.mem_cons_self
    rw [List.map_cons] at h
    cases hx : x == n with
    | true =>
      rw [List.lookup_cons, hx]
      by_cases hcnd : (k == NameKind.free && env.scope.kind == .function && env.kindOf n == some .cell)=true
      · have : k=.free := by
          simp only [Bool.and_eq_true, beq_iff_eq] at hcnd
          exact hcnd.1.1
        rw [this]
      · simp only [hcnd, Bool.false_eq_true, if_false, List.lookup_cons, hx] at h
        rcases h with h|h
        · exact absurd (Option.some.inj h) hk
        · exact h
    | false =>
      rw [List.lookup_cons, hx]
      refine ih ?_
      by_cases hcnd : (k == NameKind.free && env.scope.kind == .function && env.kindOf n == some .cell)=true
      · simp only [hcnd, if_true, List.lookup_cons, hx] at h
        exact h
      · simp only [hcnd, Bool.false_eq_true, if_false, List.lookup_cons, hx] at h
        exact h
theorem relabel_free {env : Env} : ∀ {names : List (Str × NameKind)} {x : Str}, names.lookup x=some .free →
    ((names.map fun (n, k) => if (k == NameKind.free && env.scope.kind == .function && env.kindOf n == some .cell) then (n, NameKind.cell) else (n, k)).lookup x=some .cell ∨
     (names.map fun (n, k) => if (k == NameKind.free && env.scope.kind == .function && env.kindOf n == some .cell) then (n, NameKind.cell) else (n, k)).lookup x=some .free)
  | [], _, h => by simp at h
  | (n, k)::r, x, h => by
    have ih := @relabel_free env r x
    rw [List.map_cons]
    cases hx : x == n with
    | true =>
      rw [List.lookup_cons, hx] at h
      have hk : k=.free := Option.some.inj h
      subst hk
      by_cases hcnd : (NameKind.free == NameKind.free && env.scope.kind == .function && env.kindOf n == some .cell)=true
      · simp only [hcnd, if_true, List.lookup_cons, hx];exact .inl trivial
      · simp only [hcnd, Bool.false_eq_true, if_false, List.lookup_cons, hx];exact .inr trivial
    | false =>
      rw [List.lookup_cons, hx] at h
      by_cases hcnd : (k == NameKind.free && env.scope.kind == .function && env.kindOf n == some .cell)=true
      · simp only [hcnd, if_true, List.lookup_cons, hx];exact ih h
      · simp only [hcnd, Bool.false_eq_true, if_false, List.lookup_cons, hx];exact ih h
noncomputable def PTs (Y:Cx):List Expr→TT→Prop
 | [],t=>t=fun _ H Q=>Q true H
 | [c],t=>PT Y c t
 | _,_=>False
noncomputable def CompGoal (ix:List (Option Nat)) (g:TG) (tt:TT) (te:TE) (σ:St) (Q:VK) (J:It) (H1:Hp):Prop:=∀ l,H1 l=none→∃ W:Nat→Nat→St→List V→Hp→Prop,
 (∃ m,W 0 m (pick ix σ) [] (upd H1 l (.lst [])))∧∀ i m σ1 ys H',W i m σ1 ys H'→H' l=some (.lst ys)∧((J.stop i H'∧Q (.ref l) H') ∨
  (J.go i H'∧∃ m',m'<m∧∀ x H2,J.yld i H' x H2→g x σ1 H2 fun σ2 H3=>tt σ2 H3 fun b H4=>if b=true then te σ2 H4 fun y H5=>H5 l=some (.lst ys)∧ys.length<sizeLine∧W (i+1) m' σ2 (ys++[y]) (upd H5 l (.lst (ys++[y]))) else W (i+1) m' σ2 ys H4))
noncomputable def tComp (ix:List (Option Nat)) (wi:TI) (g:TG) (tt:TT) (te:TE):TE:=fun σ H Q=>wi σ H fun J H1=>CompGoal ix g tt te σ Q J H1
theorem Un.letGo {fs ex:List Addr} {H H':Hp} {h h1 h2:Heap} {C:Addr} (u:Un fs ex H H' h h1) (hC:h.objs.size≤C) (sb:Heap.SameBut C h1 h2):Un fs ex H H' h h2:=by
 have ne:∀ b o,h.get? b=some o→b≠C:=fun b o e=>Nat.ne_of_lt (Nat.lt_of_lt_of_le (Heap.lt_size e) hC)
 refine⟨fun b o e n hb hx=>(sb.2 b (ne b o e)).trans (u.keep b o e n hb hx),fun b o e n hb hx=>?_,u.free,fun b o e hx=>?_,u.tups,u.frzs,u.tbls⟩
 ·obtain ⟨sl,q⟩:=u.slot b o e n hb hx
  exact⟨sl,(sb.2 b (ne b o e)).trans q⟩
 ·obtain ⟨o',q⟩:=u.there b o e hx
  exact⟨o',(sb.2 b (ne b o e)).trans q⟩
theorem HOk.letGo {P:Program} {w:World} {H:Hp} {h h':Heap} {C:Addr} (x:HOk P w H h) (hC:H C=none) (sb:Heap.SameBut C h h'):HOk P w H h':=fun a o e=>by
 have na:∀ b u,H b=some u→b≠C:=fun b u q z=>by rw [z,hC] at q;cases q
 refine (x a o e).stay (fun b u hb q=>(sb.2 b ?_).trans q) (fun _ q=>q) fun _ _ q=>q
 rcases hb with rfl|hb
 ·exact na _ _ e
 ·exact na _ _ hb
section
variable {X:Cx}
theorem wp_tests {Y:Cx} {ifs:List Expr} {tt:TT} (ht:PTs Y ifs tt) {pins:List (Addr×Obj)} {s:Shared} {σ:St} {H:Hp} {Q:Bool→Hp→Prop} (I:Inv Y pins σ H s) (h:tt σ H Q) :
  wpAny (model Y.prog Y.w) Y.A (forIn ifs true fun c r=>if r=true then do let ok ← isTrue c Y.env (eval c Y.env);pure (ForInStep.yield ok) else pure (ForInStep.yield r)) (TP Y pins σ Q) Y.xe s:=by
 match ifs,ht with
 | [],ht =>
  have e:tt=fun _ H Q=>Q true H:=ht
  subst e
  exact wpAny_tests_nil ⟨H,I,h⟩
 | [c],ht=>exact wpAny_tests_one ((show PT Y c tt from ht) pins s σ H Q I h)
 | _::_::_,ht=>exact False.elim ht
theorem pe_comp {tg iter elt:Expr} {ifs:List Expr} {scope:Scope} {pos:Pos} {N:List Str} {ix:List (Option Nat)} {wi:TI} {g:TG} {tt:TT} {te:TE}
  (hc:X.calm=true) (hi:PI X tg iter wi)
  (hg:∀ pins C s H fp,PG (compCx X pins N scope C s H fp) tg g)
  (ht:∀ pins C s H fp,PTs (compCx X pins N scope C s H fp) ifs tt)
  (he:∀ pins C s H fp,PE (compCx X pins N scope C s H fp) elt te)
  (hk:scope.kind=.function) (hcell:∀ y∈scope.names,y.2≠.cell) (hnames:∀ y∈scope.names,y.2=.local→scope.names.lookup y.1=some .local)
  (hfr0:(scope.names.all fun y=>!(y.2 == NameKind.free) || (X.env.cells.lookup y.1).isSome)=true) (hix:IxOk X scope N ix)
  (hs:∀ x,foldedSetIterable iter X.env x=pure x:=by intro _;rfl) :
  PE X (.ListComp elt [⟨tg,iter,ifs,0⟩] scope pos) (tComp ix wi g tt te):=by
 intro pins s σ H Q I h
 have hfr:∀ y∈scope.names,y.2=.free→(X.env.cells.lookup y.1).isSome=true:=fun y hy e=>by
  have z:=List.all_eq_true.mp hfr0 y hy
  rw [e] at z
  simpa using z
 have hfr':∀ p∈scope.names,p.2=.free→∃ c,X.env.cells.lookup p.1=some c:=fun p hp e=>Option.isSome_iff_exists.mp (hfr p hp e)
 have clsub:∀ x c,(clOf X.env.cells scope.names []).lookup x=some c→X.env.cells.lookup x=some c:=clOf_sub (fun x c q=>by simp at q)
 have clhas:∀ x,scope.names.lookup x=some .free→∃ c,(clOf X.env.cells scope.names []).lookup x=some c:=fun x hx=>by
  have hm:=PySem.mem_of_lookup hx
  exact Option.isSome_iff_exists.mp (clOf_has (.inr ⟨hm,hfr _ hm rfl⟩))
 rw [eval_ListComp]
 refine wpAny_comprehension_free (use:=none) rfl hs (closure_eq hfr') hk hnames (thn (hi pins s σ H _ I h) fun v s1 h1=>thn h1 fun itv s2 h2=>?_)
 obtain ⟨it,fp,tn,J,H2,e,I2,T,st2,f2,hW⟩:=h2
 subst e
 have hfree2:H2 s2.heap.objs.size=none:=I2.hok.fresh (Nat.le_refl _)
 obtain ⟨W,⟨m0,w0⟩,turn⟩:=hW s2.heap.objs.size hfree2
 refine wpAny_newObj_type ?_
 have I3:Inv X pins σ (upd H2 s2.heap.objs.size (.lst [])) { s2 with heap:=s2.heap.push { cls:=.type "list",data:=.seq ([]:List Value).toArray } }:=I2.lnew (its:=[]) (t':=s2.toks) .nil (Nat.zero_le _)
 have f3:∀ b∈fp,FpOk X pins (upd H2 s2.heap.objs.size (.lst [])) b:=fun b hb=>by
  refine⟨?_,(f2 b hb).2⟩
  obtain ⟨o,eo,_⟩:=T.obj _ _ st2 b hb
  rw [upd_ne (Nat.ne_of_lt (Heap.lt_size eo))]
  exact (f2 b hb).1
 have st3:tn 0 (s2.heap.push { cls:=.type "list",data:=.seq ([]:List Value).toArray }):=T.keep _ _ _ st2 fun b _ o e=>Heap.get?_push_of_some _ e
 generalize hs3:({ s2 with heap:=s2.heap.push { cls:=.type "list",data:=.seq ([]:List Value).toArray } }:Shared)=s3 at I3
 have st3:tn 0 s3.heap:=by rw [← hs3];exact st3
 generalize hH3:upd H2 s2.heap.objs.size (.lst [])=H3 at I3 f3 w0
 generalize hacc:s2.heap.objs.size=acc at *
 refine wpAny_newFunctionEnv hcell (by intro y hy;simp at hy) (fun h₁ hns₁ hsb₁=>?_) hk
 have old:∀ b o,s3.heap.get? b=some o→h₁.get? b=some o:=fun b o q=>hsb₁.extBut b o (Nat.ne_of_lt (Heap.lt_size q)) (Heap.get?_push_of_some _ q)
 have hCfree:H3 s3.heap.objs.size=none:=I3.hok.fresh (Nat.le_refl _)
 have fpl:∀ b∈fp,b<s3.heap.objs.size:=fun b hb=>by
  obtain ⟨o,eo,_⟩:=T.obj _ _ st3 b hb
  exact Heap.lt_size eo
 have nstk:∀ b,b≠X.env.locals→b∉X.fs→b∉frs X.stack:=fun b h1 h2 z=>by
  rcases List.mem_cons.mp (I3.stkSub b z) with q|q
  ·exact h1 q
  ·exact h2 q
 have clt:∀ x c,X.env.cells.lookup x=some c→c<s3.heap.objs.size:=fun x c q=>by
  obtain ⟨v,z⟩:=I3.cell x c q
  exact z.lt
 have YI:∀ (h':Heap) (m:Str→Option Value),(∀ b o,s3.heap.get? b=some o→h'.get? b=some o)→h'.Ns s3.heap.objs.size m →
   Inv (compCx X pins N scope s3.heap.objs.size s3 H3 fp) [] (pick ix σ) H3 { s3 with heap:=h',toks:=s3.toks+([]:List (Str×Value)).length }:=by
  intro h' m hk' hn
  refine⟨⟨I3.ok.mod,hk,I3.ok.glob,I3.ok.blt,Nat.le_refl _,fun x y c q1 q2=>I3.ok.inj x y c (clsub x c q1) (clsub y c q2),fun x hx=>clhas x (relabel_not_local hcell hx),fun x c hf _=>absurd hf Bool.false_ne_true,
   I3.ok.hd,I3.ok.frames,.inl rfl,fun b hb=>⟨Nat.ne_of_lt (fpl b hb),fun x c q=>(f3 b hb).2.2.2.2.1 x c (clsub x c q)⟩,I3.bs,Nat.le_trans I3.ok.bsz I3.sz,fun b o e hb=>?_,fun b hb=>nstk b (f3 b hb).2.1 (f3 b hb).2.2.1,I3.stack,I3.stkFree⟩,
   rfl,I3.bare,Un.kept hk',⟨m,hn,fun i x v h1 h2 h3=>?_⟩,fun x c q=>?_,hCfree,fun x c q=>I3.freeC x c (clsub x c q),fun p hp=>?_,I3.hok.kept hk',?_⟩
  ·have q:=(I3.bs b o e).2
   rcases (f3 b hb).2.2.2.1 with z|z
   ·exact I3.ok.noex b o e z
   ·exact absurd (Nat.lt_of_lt_of_le (Heap.lt_size e) (Nat.le_trans I3.ok.bsz z)) (Nat.lt_irrefl _)
  ·obtain ⟨j,e1,e2⟩:=pick_get h2
   obtain ⟨a1,a2,a3,a4⟩:=hix.get h1 e1
   obtain ⟨mX,hnX,hlX⟩:=I3.loc
   obtain ⟨u,ru,l⟩:=hlX j x v a1 e2 a2
   refine⟨u,ru,?_⟩
   rcases l with ⟨l1,_⟩|⟨_,c,lc,z⟩
   ·have l1':X.env.scope.names.lookup x=some .local:=l1
    rw [l1'] at a3
    exact absurd a3 (by decide)
   ·obtain ⟨c',hc'⟩:=clhas x a4
    have ec:=clsub x c' hc'
    rw [lc] at ec
    have ec':c=c':=Option.some.inj ec
    subst ec'
    exact .inr ⟨relabel_free a4,c,hc',z.keeps hk'⟩
  ·obtain ⟨v,z⟩:=I3.cell x c (clsub x c q)
   exact⟨v,z.keeps hk'⟩
  ·have hp':p∈X.pn++pins:=by simpa using hp
   obtain ⟨a1,a2,a3,a4,a5⟩:=I3.pin p hp'
   exact⟨hk' _ _ a1,a2,Nat.ne_of_lt (Heap.lt_size a1),nstk p.1 a3 a4,a5⟩
  ·show (pick ix σ).length=N.length
   unfold pick
   rw [List.length_map]
   exact hix.len
 have fpY:∀ {pl:List (Addr×Obj)} {H':Hp},pl=[]→(∀ b∈fp,H' b=none)→∀ b∈fp,FpOk (compCx X pins N scope s3.heap.objs.size s3 H3 fp) pl H' b:=fun {pl H'} epl hn b hb=>by
  obtain ⟨f0,f1,f2',f3',f4,f5⟩:=f3 b hb
  subst epl
  exact⟨hn b hb,Nat.ne_of_lt (fpl b hb),nstk b f1 f2',.inl hb,fun x c q=>f4 x c (clsub x c q),fun p hp=>f5 p (by simpa using hp)⟩
 have loop:∀ s4:Shared,(∃ m,s4={ s3 with heap:=h₁,toks:=s3.toks+([]:List (Str×Value)).length }∧h₁.Ns s3.heap.objs.size m) →
   codeAny (model X.prog X.w) X.A (.compLoop (.ListComp elt [⟨tg,iter,ifs,0⟩] scope pos) 0 (.ref it) (.ref acc) (compEnvC scope (clOf X.env.cells scope.names []) s3.heap.objs.size X.env))
    (compPost (model X.prog X.w) X.A X.xe none (EP X pins σ Q) (.ref acc) s3.heap.objs.size) s4:=by
  rintro s4 ⟨m4,rfl,hn4⟩
  refine comp_loop (E:=fun _ _=>False) (fun _ _ z=>z.elim)
   (fun n s'=>∃ i σ' ys H',Inv (compCx X pins N scope s3.heap.objs.size s3 H3 fp) [] σ' H' s'∧tn i s'.heap∧(∀ b∈fp,H' b=none)∧W i n σ' ys H') ?_ m0
   ⟨0,pick ix σ,[],H3,YI h₁ m4 old hn4,T.keep _ _ _ st3 fun b _ o q=>old b o q,fun b hb=>(f3 b hb).1,w0⟩
  rintro n s5 ⟨i,σ5,ys,H5,I5,st5,fr5,w5⟩
  obtain ⟨hl5,hstep⟩:=turn i n σ5 ys H5 w5
  rcases hstep with ⟨stop,q⟩|⟨go,m',hm',step⟩
  ·refine thn (T.done (compCx X pins N scope s3.heap.objs.size s3 H3 fp) rfl rfl rfl hc i [] s5 σ5 H5 (fun _ _=>False) I5 (fpY rfl fr5) st5 stop) fun r s6 ⟨hr,I6⟩=>?_
   subst hr
   obtain ⟨m6,hn6,_⟩:=I6.loc
   refine⟨m6,hn6,fun h' sb=>?_⟩
   refine⟨.ref acc,H5,I3.call' (ch:=fp) I6.os (I6.base.letGo (Nat.le_refl _) sb) (I6.hok.letGo I6.free sb) I6.bare fun b hb=>?_,rfl,q⟩
   obtain ⟨f0,f1,f2',f3',f4,f5⟩:=f3 b hb
   exact⟨f3',f1,f4,f5⟩
  ·refine thn (T.item (compCx X pins N scope s3.heap.objs.size s3 H3 fp) rfl rfl rfl hc i [] s5 σ5 H5 (fun _ _=>False) I5 (fpY rfl fr5) st5 go) fun r s6 ⟨u,hr,h6⟩=>?_
   subst hr
   refine thn h6 fun _ s7 ⟨x,H7,I7,r7,y7,st7,fr7⟩=>?_
   have I7':=I7.pinned (fpY rfl fr7) (T.obj _ _ st7)
   refine thn (hg pins s3.heap.objs.size s3 H3 fp _ s7 σ5 H7 x u _ I7' r7 (step x H7 y7)) fun _ s8 ⟨σ8,H8,I8,q8⟩=>?_
   refine thn (wp_tests (ht pins s3.heap.objs.size s3 H3 fp) I8 q8) fun b s9 ⟨H9,I9,q9⟩=>?_
   have back:∀ {σz:St} {Hz:Hp} {sz:Shared} {yz:List V},Inv (compCx X pins N scope s3.heap.objs.size s3 H3 fp) ([]++pinsAt fp s7.heap) σz Hz sz→W (i+1) m' σz yz Hz →
     ∃ m,m<n∧∃ i σ' ys H',Inv (compCx X pins N scope s3.heap.objs.size s3 H3 fp) [] σ' H' sz∧tn i sz.heap∧(∀ b∈fp,H' b=none)∧W i m σ' ys H':=fun {σz Hz sz yz} Iz wz=>by
    refine⟨m',hm',i+1,σz,yz,Hz,Iz.unpinned,T.keep _ _ _ st7 fun b hb o e=>(Iz.pin (b,o) (List.mem_append_right _ (List.mem_append_right _ (mem_pinsAt hb e)))).1,fun b hb=>?_,wz⟩
    obtain ⟨o,e,d⟩:=T.obj _ _ st7 b hb
    exact (Iz.pin (b,o) (List.mem_append_right _ (List.mem_append_right _ (mem_pinsAt hb e)))).2.1
   cases b with
   | false=>exact back I9 q9
   | true =>
    refine thn (he pins s3.heap.objs.size s3 H3 fp _ s9 σ8 H9 _ I9 q9) fun v s10 ⟨y,H10,I10,r10,hl10,hz10,w10⟩=>?_
    refine thn (mt_append _ s10 σ8 H10 (.ref acc) [y] (.ref acc) [v] (fun _ H'=>H'=upd H10 acc (.lst (ys++[y]))) I10 rfl (.cons r10 .nil) ⟨acc,ys,y,rfl,rfl,hl10,hz10,rfl⟩) fun _ s11 ⟨_,H11,I11,_,e11⟩=>?_
    subst e11
    exact back I11 w10
 have hn4:∃ m,h₁.Ns s3.heap.objs.size m:=⟨_,hns₁⟩
 obtain ⟨m4,hn4⟩:=hn4
 have L:=loop _ ⟨m4,rfl,hn4⟩
 exact codeAny_compStart_list L (T.self _ 0 _ _ _ (T.keep _ _ _ st3 fun b _ o q=>old b o q) L)
end
end L2
namespace L2
open PySem
theorem nne {a b:Nat} (h:@Ne Nat a b):@Ne Addr a b:=h
noncomputable def SrcOf (k:Bool) (h:Heap) (a:Addr) (xs:Array Value):Prop:=match k with|true=>h.IsTuple a xs|false=>h.IsList a xs
noncomputable def ItAt (k:Bool) (h:Heap) (it a:Addr) (i:Nat):Prop:=match k with|true=>h.IsTupleIter it a i|false=>h.IsListIter it a i
noncomputable def itObj (k:Bool) (a:Addr):Obj:=match k with|true=>{ cls:=.type "tuple_iterator",data:=.fields #[.ref a,.int 0 0] }|false=>{ cls:=.type "list_iterator",data:=.fields #[.ref a,.int 0 0] }
noncomputable abbrev IsT (h:Heap) (T:Addr) (vs:Array Value):Prop:=h.get? T=some { cls:=.type "tuple",data:=.seq vs }
theorem SrcOf.keep {k:Bool} {h h':Heap} {a:Addr} {xs:Array Value} (x:SrcOf k h a xs) (hk:∀ o,h.get? a=some o→h'.get? a=some o):SrcOf k h' a xs:=by
 cases k with
 | true=>obtain ⟨o,e,r⟩:=x;exact⟨o,hk o e,r⟩
 | false=>obtain ⟨o,e,r⟩:=x;exact⟨o,hk o e,r⟩
theorem ItAt.keep {k:Bool} {h h':Heap} {it a:Addr} {i:Nat} (x:ItAt k h it a i) (hk:∀ o,h.get? it=some o→h'.get? it=some o):ItAt k h' it a i:=by
 cases k with
 | true=>obtain ⟨o,e,r⟩:=x;exact⟨o,hk o e,r⟩
 | false=>obtain ⟨o,e,r⟩:=x;exact⟨o,hk o e,r⟩
theorem ItAt.obj {k:Bool} {h:Heap} {it a:Addr} {i:Nat} (x:ItAt k h it a i):∃ o,h.get? it=some o∧∀ v,o.data≠.cell v:=by
 cases k with
 | true=>obtain ⟨o,e,_,d⟩:=x;exact⟨o,e,fun v z=>by rw [d] at z;cases z⟩
 | false=>obtain ⟨o,e,_,d⟩:=x;exact⟨o,e,fun v z=>by rw [d] at z;cases z⟩
theorem SrcOf.lt {k:Bool} {h:Heap} {a:Addr} {xs:Array Value} (x:SrcOf k h a xs):a<h.objs.size:=by
 cases k with
 | true=>obtain ⟨o,e,_⟩:=x;exact Heap.lt_size e
 | false=>obtain ⟨o,e,_⟩:=x;exact Heap.lt_size e
theorem itObj_at {k:Bool} {h:Heap} {it a:Addr} (e:h.get? it=some (itObj k a)):ItAt k h it a 0:=by
 cases k with
 | true=>exact⟨_,e,rfl,rfl⟩
 | false=>exact⟨_,e,rfl,rfl⟩
section
variable {prog:Program} {w:World} {A:Around} {E:Value→Shared→Prop} {s:Shared}
theorem src_iter {k:Bool} {a:Addr} {xs:Array Value} {Q:Value→Shared→Prop} (h:SrcOf k s.heap a xs) (hQ:Q (.ref s.heap.objs.size) { s with heap:=s.heap.push (itObj k a) }):wpAny (model prog w) A (pyIter (.ref a)) Q E s:=by
 cases k with
 | true=>exact wpAny_pyIter_tuple h hQ
 | false=>exact wpAny_pyIter_list h hQ
theorem nextOf_tuple_item {it t:Addr} {i:Nat} {items} {x:Value} {Q:Value→Shared→Prop} (hit:s.heap.IsTupleIter it t i)
  (ht:s.heap.IsTuple t items) (hx:items[i]?=some x)
  (hQ:∀ h',h'.IsTupleIter it t (i+1)→Heap.SameBut it s.heap h'→Q x { s with heap:=h' }) :
  wpAny (model prog w) A (Builtin.SmallTypes.nextOf (.ref it)) Q E s:=by
 obtain ⟨o,ho,hc,hd⟩:=id hit
 obtain ⟨ol,hol,_,nl,hdl⟩:=ht
 unfold Builtin.SmallTypes.nextOf
 refine wpAny_bind (wpAny_callSpecial?_slot (name:=Str.ofString "__next__") hit.typeIs F.slot_tuple_iterator_next
  (wpAny_call_entry F.slot_tuple_iterator_next hit.typeIs F.entry_tuple_iterator_next ?_ (F.args_tuple_iterator_next_1 _)))
 show wpAny _ _ (field (.ref it) 0 >>= _) _ _ s
 refine wpAny_bind (wpAny_field ho hd (x:=.ref t) rfl ?_)
 show wpAny _ _ (if (Value.ref t == Value.none)=true then _ else _) _ _ s
 rw [if_neg (show ¬ ((Value.ref t == Value.none)=true) from Bool.false_ne_true)]
 show wpAny _ _ (field (.ref it) 1 >>= _) _ _ s
 refine wpAny_bind (wpAny_field ho hd (x:=.int i 0) rfl ?_)
 show wpAny _ _ (seqItems? (.ref t) >>= _) _ _ s
 refine wpAny_bind (wpAny_seqItems hol hdl ?_)
 simp only [Int.toNat_natCast,hx]
 refine wpAny_bind (wpAny_setField ho hd (by simp) (wpAny_pure ⟨x,rfl,wpAny_pure (hQ _ ?_ (Heap.SameBut.update ..))⟩))
 exact⟨_,Heap.get?_update_self _ ho (Obj.isFreed_of_fields (Obj.data_mapFields hd _)),(Obj.cls_mapFields ..).trans hc,by
  rw [Obj.data_mapFields hd];simp [rawInt]⟩
theorem nextOf_tuple_end {it t:Addr} {i:Nat} {items} {Q:Value→Shared→Prop} (hh:A.handled=none)
  (hit:s.heap.IsTupleIter it t i) (ht:s.heap.IsTuple t items) (hx:items[i]?=none)
  (hE:∀ h' e,Heap.ExtBut it s.heap h'→(∃ o,h'.get? e=some o∧o.cls=.type "StopIteration")→E (.ref e) { s with heap:=h' }) :
  wpAny (model prog w) A (Builtin.SmallTypes.nextOf (.ref it)) Q E s:=by
 obtain ⟨o,ho,hc,hd⟩:=id hit
 obtain ⟨ol,hol,_,nl,hdl⟩:=ht
 unfold Builtin.SmallTypes.nextOf
 refine wpAny_bind (wpAny_callSpecial?_slot (name:=Str.ofString "__next__") hit.typeIs F.slot_tuple_iterator_next
  (wpAny_call_entry F.slot_tuple_iterator_next hit.typeIs F.entry_tuple_iterator_next ?_ (F.args_tuple_iterator_next_1 _)))
 show wpAny _ _ (field (.ref it) 0 >>= _) _ _ s
 refine wpAny_bind (wpAny_field ho hd (x:=.ref t) rfl ?_)
 show wpAny _ _ (if (Value.ref t == Value.none)=true then _ else _) _ _ s
 rw [if_neg (show ¬ ((Value.ref t == Value.none)=true) from Bool.false_ne_true)]
 show wpAny _ _ (field (.ref it) 1 >>= _) _ _ s
 refine wpAny_bind (wpAny_field ho hd (x:=.int i 0) rfl ?_)
 show wpAny _ _ (seqItems? (.ref t) >>= _) _ _ s
 refine wpAny_bind (wpAny_seqItems hol hdl ?_)
 simp only [Int.toNat_natCast,hx]
 refine wpAny_bind (wpAny_rule (wpAny_bind (wpAny_setField ho hd (by simp) ?_)))
 show wpAny _ _ (newExc (.type "StopIteration") [] >>= _) _ _ _
 refine wpAny_bind ?_
 simp only [newExc,newTuple]
 refine wpAny_bind (wpAny_newObj_type ?_ (by size_fits))
 refine wpAny_bind (m:=firstArgMember _ _) (wpAny_of_eq (a:=Value.none) (by first|rfl|(simp only [firstArgMember];rfl)) ?_)
 refine wpAny_newObj_type ?_ (by size_fits)
 simp only [raiseNew]
 refine wpAny_bind (wpAny_handled ?_)
 first|rw [show A.in1.handled=none from hh]|rw [hh]
 refine wpAny_bind (wpAny_pure (wpAny_throw ?_))
 exact hE _ _ (((Heap.SameBut.update ..).extBut.push _).push _) ⟨_,Heap.get?_push_size _ rfl,rfl⟩
theorem sub_item {k:Bool} {it a:Addr} {i:Nat} {xs:Array Value} {x:Value} {Q:Value→Shared→Prop} (hit:ItAt k s.heap it a i) (hs:SrcOf k s.heap a xs) (hx:xs[i]?=some x)
  (hQ:∀ h',ItAt k h' it a (i+1)→Heap.SameBut it s.heap h'→Q x { s with heap:=h' }):wpAny (model prog w) A (Builtin.SmallTypes.nextOf (.ref it)) Q E s:=by
 cases k with
 | true=>exact nextOf_tuple_item hit hs hx hQ
 | false=>exact wpAny_nextOf_list_item hit hs hx hQ
theorem sub_end {k:Bool} {it a:Addr} {i:Nat} {xs:Array Value} {Q:Value→Shared→Prop} (hh:A.handled=none) (hit:ItAt k s.heap it a i) (hs:SrcOf k s.heap a xs) (hx:xs[i]?=none)
  (hE:∀ h' e,Heap.ExtBut it s.heap h'→(∃ o,h'.get? e=some o∧o.cls=.type "StopIteration")→E (.ref e) { s with heap:=h' }):wpAny (model prog w) A (Builtin.SmallTypes.nextOf (.ref it)) Q E s:=by
 cases k with
 | true=>exact nextOf_tuple_end hh hit hs hx hE
 | false=>exact wpAny_nextOf_list_end hh hit hs hx hE
theorem upd_tup {T:Addr} {vs:Array Value} {x:Value} {k:Nat} {Q:Unit→Shared→Prop} (hT:IsT s.heap T vs) (hz:vs.size≤8)
  (h:∀ h',IsT h' T (vs.setIfInBounds k x)→Heap.SameBut T s.heap h'→Q () { s with heap:=h' }):wpAny (model prog w) A (updateSeq T (·.setIfInBounds k x)) Q E s:=by
 have hz2:vs.size≤sizeLine:=Nat.le_trans hz (by decide)
 refine wpAny_updateSeq (hz:=hz2) (_hz':=by simp only [Array.size_setIfInBounds];lia) hT rfl (h _ ?_ (Heap.SameBut.update ..))
 show (s.heap.update T _).get? T=_
 rw [Heap.get?_update_self _ hT rfl]
 simp [Obj.mapSeq]
structure Zip2 (k1 k2:Bool) (n a b:Nat) (i:Nat) (f0:Value) (h:Heap):Prop where
 z:IsZip h (n+4) (n+2) (n+3) f0
 ti:IsT h (n+2) #[.ref n,.ref (n+1)]
 to:∃ u v,IsT h (n+3) #[u,v]
 i1:ItAt k1 h n a i
 i2:ItAt k2 h (n+1) b i
noncomputable def Off (l:List Addr) (h h':Heap):Prop:=∀ c o,c∉l→h.get? c=some o→h'.get? c=some o
theorem Off.of {c:Addr} {l:List Addr} {h h':Heap} (s:Heap.SameBut c h h') (hc:c∈l):Off l h h':=fun b o hb e=>(s.2 b fun z=>hb (z ▸ hc)).trans e
theorem Off.trans {l:List Addr} {h h1 h2:Heap} (a:Off l h h1) (b:Off l h1 h2):Off l h h2:=fun c o hc e=>b c o hc (a c o hc e)
theorem Off.push {l:List Addr} {h:Heap} (o:Obj):Off l h (h.push o):=fun _ _ _ e=>Heap.get?_push_of_some _ e
theorem zip2_next {k1 k2:Bool} {n a b:Nat} {i:Nat} {xs ys:Array Value} {x y:Value} {Q:Value→Shared→Prop} (Z:Zip2 k1 k2 n a b i .none s.heap) (ha:a<n) (hb:b<n)
  (h1:SrcOf k1 s.heap a xs) (h2:SrcOf k2 s.heap b ys) (hx:xs[i]?=some x) (hy:ys[i]?=some y)
  (hQ:∀ h',Zip2 k1 k2 n a b (i+1) (rawInt s.heap.objs.size) h'→IsT h' s.heap.objs.size #[x,y]→h'.objs.size=s.heap.objs.size+1→Off [n,n+1,n+3,n+4] s.heap h'→Q (.ref s.heap.objs.size) { s with heap:=h' }) :
  wpAny (model prog w) A (Builtin.«zip.__next__» ⟨[.ref (n+4)],[]⟩) (fun fin s'=>∃ v,fin=.done (.ret v)∧Q v s') E s:=by
 obtain ⟨hz,hTI,⟨u,v,hTO⟩,hi1,hi2⟩:=Z
 show wpAny _ _ (field (.ref (n+4)) 2 >>= _) _ _ _
 refine wpAny_bind (wpAny_field hz rfl (x:=.bool false) rfl ?_)
 show wpAny _ _ (field (.ref (n+4)) 3 >>= _) _ _ _
 refine wpAny_bind (wpAny_field hz rfl (x:=.ref (n+2)) rfl ?_)
 refine wpAny_bind (wpAny_seqItems hTI rfl ?_)
 show wpAny _ _ (Builtin.SmallTypes.ownedTupleIsFree (.ref (n+4)) >>= _) _ _ _
 refine wpAny_bind ?_
 unfold Builtin.SmallTypes.ownedTupleIsFree
 refine wpAny_bind (wpAny_field hz rfl (x:=.none) rfl (wpAny_pure ?_))
 simp only [if_true]
 refine wpAny_bind (wpAny_rule ?_)
 refine wpAny_bind (wpAny_field hz rfl (x:=.ref (n+3)) rfl ?_)
 refine wpAny_bind (wpAny_setField_rec hz (by simp) fun g1 hz1 hs1=>?_)
 replace hz1:IsZip g1 (n+4) (n+2) (n+3) .ellipsis:=hz1
 refine wpAny_bind ?_
 simp only [List.zipIdx_cons,List.zipIdx_nil,List.forIn_cons,List.forIn_nil]
 refine wpAny_bind (wpAny_bind (wpAny_onRaise ?_))
 show wpAny _ _ (Builtin.SmallTypes.nextOf (.ref n) >>= _) _ _ _
 refine wpAny_bind (sub_item (hi1.keep fun o e=>(hs1.2 _ (nne (by lia))).trans e) (h1.keep fun o e=>(hs1.2 _ (nne (by lia))).trans e) hx fun g2 hi1' hs2=>wpAny_pure ?_)
 have hTO2:IsT g2 (n+3) #[u,v]:=(hs2.2 _ (nne (by lia))).trans ((hs1.2 _ (nne (by lia))).trans hTO)
 refine wpAny_bind (wpAny_seqItems hTO2 rfl ?_)
 refine wpAny_bind (upd_tup hTO2 (by simp) fun g3 hTO3 hs3=>?_)
 replace hTO3:IsT g3 (n+3) #[x,v]:=hTO3
 refine wpAny_bind (wpAny_letGo (wpAny_pure ?_))
 refine wpAny_bind (wpAny_bind (wpAny_onRaise ?_))
 show wpAny _ _ (Builtin.SmallTypes.nextOf (.ref (n+1)) >>= _) _ _ _
 refine wpAny_bind (sub_item (hi2.keep fun o e=>(hs3.2 _ (nne (by lia))).trans ((hs2.2 _ (nne (by lia))).trans ((hs1.2 _ (nne (by lia))).trans e))) (h2.keep fun o e=>(hs3.2 _ (nne (by lia))).trans ((hs2.2 _ (nne (by lia))).trans ((hs1.2 _ (nne (by lia))).trans e))) hy fun g4 hi2' hs4=>wpAny_pure ?_)
 have hTO4:IsT g4 (n+3) #[x,v]:=(hs4.2 _ (nne (by lia))).trans hTO3
 refine wpAny_bind (wpAny_seqItems hTO4 rfl ?_)
 refine wpAny_bind (upd_tup hTO4 (by simp) fun g5 hTO5 hs5=>?_)
 replace hTO5:IsT g5 (n+3) #[x,y]:=hTO5
 refine wpAny_bind (wpAny_letGo (wpAny_pure (wpAny_pure ?_)))
 refine wpAny_bind (wpAny_seqItems hTO5 rfl ?_)
 refine wpAny_bind (wpAny_newTuple ?_)
 have hsz:g5.objs.size=s.heap.objs.size:=by rw [hs5.1,hs4.1,hs3.1,hs2.1,hs1.1]
 have hz5:IsZip g5 (n+4) (n+2) (n+3) .ellipsis:=(hs5.2 _ (nne (by lia))).trans ((hs4.2 _ (nne (by lia))).trans ((hs3.2 _ (nne (by lia))).trans ((hs2.2 _ (nne (by lia))).trans hz1)))
 have off5:Off [n,n+1,n+3,n+4] s.heap g5:=((((Off.of hs1 (by simp)).trans (Off.of hs2 (by simp))).trans (Off.of hs3 (by simp))).trans (Off.of hs4 (by simp))).trans (Off.of hs5 (by simp))
 have hzlt:n+4<g5.objs.size:=Heap.lt_size hz5
 show wpAny _ _ (Builtin.SmallTypes.ownedTupleHandOut (.ref (n+4)) (.ref g5.objs.size) >>= _) _ _ _
 refine wpAny_bind ?_
 unfold Builtin.SmallTypes.ownedTupleHandOut
 have hz6:IsZip (g5.push { cls:=.type "tuple",data:=.seq #[x,y] }) (n+4) (n+2) (n+3) .ellipsis:=Heap.get?_push_of_some _ hz5
 refine wpAny_bind (wpAny_setField_rec hz6 (by simp) fun g7 hz7 hs7=>?_)
 replace hz7:IsZip g7 (n+4) (n+2) (n+3) (rawInt g5.objs.size):=hz7
 refine wpAny_setField_rec hz7 (by simp) fun g8 hz8 hs8=>?_
 replace hz8:IsZip g8 (n+4) (n+2) (n+3) (rawInt g5.objs.size):=hz8
 have up:∀ c o,c≠n+4→g5.get? c=some o→g8.get? c=some o:=fun c o c1 e=>(hs8.2 _ c1).trans ((hs7.2 _ c1).trans (Heap.get?_push_of_some _ e))
 have hT8:IsT g8 g5.objs.size #[x,y]:=(hs8.2 _ (Nat.ne_of_gt hzlt)).trans ((hs7.2 _ (Nat.ne_of_gt hzlt)).trans (Heap.get?_push_size _ rfl))
 have hz8':g8.objs.size=g5.objs.size+1:=by rw [hs8.1,hs7.1,Heap.size_push]
 rw [hsz] at hz8 hT8 hz8'
 refine wpAny_pure ⟨_,rfl,?_⟩
 show Q (.ref g5.objs.size) _
 rw [hsz]
 refine hQ g8 ⟨hz8,up _ _ (nne (by lia)) (off5 _ _ (by simp) hTI),⟨x,y,up _ _ (nne (by lia)) hTO5⟩,?_,?_⟩ hT8 hz8' fun c o hc e=>?_
 ·exact hi1'.keep fun o e=>up _ o (nne (by lia)) ((hs5.2 _ (nne (by lia))).trans ((hs4.2 _ (nne (by lia))).trans ((hs3.2 _ (nne (by lia))).trans e)))
 ·exact hi2'.keep fun o e=>up _ o (nne (by lia)) ((hs5.2 _ (nne (by lia))).trans e)
 ·exact up c o (fun z=>hc (by simp [z])) (off5 c o hc e)
theorem zip2_stop {k1 k2:Bool} {n a b:Nat} {i:Nat} {xs ys:Array Value} {Q:Fin→Shared→Prop} (hh:A.handled=none) (Z:Zip2 k1 k2 n a b i .none s.heap) (ha:a<n) (hb:b<n)
  (h1:SrcOf k1 s.heap a xs) (h2:SrcOf k2 s.heap b ys) (hend:xs[i]?=none∨ys[i]?=none)
  (hE:∀ h' e,Off [n,n+1,n+3,n+4] s.heap h'→(∃ o,h'.get? e=some o∧o.cls=.type "StopIteration")→E (.ref e) { s with heap:=h' }) :
  wpAny (model prog w) A (Builtin.«zip.__next__» ⟨[.ref (n+4)],[]⟩) Q E s:=by
 obtain ⟨hz,hTI,⟨u,v,hTO⟩,hi1,hi2⟩:=Z
 show wpAny _ _ (field (.ref (n+4)) 2 >>= _) _ _ _
 refine wpAny_bind (wpAny_field hz rfl (x:=.bool false) rfl ?_)
 show wpAny _ _ (field (.ref (n+4)) 3 >>= _) _ _ _
 refine wpAny_bind (wpAny_field hz rfl (x:=.ref (n+2)) rfl ?_)
 refine wpAny_bind (wpAny_seqItems hTI rfl ?_)
 show wpAny _ _ (Builtin.SmallTypes.ownedTupleIsFree (.ref (n+4)) >>= _) _ _ _
 refine wpAny_bind ?_
 unfold Builtin.SmallTypes.ownedTupleIsFree
 refine wpAny_bind (wpAny_field hz rfl (x:=.none) rfl (wpAny_pure ?_))
 simp only [if_true]
 refine wpAny_bind (wpAny_rule ?_)
 refine wpAny_bind (wpAny_field hz rfl (x:=.ref (n+3)) rfl ?_)
 refine wpAny_bind (wpAny_setField_rec hz (by simp) fun g1 hz1 hs1=>?_)
 replace hz1:IsZip g1 (n+4) (n+2) (n+3) .ellipsis:=hz1
 refine wpAny_bind ?_
 simp only [List.zipIdx_cons,List.zipIdx_nil,List.forIn_cons,List.forIn_nil]
 refine wpAny_bind (wpAny_bind (wpAny_onRaise ?_))
 show wpAny _ _ (Builtin.SmallTypes.nextOf (.ref n) >>= _) _ _ _
 have fin:∀ {g h':Heap} {e:Addr},IsZip g (n+4) (n+2) (n+3) .ellipsis→(∃ o,g.get? e=some o∧o.cls=.type "StopIteration")→Off [n,n+1,n+3,n+4] s.heap g→∀ s':Shared,s'={ s with heap:=g } →
   wpAny (model prog w) A (setField (.ref (n+4)) 0 .none) (fun _ s'=>E (.ref e) s') E s':=by
  intro g h' e hzg ⟨oe,hoe,hce⟩ off s' es
  subst es
  have hez:e≠n+4:=fun z=>by subst z;rw [hzg] at hoe;cases hoe;simp at hce
  exact wpAny_setField_rec hzg (by simp) fun g9 _ hs9=>hE g9 e (off.trans (Off.of hs9 (by simp))) ⟨oe,(hs9.2 _ hez).trans hoe,hce⟩
 cases hx:xs[i]? with
 | none =>
  refine wpAny_bind (sub_end hh (hi1.keep fun o e=>(hs1.2 _ (nne (by lia))).trans e) (h1.keep fun o e=>(hs1.2 _ (nne (by lia))).trans e) hx fun g2 e hs2 he=>?_)
  exact fin (h':=g2) (hs2 _ _ (nne (by lia)) hz1) he ((Off.of hs1 (by simp)).trans fun c o hc q=>hs2 c o (fun z=>hc (by simp [z])) q) _ rfl
 | some x =>
  have hy:ys[i]?=none:=by rcases hend with h|h;rw [hx] at h;cases h;exact h
  refine wpAny_bind (sub_item (hi1.keep fun o e=>(hs1.2 _ (nne (by lia))).trans e) (h1.keep fun o e=>(hs1.2 _ (nne (by lia))).trans e) hx fun g2 hi1' hs2=>wpAny_pure ?_)
  have hTO2:IsT g2 (n+3) #[u,v]:=(hs2.2 _ (nne (by lia))).trans ((hs1.2 _ (nne (by lia))).trans hTO)
  refine wpAny_bind (wpAny_seqItems hTO2 rfl ?_)
  refine wpAny_bind (upd_tup hTO2 (by simp) fun g3 hTO3 hs3=>?_)
  refine wpAny_bind (wpAny_letGo (wpAny_pure ?_))
  refine wpAny_bind (wpAny_bind (wpAny_onRaise ?_))
  show wpAny _ _ (Builtin.SmallTypes.nextOf (.ref (n+1)) >>= _) _ _ _
  refine wpAny_bind (sub_end hh (hi2.keep fun o e=>(hs3.2 _ (nne (by lia))).trans ((hs2.2 _ (nne (by lia))).trans ((hs1.2 _ (nne (by lia))).trans e))) (h2.keep fun o e=>(hs3.2 _ (nne (by lia))).trans ((hs2.2 _ (nne (by lia))).trans ((hs1.2 _ (nne (by lia))).trans e))) hy fun g4 e hs4 he=>?_)
  exact fin (h':=g4) (hs4 _ _ (nne (by lia)) ((hs3.2 _ (nne (by lia))).trans ((hs2.2 _ (nne (by lia))).trans hz1))) he ((((Off.of hs1 (by simp)).trans (Off.of hs2 (by simp))).trans (Off.of hs3 (by simp))).trans fun c o hc q=>hs4 c o (fun z=>hc (by simp [z])) q) _ rfl
theorem pyNext_zip2 {k1 k2:Bool} {n a b:Nat} {i:Nat} {xs ys:Array Value} {x y:Value} {Q:Option Value→Shared→Prop} (Z:Zip2 k1 k2 n a b i .none s.heap) (ha:a<n) (hb:b<n)
  (h1:SrcOf k1 s.heap a xs) (h2:SrcOf k2 s.heap b ys) (hx:xs[i]?=some x) (hy:ys[i]?=some y)
  (hQ:∀ h',Zip2 k1 k2 n a b (i+1) (rawInt s.heap.objs.size) h'→IsT h' s.heap.objs.size #[x,y]→h'.objs.size=s.heap.objs.size+1→Off [n,n+1,n+3,n+4] s.heap h'→Q (some (.ref s.heap.objs.size)) { s with heap:=h' }) :
  wpAny (model prog w) A (pyNext (.ref (n+4))) Q E s:=by
 have hT:s.TypeIs (.ref (n+4)) "zip":=⟨_,Z.z,rfl⟩
 unfold pyNext
 exact wpAny_bind (wpAny_attempt (wpAny_callSpecial?_slot (name:=Str.ofString "__next__") hT F.slot_zip_next
  (wpAny_call_entry F.slot_zip_next hT F.entry_zip_next
   (zip2_next Z ha hb h1 h2 hx hy fun h' a1 a2 a3 a4=>wpAny_pure (hQ h' a1 a2 a3 a4)) (F.args_zip_next_1 _))))
theorem pyNext_zip2_end {k1 k2:Bool} {n a b:Nat} {i:Nat} {xs ys:Array Value} {Q:Option Value→Shared→Prop} (hh:A.handled=none) (Z:Zip2 k1 k2 n a b i .none s.heap) (ha:a<n) (hb:b<n)
  (h1:SrcOf k1 s.heap a xs) (h2:SrcOf k2 s.heap b ys) (hend:xs[i]?=none∨ys[i]?=none)
  (hQ:∀ h',Off [n,n+1,n+3,n+4] s.heap h'→Q none { s with heap:=h' }):wpAny (model prog w) A (pyNext (.ref (n+4))) Q E s:=by
 have hT:s.TypeIs (.ref (n+4)) "zip":=⟨_,Z.z,rfl⟩
 unfold pyNext
 refine wpAny_bind (wpAny_attempt (wpAny_callSpecial?_slot (name:=Str.ofString "__next__") hT F.slot_zip_next
  (wpAny_call_entry F.slot_zip_next hT F.entry_zip_next (zip2_stop (A:=A.in1) hh Z ha hb h1 h2 hend fun h' e hk he=>?_) (F.args_zip_next_1 _))))
 obtain ⟨o,ho,hc⟩:=he
 refine wpAny_bind (wpAny_isInstance (T:="StopIteration") (b:=true) ⟨o,ho,hc⟩ isSubtype_stop ?_)
 exact wpAny_pure (hQ _ hk)
end
noncomputable abbrev zh5 (k1 k2:Bool) (h:Heap) (a b:Addr):Heap:=((((h.push (itObj k1 a)).push (itObj k2 b)).push { cls:=.type "tuple",data:=.seq #[.ref h.objs.size,.ref (h.objs.size+1)] }).push { cls:=.type "tuple",data:=.seq #[.none,.none] }).push
 { cls:=.type "zip",data:=.fields #[.none,.bool false,.bool false,.ref (h.objs.size+2),.ref (h.objs.size+3)] }
theorem zip2_made (k1 k2:Bool) (a b:Addr) (xs ys:Array Value) :
  Meets (Builtin.«zip.__new__» ⟨[.type "zip",.ref a,.ref b],[]⟩) (fun _ R s=>SrcOf k1 s.heap a xs∧SrcOf k2 s.heap b ys ∧
   R (.ok (.ret (.ref (s.heap.objs.size+4)))) { s with heap:=zh5 k1 k2 s.heap a b }) :=
 .of_wp fun prog w A R s h=>by
  obtain ⟨hp,g,d,tk,os⟩:=s;obtain ⟨hl1,hl2,h⟩:=h
  have hsub:=sub_zip
  have hL1:SrcOf k1 (Shared.heap ⟨hp,g,d,tk,os⟩) a xs:=hl1
  have hL2:SrcOf k2 (Shared.heap ⟨hp.push (itObj k1 a),g,d,tk,os⟩) b ys:=SrcOf.keep hl2 fun o e=>Heap.get?_push_of_some _ e
  wp_walk using src_iter hL1,src_iter hL2
  refine⟨_,rfl,?_⟩
  simp only [Heap.size_push]
  exact h
end L2
namespace L2
open PySem PySem.Spec PyProof.Rows
noncomputable def Sq (k:Bool) (K:PySem.W.Frag) (H:Hp) (a:Addr) (xs:List V):Prop:=match k with|true=>SqT K H a xs|false=>SqL K H a xs
section
variable {X:Cx} {pins:List (Addr×Obj)} {σ:St} {H H':Hp} {s:Shared}
theorem Inv.sq {k:Bool} {a:Addr} {xs:List V} (I:Inv X pins σ H s) (h:Sq k X.K H a xs):∃ its:List Value,Vals xs its∧SrcOf k s.heap a its.toArray∧xs.length≤sizeLine:=by
 cases k with
 | true=>exact I.tuple h
 | false =>
  obtain ⟨its,r,p,z⟩:=I.list h
  exact⟨its,r,p.isList,z⟩
theorem Inv.sq_inj {k:Bool} {a:Addr} {xs ys:List V} (I:Inv X pins σ H s) (h:Sq k X.K H a xs) (h':Sq k X.K H a ys):xs=ys:=by
 cases k with
 | true=>exact I.tuple_inj h h'
 | false=>exact I.list_inj h h'
theorem Inv.off {h':Heap} {t':Nat} {ch:List Addr} (I:Inv X pins σ H s) (hf:∀ b∈ch,FpOk X pins H b) (off:Off ch s.heap h') (hok:HOk X.prog X.w H' h')
  (free:∀ b o,b∉ch→s.heap.get? b=some o→H b=none→H' b=none) (same:∀ b o,H b=some o→H' b=some o):Inv X pins σ H' { s with heap:=h',toks:=t' }:=by
 refine I.step (g':=s.gens) (d':=s.drawn) (ch:=ch) (fun b hb=>?_) (fun b o _ _ hc e _=>off b o hc e) (fun b o _ _ hc e _=>⟨o.slots,off b o hc e⟩) (fun b o hc e n=>free b o hc e n) (fun b o hc e=>⟨o,off b o hc e⟩)
  (fun b xs e=>same b _ e) (fun b o u e=>same b _ e) (fun b ps e=>⟨#[],by rw [same b _ e];simp⟩) (fun m hm=>?_) hok I.bare
 ·obtain ⟨f0,f1,f2,f3,f4,f5⟩:=hf b hb
  exact⟨f3,f1,f4,f5⟩
 ·obtain ⟨o,es,ep,ho,r⟩:=hm
  exact⟨o,es,ep,off _ o (fun z=>(hf _ z).2.1 rfl) ho,r⟩
theorem HOk.off {P:Program} {w:World} {h h':Heap} {ch:List Addr} (x:HOk P w H h) (hn:∀ b∈ch,H b=none) (off:Off ch h h'):HOk P w H h':=fun a o e=>by
 have na:∀ b u,H b=some u→b∉ch:=fun b u q z=>by rw [hn b z] at q;cases q
 refine (x a o e).stay (fun b u hb q=>off b u ?_ q) (fun _ q=>q) fun _ _ q=>q
 rcases hb with rfl|hb
 ·exact na _ _ e
 ·exact na _ _ hb
theorem HOk.offNew {P:Program} {w:World} {h h':Heap} {ch:List Addr} {T:Addr} {ob:HO} (x:HOk P w H h) (hn:∀ b∈ch,H b=none) (off:Off ch h h') (hT:h.objs.size≤T) (new:ObjOk P w (upd H T ob) h' T ob):HOk P w (upd H T ob) h':=fun a o e=>by
 have hTn:=x.fresh hT
 have na:∀ b u,H b=some u→b∉ch:=fun b u q z=>by rw [hn b z] at q;cases q
 by_cases ha:a=T
 ·subst ha;rw [upd_same] at e;cases e;exact new
 ·rw [upd_ne ha] at e
  refine (x a o e).stay (fun b u hb q=>off b u ?_ q) (fun c q=>by rw [upd_ne (ne_of_none q hTn)];exact q) fun c xs q=>by rw [upd_ne (ne_of_none q hTn)];exact q
  rcases hb with rfl|hb
  ·exact na _ _ e
  ·exact na _ _ hb
end
theorem off_mem {c:Addr} {n:Nat} (z:c∈([n,n+1,n+3,n+4]:List Addr)):c∈([n+4,n+2,n+3,n,n+1]:List Addr):=by
 simp only [List.mem_cons,List.not_mem_nil,or_false] at z ⊢
 rcases z with h|h|h|h <;> simp [h]
noncomputable def Itz (K : PySem.W.Frag) (k1 k2 : Bool) (a b : Addr) : It :=
  ⟨fun i H => ∃ xs ys x y, Sq k1 K H a xs ∧ Sq k2 K H b ys ∧ xs[i]?=some x ∧ ys[i]?=some y,
   fun i H v H' => ∃ p x y, v=.ref p ∧ H p=none ∧ (∀ xs, Sq k1 K H a xs → xs[i]?=some x) ∧ (∀ ys, Sq k2 K H b ys → ys[i]?=some y) ∧ H'=upd H p (.tup [x, y]),
   fun i H => ∃ xs ys, Sq k1 K H a xs ∧ Sq k2 K H b ys ∧ (xs.length ≤ i ∨ ys.length ≤ i)⟩
theorem turn_zip2 {P:Program} {w:World} {K:PySem.W.Frag} {es:List Expr} {kk:Nat} {pos:Pos} {k1 k2:Bool} (n a b:Nat) (ha:a<n) (hb:b<n) :
  Turn P w K (.Tuple es kk pos) (Itz K k1 k2 a b) [n+4,n+2,n+3,n,n+1] (n+4) (fun i h=>Zip2 k1 k2 n a b i .none h) where
 mem:=by simp
 obj:=fun i h st c hc=>by
  obtain ⟨hz,hTI,⟨u,v,hTO⟩,hi1,hi2⟩:=st
  simp only [List.mem_cons,List.not_mem_nil,or_false] at hc
  rcases hc with rfl|rfl|rfl|rfl|rfl
  ·exact⟨_,hz,fun v z=>nomatch z⟩
  ·exact⟨_,hTI,fun v z=>nomatch z⟩
  ·exact⟨_,hTO,fun v z=>nomatch z⟩
  ·exact hi1.obj
  ·exact hi2.obj
 keep:=fun i h h' st k=>by
  obtain ⟨hz,hTI,⟨u,v,hTO⟩,hi1,hi2⟩:=st
  exact⟨k _ (by simp) _ hz,k _ (by simp) _ hTI,⟨u,v,k _ (by simp) _ hTO⟩,hi1.keep fun o e=>k _ (by simp) o e,hi2.keep fun o e=>k _ (by simp) o e⟩
 item:=by
  intro X hP hw hK hc i pins s σ H E I hf st hg
  subst hP hw hK
  obtain ⟨xs,ys,x,y,qx,qy,ex,ey⟩:=hg
  obtain ⟨is1,r1,s1,_⟩:=I.sq qx
  obtain ⟨is2,r2,s2,_⟩:=I.sq qy
  obtain ⟨u,hu,ru⟩:=r1.get ex
  obtain ⟨v,hv,rv⟩:=r2.get ey
  refine pyNext_zip2 st ha hb s1 s2 (x:=u) (y:=v) (by simpa using hu) (by simpa using hv) fun h' Z hT hsz off=>⟨_,rfl,?_⟩
  have hTn:H s.heap.objs.size=none:=I.hok.fresh (Nat.le_refl _)
  have zlt:n+4<s.heap.objs.size:=Heap.lt_size st.z
  refine wpAny_letOwnedTupleGo_zip Z.z fun h2 hz2 hs2=>?_
  have off2:Off [n+4,n+2,n+3,n,n+1] s.heap h2:=fun c o hc e=>(hs2.2 c fun z=>hc (by simp [z])).trans (off c o (fun z=>hc (off_mem z)) e)
  have hT2:IsT h2 s.heap.objs.size #[u,v]:=(hs2.2 _ (Nat.ne_of_gt zlt)).trans hT
  refine⟨.ref s.heap.objs.size,upd H s.heap.objs.size (.tup [x,y]),?_,rfl,⟨_,x,y,rfl,hTn,fun zs hzs=>by rw [I.sq_inj hzs qx];exact ex,fun zs hzs=>by rw [I.sq_inj hzs qy];exact ey,rfl⟩,?_,fun c hc=>?_⟩
  ·refine Inv.off (s:=s) (h':=h2) (t':=s.toks) (ch:=[n+4,n+2,n+3,n,n+1]) I hf off2 (I.hok.offNew (fun c hc=>(hf c hc).1) off2 (Nat.le_refl _) ?_) (fun c o _ e hn=>?_) fun c o e=>?_
   ·exact⟨by show 2≤sizeLine;decide,[u,v],.cons ru (.cons rv .nil),⟨_,hT2,rfl,_,rfl⟩⟩
   ·rw [upd_ne (Nat.ne_of_lt (Heap.lt_size e))];exact hn
   ·rw [upd_ne (ne_of_none e hTn)];exact e
  ·obtain ⟨z1,z2,⟨a1,a2,z3⟩,z4,z5⟩:=Z
   exact⟨hz2,(hs2.2 _ (nne (by lia))).trans z2,⟨a1,a2,(hs2.2 _ (nne (by lia))).trans z3⟩,z4.keep fun o e=>(hs2.2 _ (nne (by lia))).trans e,z5.keep fun o e=>(hs2.2 _ (nne (by lia))).trans e⟩
  ·have cn:c≠s.heap.objs.size:=by
    simp only [List.mem_cons,List.not_mem_nil,or_false] at hc
    rcases hc with rfl|rfl|rfl|rfl|rfl <;> exact nne (by lia)
   rw [upd_ne cn];exact (hf c hc).1
 done:=by
  intro X hP hw hK hc i pins s σ H E I hf st hg
  subst hP hw hK
  obtain ⟨xs,ys,qx,qy,hend⟩:=hg
  obtain ⟨is1,r1,s1,_⟩:=I.sq qx
  obtain ⟨is2,r2,s2,_⟩:=I.sq qy
  have e1:=r1.length
  have e2:=r2.length
  refine pyNext_zip2_end (I.ok.hd hc) st ha hb s1 s2 ?_ fun h' off=>⟨rfl,?_⟩
  ·rcases hend with z|z
   ·exact .inl (by simp;lia)
   ·exact .inr (by simp;lia)
  ·have off2:Off [n+4,n+2,n+3,n,n+1] s.heap h':=fun c o hc e=>off c o (fun z=>hc (off_mem z)) e
   exact Inv.off (s:=s) (t':=s.toks) I hf off2 (I.hok.off (fun c hc=>(hf c hc).1) off2) (fun _ _ _ _ q=>q) fun _ _ q=>q
 self:=fun _ _ _ _ _ st h=>wpAny_pyIter_zip st.z h
section
variable {X:Cx}
noncomputable def iZip2 (K:PySem.W.Frag) (k1 k2:Bool) (ta:TA):TI:=fun σ H R=>ta σ H fun vs H1=>∃ a b,vs=[.ref a,.ref b]∧(∃ xs,Sq k1 K H1 a xs)∧(∃ ys,Sq k2 K H1 b ys)∧R (Itz K k1 k2 a b) H1
theorem pi_zip2 (k1 k2:Bool) {es:List Expr} {kk:Nat} {tpos:Pos} {a b:Expr} {ta:TA} {p pos:Pos} (hg:Gl X "zip") (hm:X.mg "zip"=none) (ha:PA X [a,b] ta) (hs:starEach [a,b] X.env=[(false,eval a X.env),(false,eval b X.env)]:=by rfl) (hs2:starEach [b] X.env=[(false,eval b X.env)]:=by rfl) :
  PI X (.Tuple es kk tpos) (.Call (.Name "zip" p) [a,b] [] pos) (iZip2 X.K k1 k2 ta):=by
 intro pins s σ H R I h
 refine Call_ (ld_blt I hg hm boot_zip (PyProof.Rows.callWith_type1 (thn (ha pos pins s σ H _ I h) fun us s1 ⟨vs,H1,I1,r1,q1⟩=>?_) (by rw [hs,hs2]) (by rw [hs2];rfl)))
 obtain ⟨a',b',e,⟨xs,qx⟩,⟨ys,qy⟩,q⟩:=q1
 subst e
 obtain ⟨u,v,rfl,ru,rv⟩:=vals2 r1
 cases ru
 cases rv
 obtain ⟨is1,r1,s1',_⟩:=I1.sq qx
 obtain ⟨is2,r2,s2',_⟩:=I1.sq qy
 refine callType_new PySem.F.called_zip (by decide) (PySem.F.typeCall_zip_2 _ _) (PySem.F.newCall_zip_2 _ _) (fun obj=>PySem.F.args_object_init_3 obj _ _) PySem.F.entry_zip_new (zip2_made k1 k2 a' b' is1.toArray is2.toArray) ⟨s1',s2',?_⟩
 have z1:(s1.heap.push (itObj k1 a')).objs.size=s1.heap.objs.size+1:=Heap.size_push ..
 have z2:((s1.heap.push (itObj k1 a')).push (itObj k2 b')).objs.size=s1.heap.objs.size+2:=by rw [Heap.size_push,z1]
 have z3:(((s1.heap.push (itObj k1 a')).push (itObj k2 b')).push { cls:=.type "tuple",data:=.seq #[.ref s1.heap.objs.size,.ref (s1.heap.objs.size+1)] }).objs.size=s1.heap.objs.size+3:=by rw [Heap.size_push,z2]
 have z4:((((s1.heap.push (itObj k1 a')).push (itObj k2 b')).push { cls:=.type "tuple",data:=.seq #[.ref s1.heap.objs.size,.ref (s1.heap.objs.size+1)] }).push { cls:=.type "tuple",data:=.seq #[.none,.none] }).objs.size=s1.heap.objs.size+4:=by rw [Heap.size_push,z3]
 have g5:(zh5 k1 k2 s1.heap a' b').get? (s1.heap.objs.size+4)=some { cls:=.type "zip",data:=.fields #[.none,.bool false,.bool false,.ref (s1.heap.objs.size+2),.ref (s1.heap.objs.size+3)] }:=by rw [← z4];exact Heap.get?_push_size _ rfl
 have g4:(zh5 k1 k2 s1.heap a' b').get? (s1.heap.objs.size+3)=some { cls:=.type "tuple",data:=.seq #[.none,.none] }:=by rw [← z3];exact Heap.get?_push_of_some _ (Heap.get?_push_size _ rfl)
 have g3:(zh5 k1 k2 s1.heap a' b').get? (s1.heap.objs.size+2)=some { cls:=.type "tuple",data:=.seq #[.ref s1.heap.objs.size,.ref (s1.heap.objs.size+1)] }:=by rw [← z2];exact Heap.get?_push_of_some _ (Heap.get?_push_of_some _ (Heap.get?_push_size _ rfl))
 have g2:(zh5 k1 k2 s1.heap a' b').get? (s1.heap.objs.size+1)=some (itObj k2 b'):=by rw [← z1];exact Heap.get?_push_of_some _ (Heap.get?_push_of_some _ (Heap.get?_push_of_some _ (Heap.get?_push_size _ (by cases k2 <;> rfl))))
 have g1:(zh5 k1 k2 s1.heap a' b').get? s1.heap.objs.size=some (itObj k1 a'):=Heap.get?_push_of_some _ (Heap.get?_push_of_some _ (Heap.get?_push_of_some _ (Heap.get?_push_of_some _ (Heap.get?_push_size _ (by cases k1 <;> rfl)))))
 have old:∀ c o,s1.heap.get? c=some o→(zh5 k1 k2 s1.heap a' b').get? c=some o:=fun c o x=>Heap.get?_push_of_some _ (Heap.get?_push_of_some _ (Heap.get?_push_of_some _ (Heap.get?_push_of_some _ (Heap.get?_push_of_some _ x))))
 have Z:Zip2 k1 k2 s1.heap.objs.size a' b' 0 .none (zh5 k1 k2 s1.heap a' b'):=⟨g5,g3,⟨_,_,g4⟩,itObj_at g1,itObj_at g2⟩
 show _∧_
 refine⟨⟨_,g5,rfl⟩,wpAny_pyIter_zip Z.z ?_⟩
 refine⟨_,_,_,_,H1,rfl,I1.kept (t':=s1.toks) old,turn_zip2 s1.heap.objs.size a' b' s1'.lt s2'.lt,Z,fun c hc=>?_,q⟩
 have hcl:s1.heap.objs.size≤c:=by
  simp only [List.mem_cons,List.not_mem_nil,or_false] at hc
  rcases hc with rfl|rfl|rfl|rfl|rfl <;> first|exact Nat.le_add_right _ _|exact Nat.le_refl _
 exact I1.fpOk hcl (I1.hok.fresh hcl)
end
end L2
namespace L2
open PySem PySem.Spec PyProof.Rows
noncomputable def bitsI (i:Int):Nat:=Builtin.Int.intBits i
noncomputable def CMulB (i j:Int):Prop:=bitsI i+bitsI j≤1000000
theorem CMulB.ok {i j:Int} (h:CMulB i j):IntMulOk i j:=by
 unfold IntMulOk
 intro z
 simp only [Bool.and_eq_true,decide_eq_true_eq] at z
 have z2:=z.2
 unfold Builtin.Int.intTooBig at z2
 have h':Builtin.Int.intBits i+Builtin.Int.intBits j≤1000000:=h
 have b:(1000000:Int)≤bitsLine:=by decide
 simp only [decide_eq_true_eq] at z2
 lia
noncomputable def CDivB (i j:Int):Prop:=0<j∧j.natAbs.log2<9000
section
variable {X:Cx}
theorem op_mulB:OpR X (binaryOp .Mult) (rI CMulB fun i j=>.int (i*j)):=opI fun _ _ _ _ _ _ _ hc q=>mul_int q hc.ok
theorem op_fdivB:OpR X (binaryOp .FloorDiv) (rI CDivB fun i j=>.int (i / j)):=opI fun i j _ _ _ _ _ hc q=>by
 have h1:(0:Int)<j:=hc.1
 exact floordiv_int (by lia) (by rw [Int.fdiv_eq_ediv_of_nonneg i (by lia)];exact q) (.inl (PyProof.noPylong_of_log2 hc.2))
noncomputable def TyR (K:PySem.W.Frag) (H:Hp) (x:V) (t:Value):Prop:=TyOf K H x t∨(∃ a xs,x=.ref a∧SqT K H a xs∧t=.type "tuple")∨(∃ a xs,x=.ref a∧SqL K H a xs∧t=.type "list")
theorem call_isinst:CallR X (.builtin "isinstance") (fun xs H Q=>∃ x n t b,xs=[x,.ty n]∧TyR X.K H x t∧PySem.W.kitOne X.K t (.type n)=some b∧Q (.bl b) H):=by
 intro pins s σ H xs us Q I r h
 obtain ⟨x,n,t,b,rfl,ty,e,q⟩:=h
 obtain ⟨u,c,rfl,ru,rc⟩:=vals2 r
 obtain rfl:c=Value.type n:=rc
 have fin:∀ tk,EP X pins σ Q (.bool b) { s with toks:=tk }:=fun tk=>⟨.bl b,H,I.tok tk,rfl,q⟩
 rcases ty with ty|⟨a,ys,rfl,hs,rfl⟩|⟨a,ys,rfl,hs,rfl⟩
 ·exact isinst_ok I ru ty e fin
 ·obtain rfl:u=Value.ref a:=ru
  obtain ⟨its,_,p,_⟩:=I.tuple hs
  obtain ⟨o,h1,h2,_⟩:=p
  exact PySem.W.kia_one PySem.W.kitx_tuple I.kIn ⟨o,h1,h2⟩ e (fun z=>nomatch z) fin
 ·obtain rfl:u=Value.ref a:=ru
  obtain ⟨its,_,p,_⟩:=I.list hs
  obtain ⟨o,n',h1,h2,_⟩:=p
  exact PySem.W.kia_one PySem.W.kitx_list I.kIn ⟨o,h1,h2⟩ e (fun z=>nomatch z) fin
end
theorem kit_same (K:PySem.W.Frag) (t:Value):PySem.W.kitOne K t t=some true:=by
 unfold PySem.W.kitOne
 rw [if_pos (by simp)]
end L2
namespace L2
open PySem PySem.Spec PyProof.Rows
noncomputable def Def (K:PySem.W.Frag) (mg:Str→Option Value) (x:Str) (st:Stmt) (ps:List Str):Prop:=∃ f fd,Fun K x x st f fd∧mg x=some (.ref f)∧Binds K fd ps []
noncomputable def Ok (P:Program) (w:World) (K:PySem.W.Frag) (mg:Str→Option Value) (base:Heap) (k:Nat) (x:Str) (ps:List Str) (sp:Sp):Prop :=
 ∃ f fd,FnOk P w K mg base CX0 k f fd ps sp∧mg x=some (.ref f)∧PySem.W.keepIn K (.ref f)=true∧Binds K fd ps []
section
variable {P:Program} {w:World} {K:PySem.W.Frag} {mg:Str→Option Value} {base:Heap}
theorem Def.ok {x:Str} {st:Stmt} {N ps:List Str} {k:Nat} {sp:Sp} (D:Def K mg x st ps) (S:FnScope N ps (defScope st)) (len:∀ vs H Q E,sp vs H Q E→vs.length=ps.length)
  (hbody:∀ (f:Addr) (cdv:Value) (A:Around) (outer:List Env) (s:Shared) (H:Hp) (vs:List V) (Q:VK) (E:XK),Room k (A.deeper (envOfC x (defScope st) s.heap.objs.size f cdv))→sp vs H Q E →
   ∃ t,PSs (cxOf CX0 P w K mg base N x (defScope st) f cdv A outer s H E).nox (defBody st) t∧t { nx:=fun _ H'=>Q .non H',rt:=Q } (start N vs) H):Ok P w K mg base (k+1) x ps sp:=by
 obtain ⟨f,fd,F,hm,hb⟩:=D
 exact⟨f,fd,F.ok S len fun cdv A outer s H vs Q E hr h=>hbody f cdv A outer s H vs Q E hr h,hm,F.kp,hb⟩
end
section
variable {X:Cx} {k:Nat} {x:Str} {ps:List Str} {sp:Sp} {p pos:Pos} {e:Expr} {es:List Expr} {t:TA}
theorem pcall (O:Ok X.prog X.w X.K X.mg X.base k x ps sp) (hr:Room k X.A) (ha:PA X (e::es) t) (hg:Gl X x:=by rfl)
  (hdb:(x == ("__debug__":Str))=false:=by decide) (he:starEach (e::es) X.env=(false,eval e X.env)::starEach es X.env:=by rfl) (hpl:(backTo pos (starEach es X.env)).any (·.1)=false:=by rfl) :
  PE X (.Call (.Name x p) (e::es) [] pos) (tCall sp [] E0 t):=by
 obtain ⟨f,fd,F,hm,hk,hb⟩:=O
 exact pe_call F hr hg hm hk hb .nil pass0 ha hdb he hpl
end
theorem Same.upd_new {H:Hp} {a:Addr} {o:HO} (h:H a=none):Same H (upd H a o):=fun b u e=>by rw [upd_ne (ne_of_none e h)];exact e
theorem Same.at {K:PySem.W.Frag} {H H':Hp} {a:Addr} {xs:List V} (e:Same H H') (h:SqT K H a xs):SqT K H' a xs:=by
 rcases h with (h|⟨o,h⟩)|h
 ·exact .inl (.inl (e _ _ h))
 ·exact .inl (.inr ⟨o,e _ _ h⟩)
 ·exact .inr h
theorem Same.sq {k:Bool} {K:PySem.W.Frag} {H H':Hp} {a:Addr} {xs:List V} (e:Same H H') (h:Sq k K H a xs):Sq k K H' a xs:=by
 cases k with
 | true=>exact Same.at e h
 | false=>exact Same.seq e h
noncomputable def CW (t:Nat) (l:Addr) (n:Nat) (f:Nat→V) (fr:St) (H1:Hp) (i m:Nat) (σ1:St) (ys:List V) (H':Hp):Prop :=
 m=n - i∧i≤n∧(∃ own:St,own.length=t∧σ1=own++fr)∧ys=(List.range i).map f∧Same H1 H'∧H' l=some (.lst ys)
theorem CW.next {t:Nat} {l:Addr} {n:Nat} {f:Nat→V} {fr:St} {H1 H' H5:Hp} {i:Nat} {y:V} (own:St) (ho:own.length=t) (hi:i<n) (hn:n≤1000000) (hl:H1 l=none) (hs:Same H1 H') (hl':H' l=some (.lst ((List.range i).map f))) (s5:Same H' H5) (ey:y=f i) :
  H5 l=some (.lst ((List.range i).map f))∧((List.range i).map f).length<sizeLine∧CW t l n f fr H1 (i+1) (n - (i+1)) (own++fr) ((List.range i).map f++[y]) (upd H5 l (.lst ((List.range i).map f++[y]))):=by
 subst ey
 refine⟨s5 _ _ hl',?_,rfl,hi,⟨own,ho,rfl⟩,?_,fun b o e=>?_,upd_same⟩
 ·rw [List.length_map,List.length_range]
  exact Nat.lt_of_lt_of_le (Nat.lt_of_lt_of_le hi hn) (by decide)
 ·rw [List.range_succ,List.map_append];rfl
 ·rw [upd_ne (ne_of_none e hl)]
  exact s5 _ _ (hs _ _ e)
theorem comp_by {J:It} {H1:Hp} {ix:List (Option Nat)} {σ:St} {g:TG} {tt:TT} {te:TE} {Q:VK} (t:Nat) (fr:St) (n:Nat) (f:Nat→V) (hpk:pick ix σ=List.replicate t none++fr)
  (hstop:∀ H',Same H1 H'→J.stop n H') (hgo:∀ i H',i<n→Same H1 H'→J.go i H')
  (step:∀ i x l H' H2 own,own.length=t→i<n→H1 l=none→Same H1 H'→H' l=some (.lst ((List.range i).map f))→J.yld i H' x H2 →
   g x (own++fr) H2 fun σ2 H3=>tt σ2 H3 fun b H4=>if b=true then te σ2 H4 fun y H5=>H5 l=some (.lst ((List.range i).map f))∧((List.range i).map f).length<sizeLine∧CW t l n f fr H1 (i+1) (n - (i+1)) σ2 ((List.range i).map f++[y]) (upd H5 l (.lst ((List.range i).map f++[y])))
    else CW t l n f fr H1 (i+1) (n - (i+1)) σ2 ((List.range i).map f) H4)
  (hQ:∀ l H',H1 l=none→Same H1 H'→H' l=some (.lst ((List.range n).map f))→Q (.ref l) H') :
  CompGoal ix g tt te σ Q J H1:=by
 intro l hl
 refine⟨CW t l n f fr H1,⟨n,by simp,Nat.zero_le _,⟨_,List.length_replicate,hpk⟩,rfl,Same.upd_new hl,upd_same⟩,?_⟩
 rintro i m σ1 ys H' ⟨rfl,hi,⟨own,ho,rfl⟩,rfl,hs,hl'⟩
 refine⟨hl',?_⟩
 by_cases hlt:i<n
 ·exact .inr ⟨hgo i H' hlt hs,n - (i+1),by lia,fun x H2 hy=>step i x l H' H2 own ho hlt hl hs hl' hy⟩
 ·obtain rfl:i=n:=by lia
  exact .inl ⟨hstop H' hs,hQ l H' hl hs hl'⟩
theorem rd_comp1 {J:It} {H1:Hp} {ix:List (Option Nat)} {σ:St} {te:TE} {Q:VK} (fr:St) (n:Nat) (f:Nat→V) (hpk:pick ix σ=none::fr) (hn:n≤1000000)
  (hstop:∀ H',Same H1 H'→J.stop n H') (hgo:∀ i H',i<n→Same H1 H'→J.go i H')
  (step:∀ i x H' H2 (Qc:VK),i<n→Same H1 H'→J.yld i H' x H2→(∀ H5,Same H' H5→Qc (f i) H5)→te (some x::fr) H2 Qc)
  (hQ:∀ l H',H1 l=none→Same H1 H'→H' l=some (.lst ((List.range n).map f))→Q (.ref l) H'):CompGoal ix (gName 0) (fun _ H Q=>Q true H) te σ Q J H1:=by
 refine comp_by 1 fr n f hpk hstop hgo (fun i x l H' H2 own ho hi hl hs hl' hy=>?_) hQ
 obtain ⟨o1,rfl⟩:∃ o1,own=[o1]:=by match own,ho with|[o1],_=>exact⟨o1,rfl⟩
 dsimp only [gName]
 rw [if_pos rfl]
 exact step i x H' H2 _ hi hs hy fun H5 s5=>CW.next (fr:=fr) [some x] rfl hi hn hl hs hl' s5 rfl
theorem rd_compZ {K:PySem.W.Frag} {k1 k2:Bool} {a b:Addr} {xs ys:List V} {H1:Hp} {ix:List (Option Nat)} {σ:St} {te:TE} {Q:VK} (fr:St) (f:Nat→V) (hpk:pick ix σ=none::none::fr) (ha:Sq k1 K H1 a xs) (hb:Sq k2 K H1 b ys) (hlen:xs.length=ys.length) (hn:xs.length≤1000000)
  (step:∀ i x y H' (Qc:VK),xs[i]?=some x→ys[i]?=some y→Same H1 H'→(∀ H5,Same H' H5→Qc (f i) H5)→te (some x::some y::fr) H' Qc)
  (hQ:∀ l H',H1 l=none→Same H1 H'→H' l=some (.lst ((List.range xs.length).map f))→Q (.ref l) H'):CompGoal ix (gTup K 2 (gCons (gName 0) (gCons (gName 1) gNil))) (fun _ H Q=>Q true H) te σ Q (Itz K k1 k2 a b) H1:=by
 refine comp_by 2 fr xs.length f hpk (fun H' s=>⟨_,_,s.sq ha,s.sq hb,.inl (Nat.le_refl _)⟩) (fun i H' hi s=>?_) (fun i x l H' H2 own ho hi hl hs hl' hy=>?_) hQ
 ·exact⟨_,_,xs[i],ys[i]'(hlen ▸ hi),s.sq ha,s.sq hb,List.getElem?_eq_getElem hi,List.getElem?_eq_getElem (hlen ▸ hi)⟩
 ·obtain ⟨o1,o2,rfl⟩:∃ o1 o2,own=[o1,o2]:=by match own,ho with|[o1,o2],_=>exact⟨o1,o2,rfl⟩
  obtain ⟨p,x',y',rfl,hp,e1,e2,rfl⟩:=hy
  have g1:=e1 _ (hs.sq ha)
  have g2:=e2 _ (hs.sq hb)
  refine⟨p,_,rfl,SqT.of upd_same,rfl,_,_,rfl,_,_,rfl,rfl,?_⟩
  show ite (true=true) _ _
  rw [if_pos rfl]
  exact step i x' y' _ _ g1 g2 (hs.trans (Same.upd_new hp)) fun H5 s5=>CW.next (fr:=fr) [some x',some y'] rfl hi hn hl hs hl' ((Same.upd_new hp).trans s5) rfl
theorem int_get {r:List Int} {i:Nat} {x:V} (h:(r.map V.int)[i]?=some x):x=.int (r.getD i 0)∧i<r.length:=by
 rw [List.getElem?_map] at h
 cases e:r[i]? with
 | none=>rw [e] at h;cases h
 | some z =>
  rw [e] at h
  have hl:=(List.getElem?_eq_some_iff.mp e).1
  refine⟨?_,hl⟩
  rw [← (Option.some.inj h),List.getD,e];rfl
theorem int_at {r:List Int} {i:Nat} (h:i<r.length):(r.map V.int)[i]?=some (.int (r.getD i 0)):=by
 rw [List.getElem?_map,List.getD,List.getElem?_eq_getElem h];rfl
theorem range_getD {α:Type} (f:Int→α) (r:List Int):(List.range r.length).map (fun i=>f (r.getD i 0))=r.map f:=by
 apply List.ext_getElem
 ·simp
 ·intro i h1 h2
  simp at h1 h2
  simp [List.getD,h1]
theorem range_zip {α:Type} (f:Int→Int→α) (r q:List Int) (h:r.length=q.length):(List.range r.length).map (fun i=>f (r.getD i 0) (q.getD i 0))=List.zipWith f r q:=by
 apply List.ext_getElem
 ·simp [h]
 ·intro i h1 h2
  simp at h1 h2
  have:i<q.length:=by lia
  simp [List.getD,h1,this]
theorem rd_zipRows {K:PySem.W.Frag} {a b:Addr} {r q:List Int} {H1:Hp} {ix:List (Option Nat)} {σ:St} {Q:VK} (op:Int→Int→Int) (hpk:pick ix σ=[none,none]) (ha:SqT K H1 a (r.map V.int)) (hb:SqT K H1 b (q.map V.int)) (hlen:r.length=q.length) (hn:r.length≤1000)
  (hQ:∀ l H',H1 l=none→Same H1 H'→H' l=some (.lst ((List.zipWith op r q).map V.int))→Q (.ref l) H') :
  CompGoal ix (gTup K 2 (gCons (gName 0) (gCons (gName 1) gNil))) (fun _ H Q=>Q true H) (tOp (rI0 fun i j=>.int (op i j)) (tVar 0) (tVar 1)) σ Q (Itz K true true a b) H1:=by
 refine rd_compZ (k1:=true) (k2:=true) [] (fun i=>.int (op (r.getD i 0) (q.getD i 0))) hpk ha hb (by simpa using hlen) (by rw [List.length_map];lia) (fun i x y H' Qc ex ey hs kc=>?_) fun l H' hl hs hl'=>hQ l H' hl hs ?_
 ·obtain ⟨rfl,_⟩:=int_get ex
  obtain ⟨rfl,_⟩:=int_get ey
  exact⟨_,rfl,_,rfl,_,_,rfl,rfl,kc _ (Same.refl _)⟩
 ·rw [hl',List.length_map,range_zip (fun x y=>V.int (op x y)) r q hlen,List.map_zipWith]
theorem rd_mapRow {K:PySem.W.Frag} {a:Addr} {r:List Int} {H1:Hp} {ix:List (Option Nat)} {σ:St} {te:TE} {Q:VK} (F:Int→V) (fr:St) (hpk:pick ix σ=none::fr) (ha:SqT K H1 a (r.map V.int)) (hn:r.length≤1000)
  (step:∀ x H' (Qc:VK),x∈r→Same H1 H'→(∀ H5,Same H' H5→Qc (F x) H5)→te (some (.int x)::fr) H' Qc)
  (hQ:∀ l H',H1 l=none→Same H1 H'→H' l=some (.lst (r.map F))→Q (.ref l) H'):CompGoal ix (gName 0) (fun _ H Q=>Q true H) te σ Q (Itt K a) H1:=by
 refine rd_comp1 fr r.length (fun i=>F (r.getD i 0)) hpk (by lia) (fun H' s=>⟨_,s.at ha,by simp⟩) (fun i H' hi s=>⟨_,_,s.at ha,int_at hi⟩) (fun i x H' H2 Qc hi hs hy kc=>?_) fun l H' hl hs hl'=>hQ l H' hl hs ?_
 ·obtain ⟨rfl,e1⟩:=hy
  obtain ⟨rfl,_⟩:=int_get (e1 _ (hs.at ha))
  exact step _ _ Qc (by rw [List.getD,List.getElem?_eq_getElem hi];exact List.getElem_mem hi) hs kc
 ·rw [hl',range_getD F r]
theorem rd_mapList {K:PySem.W.Frag} {a:Addr} {r:List Int} {H1:Hp} {ix:List (Option Nat)} {σ:St} {te:TE} {Q:VK} (F:Int→V) (fr:St) (hpk:pick ix σ=none::fr) (ha:SqL K H1 a (r.map V.int)) (hn:r.length≤1000)
  (step:∀ x H' (Qc:VK),x∈r→Same H1 H'→(∀ H5,Same H' H5→Qc (F x) H5)→te (some (.int x)::fr) H' Qc)
  (hQ:∀ l H',H1 l=none→Same H1 H'→H' l=some (.lst (r.map F))→Q (.ref l) H'):CompGoal ix (gName 0) (fun _ H Q=>Q true H) te σ Q (Itl K a) H1:=by
 refine rd_comp1 fr r.length (fun i=>F (r.getD i 0)) hpk (by lia) (fun H' s=>⟨_,s.seq ha,by simp⟩) (fun i H' hi s=>⟨_,_,s.seq ha,int_at hi⟩) (fun i x H' H2 Qc hi hs hy kc=>?_) fun l H' hl hs hl'=>hQ l H' hl hs ?_
 ·obtain ⟨rfl,e1⟩:=hy
  obtain ⟨rfl,_⟩:=int_get (e1 _ (hs.seq ha))
  exact step _ _ Qc (by rw [List.getD,List.getElem?_eq_getElem hi];exact List.getElem_mem hi) hs kc
 ·rw [hl',range_getD F r]
end L2
namespace Mth
noncomputable def prod5 (a b c d e:Nat):Int:=2 ^ a*3 ^ b*5 ^ c*7 ^ d*11 ^ e
noncomputable def numL (ps:List Int) (es:List Int):Int:=(List.zipWith (fun p e=>p ^ e.toNat) ps es).foldl (·*·) 1
noncomputable def primes:List Int:=[2,3,5,7,11]
noncomputable def num (es:List Int):Int:=numL primes es
noncomputable def P5 (p:Int):Prop:=p=2∨p=3∨p=5∨p=7∨p=11
noncomputable def Cop (m:Int):Prop:=∀ p,P5 p→m % p≠0
end Mth
namespace Mth
noncomputable def bl (x:Int):Nat:=if x == 0 then 0 else x.natAbs.log2+1
theorem bl_le {x:Int} {k:Nat} (h:x.natAbs<2 ^ k):bl x≤k:=by
 unfold bl
 split
 ·lia
 ·rename_i hx
  have hx':x.natAbs≠0:=by simpa using hx
  have:=(Nat.log2_lt hx').mpr h
  lia
end Mth
namespace Mth
noncomputable def F (m:Int) (x y:Int):Prop:=2 ^ (-m).toNat*y≤2 ^ m.toNat*x
noncomputable def rt (b c d e:Int):Int:=prod5 0 b.toNat c.toNat d.toNat e.toNat
noncomputable def rb (b c d e:Int):Int:=prod5 0 (-b).toNat (-c).toNat (-d).toNat (-e).toNat
end Mth
namespace Mth
section
variable (c0 c1 c2 c3 c4:Nat) {m:Int} (h:Cop m)
include h
end
end Mth
namespace Mth
theorem perm_of_map {α β:Type} {f:α→β} {qs ps:List β} (h:qs.Perm ps):∀ {l:List α},ps=l.map f→∃ m:List α,m.Perm l∧qs=m.map f:=by
 induction h with
 | nil=>intro l e;exact⟨[],by rw [List.map_eq_nil_iff.mp e.symm],rfl⟩
 | cons x _ ih =>
  intro l e
  cases l with
  | nil=>cases e
  | cons a l =>
   rw [List.map_cons] at e
   injection e with e1 e2
   obtain ⟨m,p,q⟩:=ih e2
   exact⟨a::m,p.cons a,by rw [List.map_cons,q,e1]⟩
 | swap x y l0 =>
  intro l e
  match l,e with
  | a::b::l,e =>
   simp only [List.map_cons,List.cons.injEq] at e
   obtain ⟨e1,e2,e3⟩:=e
   exact⟨b::a::l,.swap _ _ _,by rw [List.map_cons,List.map_cons,e1,e2,e3]⟩
 | trans _ _ ih1 ih2 =>
  intro l e
  obtain ⟨m,p,q⟩:=ih2 e
  obtain ⟨m',p',q'⟩:=ih1 q
  exact⟨m',p'.trans p,q'⟩
end Mth
namespace Mth
noncomputable def sub (a b:List Int):List Int:=List.zipWith (· - ·) a b
noncomputable def mulv (r:List Int) (k:Int):List Int:=r.map (·*k)
noncomputable def zer (n:Nat):List Int:=List.replicate n 0
theorem sub_len {a b:List Int} {n:Nat} (ha:a.length=n) (hb:b.length=n):(sub a b).length=n:=by simp [sub,ha,hb]
theorem mulv_len {r:List Int} {n:Nat} {k:Int} (h:r.length=n):(mulv r k).length=n:=by simp [mulv,h]
theorem zer_len (n:Nat):(zer n).length=n:=by simp [zer]
theorem sub_at {a b:List Int} {n:Nat} (ha:a.length=n) (hb:b.length=n) (i:Nat):(sub a b).getD i 0=a.getD i 0 - b.getD i 0:=by
 by_cases h:i<n
 ·simp only [sub,List.getD,List.getElem?_zipWith]
  rw [List.getElem?_eq_getElem (by lia),List.getElem?_eq_getElem (by lia)]
  rfl
 ·simp only [sub,List.getD]
  rw [List.getElem?_eq_none (by simp;lia),List.getElem?_eq_none (by lia),List.getElem?_eq_none (by lia)]
  rfl
theorem mulv_at (r:List Int) (k:Int) (i:Nat):(mulv r k).getD i 0=r.getD i 0*k:=by
 simp only [mulv,List.getD,List.getElem?_map]
 cases r[i]? <;> simp
theorem zer_at (n i:Nat):(zer n).getD i 0=0:=by
 simp only [zer,List.getD,List.getElem?_replicate]
 split <;> rfl
theorem ext_at {a b:List Int} {n:Nat} (ha:a.length=n) (hb:b.length=n) (h:∀ i,i<n→a.getD i 0=b.getD i 0):a=b:=by
 apply List.ext_getElem (by lia)
 intro i h1 h2
 have:=h i (by lia)
 rw [List.getD,List.getD,List.getElem?_eq_getElem h1,List.getElem?_eq_getElem h2] at this
 exact this
noncomputable def Cl (n:Nat) (P:List Int→Prop):Prop:=P (zer n)∧∀ a b:List Int,a.length=n→b.length=n→P a→P b→P (sub a b)
noncomputable def Span (n:Nat) (rs:List (List Int)) (v:List Int):Prop:=∀ P:List Int→Prop,Cl n P→(∀ r∈rs,P r)→P v
noncomputable def Len (n:Nat) (rs:List (List Int)):Prop:=∀ r∈rs,r.length=n
theorem Span.mem {n:Nat} {rs:List (List Int)} {r:List Int} (h:r∈rs):Span n rs r:=fun _ _ k=>k r h
theorem Span.zero {n:Nat} {rs:List (List Int)}:Span n rs (zer n):=fun _ c _=>c.1
theorem Span.sub {n:Nat} {rs:List (List Int)} {a b:List Int} (la:a.length=n) (lb:b.length=n) (ha:Span n rs a) (hb:Span n rs b):Span n rs (Mth.sub a b):=fun P c k=>c.2 a b la lb (ha P c k) (hb P c k)
theorem Span.cl {n:Nat} (rs:List (List Int)):Cl n (Span n rs):=⟨Span.zero,fun _ _ la lb ha hb=>Span.sub la lb ha hb⟩
theorem Span.of {n:Nat} {rs qs:List (List Int)} {v:List Int} (h:Span n rs v) (hq:∀ r∈rs,Span n qs r):Span n qs v:=h _ (Span.cl qs) hq
theorem Span.len {n:Nat} {rs:List (List Int)} {v:List Int} (h:Span n rs v) (hl:Len n rs):v.length=n:=h (fun v=>v.length=n) ⟨zer_len n,fun _ _ ha hb _ _=>sub_len ha hb⟩ hl
theorem Span.neg {n:Nat} {rs:List (List Int)} {a:List Int} (la:a.length=n) (ha:Span n rs a):Span n rs (mulv a (-1)):=by
 have e:mulv a (-1)=Mth.sub (zer n) a:=ext_at (mulv_len la) (sub_len (zer_len n) la) fun i _=>by rw [mulv_at,sub_at (zer_len n) la,zer_at];lia
 rw [e]
 exact Span.sub (zer_len n) la Span.zero ha
theorem Span.mulN {n:Nat} {rs:List (List Int)} {a:List Int} (la:a.length=n) (ha:Span n rs a):∀ k:Nat,Span n rs (mulv a k)
 | 0=>by
  have e:mulv a ((0:Nat):Int)=zer n:=ext_at (mulv_len la) (zer_len n) fun i _=>by rw [mulv_at,zer_at];simp
  rw [e]
  exact Span.zero
 | k+1=>by
  have e:mulv a ((k+1:Nat):Int)=Mth.sub (mulv a k) (mulv a (-1)):=ext_at (mulv_len la) (sub_len (mulv_len la) (mulv_len la)) fun i _=>by
   rw [mulv_at,sub_at (mulv_len la) (mulv_len la),mulv_at,mulv_at,Int.natCast_add,Int.mul_add]
   simp
  rw [e]
  exact Span.sub (mulv_len la) (mulv_len la) (Span.mulN la ha k) (Span.neg la ha)
theorem Span.mul {n:Nat} {rs:List (List Int)} {a:List Int} (la:a.length=n) (ha:Span n rs a) (k:Int):Span n rs (mulv a k):=by
 rcases Int.le_total 0 k with h|h
 ·obtain ⟨m,rfl⟩:=Int.eq_ofNat_of_zero_le h
  exact Span.mulN la ha m
 ·obtain ⟨m,e⟩:=Int.eq_ofNat_of_zero_le (show 0≤-k by lia)
  have e2:mulv a k=mulv (mulv a m) (-1):=ext_at (mulv_len la) (mulv_len (mulv_len la)) fun i _=>by
   rw [mulv_at,mulv_at,mulv_at,Int.mul_assoc]
   congr 1
   lia
  rw [e2]
  exact Span.neg (mulv_len la) (Span.mulN la ha m)
noncomputable def low (v s:List Int) (q:Int):List Int:=sub v (mulv s q)
theorem low_len {v s:List Int} {n:Nat} {q:Int} (hv:v.length=n) (hs:s.length=n):(low v s q).length=n:=sub_len hv (mulv_len hs)
theorem low_at {v s:List Int} {n:Nat} (hv:v.length=n) (hs:s.length=n) (q:Int) (i:Nat):(low v s q).getD i 0=v.getD i 0 - s.getD i 0*q:=by rw [low,sub_at hv (mulv_len hs),mulv_at]
theorem Span.low {n:Nat} {rs:List (List Int)} {v s:List Int} (lv:v.length=n) (ls:s.length=n) (hv:Span n rs v) (hs:Span n rs s) (q:Int):Span n rs (Mth.low v s q):=Span.sub lv (mulv_len ls) hv (Span.mul ls hs q)
theorem Span.unlow {n:Nat} {rs:List (List Int)} {v s:List Int} {q:Int} (lv:v.length=n) (ls:s.length=n) (hl:Span n rs (Mth.low v s q)) (hs:Span n rs s):Span n rs v:=by
 have e:v=Mth.sub (Mth.low v s q) (mulv s (-q)):=ext_at lv (sub_len (low_len lv ls) (mulv_len ls)) fun i _=>by
  rw [sub_at (low_len lv ls) (mulv_len ls),low_at lv ls,mulv_at]
  rw [Int.mul_neg]
  lia
 rw [e]
 exact Span.sub (low_len lv ls) (mulv_len ls) hl (Span.mul ls hs _)
noncomputable def Eqv (n:Nat) (rs qs:List (List Int)):Prop:=(∀ r∈rs,Span n qs r)∧∀ q∈qs,Span n rs q
theorem Eqv.refl {n:Nat} {rs:List (List Int)}:Eqv n rs rs:=⟨fun _=>Span.mem,fun _=>Span.mem⟩
theorem Eqv.symm {n:Nat} {rs qs:List (List Int)} (h:Eqv n rs qs):Eqv n qs rs:=⟨h.2,h.1⟩
theorem Eqv.trans {n:Nat} {rs qs ts:List (List Int)} (h:Eqv n rs qs) (k:Eqv n qs ts):Eqv n rs ts:=⟨fun r hr=>(h.1 r hr).of k.1,fun t ht=>(k.2 t ht).of h.2⟩
theorem Eqv.span {n:Nat} {rs qs:List (List Int)} (h:Eqv n rs qs) {v:List Int} (hv:Span n rs v):Span n qs v:=hv.of h.1
theorem Span.app' {n:Nat} {rs qs:List (List Int)} {v:List Int} (h:Span n qs v):Span n (rs++qs) v:=h.of fun _ hr=>Span.mem (List.mem_append_right _ hr)
theorem Eqv.turn {n:Nat} {s:List Int} {rs os:List (List Int)} (f:List Int→Int) (ls:s.length=n) (lr:Len n rs):Eqv n (s::rs++os) (s::(rs.map fun v=>Mth.low v s (f v))++os):=by
 have hs1:Span n (s::rs++os) s:=Span.mem (by simp)
 have hs2:Span n (s::(rs.map fun v=>Mth.low v s (f v))++os) s:=Span.mem (by simp)
 refine⟨fun r hr=>?_,fun r hr=>?_⟩
 ·rcases List.mem_append.mp hr with h|h
  ·rcases List.mem_cons.mp h with rfl|h
   ·exact hs2
   ·exact Span.unlow (q:=f r) (lr r h) ls (Span.mem (List.mem_append_left _ (List.mem_cons_of_mem _ (List.mem_map.mpr ⟨r,h,rfl⟩)))) hs2
  ·exact Span.mem (List.mem_append_right _ h)
 ·rcases List.mem_append.mp hr with h|h
  ·rcases List.mem_cons.mp h with rfl|h
   ·exact hs1
   ·obtain ⟨v,hv,rfl⟩:=List.mem_map.mp h
    exact Span.low (lr v hv) ls (Span.mem (List.mem_append_left _ (List.mem_cons_of_mem _ hv))) hs1 _
  ·exact Span.mem (List.mem_append_right _ h)
end Mth
namespace Mth
noncomputable def Led (r:List Int) (k:Nat):Prop:=0<r.getD k 0∧∀ i,k<i→r.getD i 0=0
theorem Led.uniq {r:List Int} {j k:Nat} (a:Led r j) (b:Led r k):j=k:=by
 rcases Nat.lt_trichotomy j k with h|h|h
 ·have:=a.2 k h
  have:=b.1
  lia
 ·exact h
 ·have:=b.2 j h
  have:=a.1
  lia
noncomputable def Bef (a b:List Int):Prop:=∀ k,Led b k→(∃ j,k<j∧Led a j)∧0≤a.getD k 0∧a.getD k 0<b.getD k 0
noncomputable def SF (rs:List (List Int)):Prop:=(∀ r∈rs,∃ k,Led r k)∧rs.Pairwise Bef
theorem SF.tail {a:List Int} {rs:List (List Int)} (h:SF (a::rs)):SF rs:=⟨fun r hr=>h.1 r (List.mem_cons_of_mem _ hr),(List.pairwise_cons.mp h.2).2⟩
theorem Span.cons {n:Nat} {a:List Int} {rs:List (List Int)} {v:List Int} (la:a.length=n) (lr:Len n rs) (h:Span n (a::rs) v):∃ c,v.length=n∧Span n rs (Mth.low v a c):=by
 refine h (fun v=>∃ c,v.length=n∧Span n rs (Mth.low v a c)) ⟨⟨0,zer_len n,?_⟩,?_⟩ ?_
 ·have e:Mth.low (zer n) a 0=zer n:=ext_at (low_len (zer_len n) la) (zer_len n) fun i _=>by rw [low_at (zer_len n) la,zer_at];simp
  rw [e]
  exact Span.zero
 ·rintro x y lx ly ⟨c,_,hc⟩ ⟨d,_,hd⟩
  refine⟨c - d,sub_len lx ly,?_⟩
  have e:Mth.low (Mth.sub x y) a (c - d)=Mth.sub (Mth.low x a c) (Mth.low y a d):=ext_at (low_len (sub_len lx ly) la) (sub_len (low_len lx la) (low_len ly la)) fun i _=>by
   rw [low_at (sub_len lx ly) la,sub_at lx ly,sub_at (low_len lx la) (low_len ly la),low_at lx la,low_at ly la,Int.mul_sub]
   lia
  rw [e]
  exact Span.sub (low_len lx la) (low_len ly la) hc hd
 ·intro r hr
  rcases List.mem_cons.mp hr with rfl|hr
  ·refine⟨1,la,?_⟩
   have e:Mth.low r r 1=zer n:=ext_at (low_len la la) (zer_len n) fun i _=>by rw [low_at la la,zer_at];lia
   rw [e]
   exact Span.zero
  ·refine⟨0,lr r hr,?_⟩
   have e:Mth.low r a 0=r:=ext_at (low_len (lr r hr) la) (lr r hr) fun i _=>by rw [low_at (lr r hr) la];simp
   rw [e]
   exact Span.mem hr
theorem Span.none {n:Nat} {v:List Int} (h:Span n [] v):v=zer n:=h (fun v=>v=zer n) ⟨rfl,fun a b _ _ ha hb=>by
 rw [ha,hb]
 exact ext_at (sub_len (zer_len n) (zer_len n)) (zer_len n) fun i _=>by rw [sub_at (zer_len n) (zer_len n),zer_at];rfl⟩ fun _ hr=>nomatch hr
theorem Span.at0 {n i:Nat} {rs:List (List Int)} {v:List Int} (lr:Len n rs) (h:Span n rs v) (h0:∀ r∈rs,r.getD i 0=0):v.getD i 0=0 :=
 (h (fun v=>v.length=n∧v.getD i 0=0) ⟨⟨zer_len n,zer_at n i⟩,fun a b la lb ha hb=>⟨sub_len la lb,by rw [sub_at la lb,ha.2,hb.2];rfl⟩⟩ fun r hr=>⟨lr r hr,h0 r hr⟩).2
theorem SF.low0 {a:List Int} {rs:List (List Int)} (h:SF (a::rs)) {j i:Nat} (hj:Led a j) (hi:j≤i):∀ r∈rs,r.getD i 0=0:=fun r hr=>by
 obtain ⟨k,hk⟩:=h.1 r (List.mem_cons_of_mem _ hr)
 obtain ⟨⟨j',hj',lj⟩,_⟩:=(List.pairwise_cons.mp h.2).1 r hr k hk
 have:=lj.uniq hj
 exact hk.2 i (by lia)
theorem SF.split {n:Nat} {a:List Int} {rs:List (List Int)} {v:List Int} {j:Nat} (h:SF (a::rs)) (la:a.length=n) (lr:Len n rs) (hj:Led a j) (hv:Span n (a::rs) v) :
  ∃ c,Span n rs (Mth.low v a c)∧v.getD j 0=a.getD j 0*c∧∀ i,j<i→v.getD i 0=0:=by
 obtain ⟨c,lv,hs⟩:=Span.cons la lr hv
 refine⟨c,hs,?_,fun i hi=>?_⟩
 ·have:=Span.at0 (i:=j) lr hs (h.low0 hj (Nat.le_refl _))
  rw [low_at lv la] at this
  lia
 ·have:=Span.at0 (i:=i) lr hs (h.low0 hj (by lia))
  rw [low_at lv la,hj.2 i hi] at this
  lia
theorem low_zero {n:Nat} {v a:List Int} (lv:v.length=n) (la:a.length=n):Mth.low v a 0=v:=ext_at (low_len lv la) lv fun i _=>by rw [low_at lv la];simp
theorem SF.rest {n:Nat} {a:List Int} {rs:List (List Int)} {v:List Int} {j:Nat} (h:SF (a::rs)) (la:a.length=n) (lr:Len n rs) (hj:Led a j) (hv:Span n (a::rs) v) (h0:v.getD j 0=0):Span n rs v:=by
 have lv:v.length=n:=hv.len fun r hr=>(List.mem_cons.mp hr).elim (fun z=>z ▸ la) (lr r)
 obtain ⟨c,hs,e,_⟩:=h.split la lr hj hv
 rw [h0] at e
 have hc:c=0:=by
  rcases Int.mul_eq_zero.mp e.symm with z|z
  ·have:=hj.1
   lia
  ·exact z
 rw [hc,low_zero lv la] at hs
 exact hs
theorem small_mul {x l c:Int} (h:x=l*c) (hl:0<l) (h1:-l<x) (h2:x<l):x=0:=by
 rcases Int.lt_trichotomy c 0 with z|z|z
 ·have:l*c≤l*(-1):=Int.mul_le_mul_of_nonneg_left (by lia) (by lia)
  lia
 ·rw [z,Int.mul_zero] at h
  exact h
 ·have:l*1≤l*c:=Int.mul_le_mul_of_nonneg_left (by lia) (by lia)
  lia
theorem SF.small {n:Nat}:∀ {rs:List (List Int)} {v:List Int},SF rs→Len n rs→Span n rs v→(∀ r∈rs,∀ k,Led r k→-(r.getD k 0)<v.getD k 0∧v.getD k 0<r.getD k 0)→v=zer n
 | [],v,_,_,hv,_=>hv.none
 | a::rs,v,h,lr,hv,hs=>by
  obtain ⟨j,hj⟩:=h.1 a (.head _)
  have la:=lr a (.head _)
  have lr':Len n rs:=fun r hr=>lr r (List.mem_cons_of_mem _ hr)
  obtain ⟨c,_,e,_⟩:=h.split la lr' hj hv
  have h0:=small_mul e hj.1 (hs a (.head _) j hj).1 (hs a (.head _) j hj).2
  exact SF.small h.tail lr' (h.rest la lr' hj hv h0) fun r hr=>hs r (List.mem_cons_of_mem _ hr)
end Mth
namespace Mth
noncomputable def qt (v s:List Int) (p:Nat):Int:=(v.getD p 0).fdiv (s.getD p 0)
noncomputable def low1 (p:Nat) (s v:List Int):List Int:=low v s (qt v s p)
theorem low1_len {v s:List Int} {n p:Nat} (hv:v.length=n) (hs:s.length=n):(low1 p s v).length=n:=low_len hv hs
theorem low1_p {v s:List Int} {n p:Nat} (hv:v.length=n) (hs:s.length=n):(low1 p s v).getD p 0=(v.getD p 0).fmod (s.getD p 0):=by rw [low1,low_at hv hs,qt,Int.fmod_def]
theorem sub_of {x y a:Int} (e:x+y=a):x=a - y:=by rw [← e,Int.add_sub_cancel]
theorem fm_bd (a:Int) {b:Int} (hb:b≠0):(a.fmod b).natAbs<b.natAbs∧(0<b→0≤a.fmod b)∧(b<0→a.fmod b≤0):=by
 rcases Int.lt_or_gt_of_ne hb with h|h
 ·have e:=Int.neg_fmod_neg a b
  have h1:=Int.fmod_nonneg_of_pos (-a) (show 0 < -b by lia)
  have h2:=Int.fmod_lt_of_pos (-a) (show 0 < -b by lia)
  lia
 ·have h1:=Int.fmod_nonneg_of_pos a h
  have h2:=Int.fmod_lt_of_pos a h
  lia
theorem q_any {a b:Int} (hb:b≠0) (hab:b.natAbs≤a.natAbs):(a.fdiv b).natAbs*b.natAbs≤2*a.natAbs:=by
 have e:=Int.mul_fdiv_add_fmod a b
 have h:=fm_bd a hb
 have e2:(b*a.fdiv b).natAbs=(a.fdiv b).natAbs*b.natAbs:=by rw [Int.natAbs_mul,Nat.mul_comm]
 have e3:b*a.fdiv b=a - a.fmod b:=sub_of e
 rw [← e2,e3]
 exact Nat.le_trans (Int.natAbs_sub_le _ _) (by lia)
noncomputable def Alike (a b:Int):Prop:=(0<a∧0<b)∨(a<0∧b<0)
theorem q_same {a b:Int} (hs:Alike a b) (hab:b.natAbs≤a.natAbs):(a.fdiv b).natAbs*b.natAbs+(a.fmod b).natAbs=a.natAbs:=by
 have e:=Int.mul_fdiv_add_fmod a b
 have hb:b≠0:=by rcases hs with h|h <;> lia
 have h:=fm_bd a hb
 have e2:(b*a.fdiv b).natAbs=(a.fdiv b).natAbs*b.natAbs:=by rw [Int.natAbs_mul,Nat.mul_comm]
 have e3:b*a.fdiv b=a - a.fmod b:=sub_of e
 rw [← e2,e3]
 have hl:=Nat.le_trans (Nat.le_of_lt h.1) hab
 rcases hs with z|z
 ·have h1:=h.2.1 z.2
  rw [← Int.natAbs_add_of_nonneg (by clear e e2 e3 h hab hb;lia) h1,Int.sub_add_cancel]
 ·have h1:=h.2.2 z.2
  rw [← Int.natAbs_add_of_nonpos (by clear e e2 e3 h hab hb;lia) h1,Int.sub_add_cancel]
noncomputable def BdM (M:Nat) (r:List Int):Prop:=∀ i,(r.getD i 0).natAbs≤M
theorem BdM.mono {M N:Nat} {r:List Int} (h:BdM M r) (k:M≤N):BdM N r:=fun i=>Nat.le_trans (h i) k
theorem low_bd {v s:List Int} {n M Q:Nat} {q:Int} (hv:v.length=n) (hs:s.length=n) (bv:BdM M v) (bs:BdM M s) (hq:q.natAbs≤Q):BdM (M+M*Q) (low v s q):=fun i=>by
 rw [low_at hv hs]
 have h1:=Int.natAbs_sub_le (v.getD i 0) (s.getD i 0*q)
 have h2:(s.getD i 0*q).natAbs≤M*Q:=by rw [Int.natAbs_mul];exact Nat.mul_le_mul (bs i) hq
 have h3:=bv i
 lia
noncomputable def at' (p:Nat) (v:List Int):Nat:=(v.getD p 0).natAbs
structure PS (n p M m l:Nat) (led os:List (List Int)):Prop where
 len:∀ v∈led++os,v.length=n
 bd:∀ v∈led++os,BdM M v
 lo:∀ v∈led,l≤at' p v∧at' p v≤m
 pos:0<l
 big:∃ v∈led,at' p v=m
 low:∃ v∈led,at' p v=l
 one:(∀ v∈led,0<v.getD p 0)∨∀ v∈led,v.getD p 0<0
 zero:∀ v∈os,v.getD p 0=0
end Mth
namespace Mth
noncomputable def left1 (p:Nat) (s:List Int) (rest:List (List Int)):List (List Int):=(rest.map (low1 p s)).filter (fun v=>v.getD p 0 != 0)
noncomputable def left0 (p:Nat) (s:List Int) (rest:List (List Int)):List (List Int):=(rest.map (low1 p s)).filter (fun v=>v.getD p 0 == 0)
theorem mem_left {p:Nat} {s x:List Int} {rest:List (List Int)}:x∈rest.map (low1 p s)↔x∈left1 p s rest∨x∈left0 p s rest:=by
 unfold left1 left0
 rw [List.mem_filter,List.mem_filter]
 constructor
 ·intro h
  by_cases e:x.getD p 0=0
  ·exact .inr ⟨h,by simpa using e⟩
  ·exact .inl ⟨h,by simpa using e⟩
 ·rintro (h|h) <;> exact h.1
theorem Eqv.mem {n:Nat} {rs qs:List (List Int)} (h:∀ x,x∈rs↔x∈qs):Eqv n rs qs:=⟨fun r hr=>Span.mem ((h r).mp hr),fun q hq=>Span.mem ((h q).mpr hq)⟩
theorem turn_eqv {n p:Nat} {s:List Int} {rest os:List (List Int)} (ls:s.length=n) (lr:Len n rest):Eqv n (s::rest++os) (s::left1 p s rest++(os++left0 p s rest)):=by
 refine (Eqv.turn (fun v=>qt v s p) ls lr).trans (Eqv.mem fun x=>?_)
 have h:=mem_left (p:=p) (s:=s) (x:=x) (rest:=rest)
 have h':x∈(rest.map fun v=>low v s (qt v s p))↔x∈left1 p s rest∨x∈left0 p s rest:=h
 simp only [List.mem_append,List.mem_cons,h']
 constructor
 ·rintro ((h|h|h)|h)
  ·exact .inl (.inl h)
  ·exact .inl (.inr h)
  ·exact .inr (.inr h)
  ·exact .inr (.inl h)
 ·rintro ((h|h)|h|h)
  ·exact .inl (.inl h)
  ·exact .inl (.inr (.inl h))
  ·exact .inr h
  ·exact .inl (.inr (.inr h))
noncomputable def mz (p:Nat) (rs:List (List Int)):Nat:=(rs.map (at' p)).sum
theorem mz_filter (p:Nat) (f:List Int→Bool):∀ rs:List (List Int),mz p (rs.filter f)≤mz p rs
 | []=>Nat.le_refl _
 | r::rs=>by
  have h:=mz_filter p f rs
  unfold mz at h ⊢
  rw [List.filter_cons]
  split <;> simp only [List.map_cons,List.sum_cons] <;> lia
theorem mz_less {p l:Nat} {s:List Int}:∀ {rest:List (List Int)},rest≠[]→(∀ v∈rest,l≤at' p v)→(∀ v∈rest,at' p (low1 p s v)<l)→mz p (rest.map (low1 p s))<mz p rest
 | [],h,_,_=>absurd rfl h
 | [v],_,h1,h2=>by
  have a:=h1 v (.head _)
  have b:=h2 v (.head _)
  simp only [mz,List.map_cons,List.map_nil,List.sum_cons,List.sum_nil]
  lia
 | v::w::r,_,h1,h2=>by
  have a:=h1 v (.head _)
  have b:=h2 v (.head _)
  have c:=mz_less (rest:=w::r) (by simp) (fun x hx=>h1 x (List.mem_cons_of_mem _ hx)) (fun x hx=>h2 x (List.mem_cons_of_mem _ hx))
  simp only [mz,List.map_cons,List.sum_cons] at c ⊢
  lia
theorem low1_lt {v s:List Int} {n p:Nat} (hv:v.length=n) (hs:s.length=n) (h0:s.getD p 0≠0):at' p (low1 p s v)<at' p s:=by
 have:=(fm_bd (v.getD p 0) h0).1
 unfold at'
 rw [low1_p hv hs]
 exact this
noncomputable def PI (n p M:Nat) (led os:List (List Int)):Prop :=
 (∀ v∈led++os,v.length=n)∧(∀ v∈led,v.getD p 0≠0)∧(∀ v∈os,v.getD p 0=0) ∧
  ((∀ v∈led++os,BdM M v)∨(∃ m l M',PS n p M' m l led os∧M'*m*m*l≤3*(M*M*M*M))∨(led.length≤1∧∀ v∈led++os,BdM (6*(M*M*M*M)) v))
end Mth
namespace Mth
theorem fdiv_le (a:Int) {b:Int} (hb:b≠0):(a.fdiv b).natAbs≤a.natAbs:=by
 have e:=Int.mul_fdiv_add_fmod a b
 have h:=(fm_bd a hb).1
 have e2:(b*a.fdiv b).natAbs=(a.fdiv b).natAbs*b.natAbs:=by rw [Int.natAbs_mul,Nat.mul_comm]
 rw [sub_of e] at e2
 have h0:=Int.natAbs_sub_le a (a.fmod b)
 rw [e2] at h0
 clear e e2
 generalize (a.fdiv b).natAbs=q at *
 cases q with
 | zero=>exact Nat.zero_le _
 | succ k =>
  have h1:k*1≤k*b.natAbs:=Nat.mul_le_mul_left _ (by lia)
  rw [Nat.add_mul,Nat.one_mul] at h0
  lia
theorem low1_bd {v s:List Int} {n p S L:Nat} (hv:v.length=n) (hs:s.length=n) (h0:s.getD p 0≠0) (bv:BdM S v) (bs:BdM L s):BdM (S+L*S) (low1 p s v):=fun i=>by
 unfold low1
 rw [low_at hv hs]
 have h1:=Int.natAbs_sub_le (v.getD i 0) (s.getD i 0*qt v s p)
 have h2:(s.getD i 0*qt v s p).natAbs≤L*S:=by rw [Int.natAbs_mul];exact Nat.mul_le_mul (bs i) (Nat.le_trans (fdiv_le _ h0) (bv p))
 have h3:=bv i
 lia
theorem low1_above {v s:List Int} {n p i:Nat} (hv:v.length=n) (hs:s.length=n) (h0:s.getD i 0=0):(low1 p s v).getD i 0=v.getD i 0:=by
 unfold low1
 rw [low_at hv hs,h0]
 lia
theorem Led.low1 {v s:List Int} {n p k:Nat} (hv:v.length=n) (hs:s.length=n) (hL:Led s p) (hk:p<k):Led (Mth.low1 p s v) k↔Led v k:=by
 unfold Led
 rw [low1_above hv hs (hL.2 k hk)]
 constructor
 ·rintro ⟨a,b⟩
  exact⟨a,fun i hi=>by have z:=b i hi;rw [low1_above hv hs (hL.2 i (by lia))] at z;exact z⟩
 ·rintro ⟨a,b⟩
  exact⟨a,fun i hi=>by rw [low1_above hv hs (hL.2 i (by lia))];exact b i hi⟩
theorem SF.add {n p:Nat} {st:List (List Int)} {s:List Int} (h:SF st) (hl:∀ r∈st,∃ k,p<k∧Led r k) (lst:Len n st) (ls:s.length=n) (hL:Led s p) :
  SF (st.map (Mth.low1 p s)++[s])∧∀ r∈st.map (Mth.low1 p s)++[s],∃ k,p≤k∧Led r k:=by
 have hl':∀ r∈st,∃ k,p<k∧Led (Mth.low1 p s r) k:=fun r hr=>by
  obtain ⟨k,hk,z⟩:=hl r hr
  exact⟨k,hk,(Led.low1 (lst r hr) ls hL hk).mpr z⟩
 have all:∀ r∈st.map (Mth.low1 p s)++[s],∃ k,p≤k∧Led r k:=fun r hr=>by
  rcases List.mem_append.mp hr with a|a
  ·obtain ⟨u,hu,rfl⟩:=List.mem_map.mp a
   obtain ⟨k,hk,z⟩:=hl' u hu
   exact⟨k,by lia,z⟩
  ·rw [List.mem_singleton.mp a]
   exact⟨p,Nat.le_refl _,hL⟩
 refine⟨⟨fun r hr=>?_,?_⟩,all⟩
 ·obtain ⟨k,_,z⟩:=all r hr
  exact⟨k,z⟩
 ·rw [List.pairwise_append]
  refine⟨?_,List.pairwise_singleton _ _,fun a ha b hb=>?_⟩
  ·rw [List.pairwise_map]
   refine List.Pairwise.imp_of_mem (fun {a b} ha hb hab k hk=>?_) h.2
   obtain ⟨kb,hkb,zb⟩:=hl b hb
   have e:=hk.uniq ((Led.low1 (lst b hb) ls hL hkb).mpr zb)
   subst e
   obtain ⟨⟨j,hj,zj⟩,r1,r2⟩:=hab k zb
   rw [low1_above (lst a ha) ls (hL.2 k hkb),low1_above (lst b hb) ls (hL.2 k hkb)]
   exact⟨⟨j,hj,(Led.low1 (lst a ha) ls hL (by lia)).mpr zj⟩,r1,r2⟩
  ·obtain ⟨u,hu,rfl⟩:=List.mem_map.mp ha
   rw [List.mem_singleton.mp hb]
   intro k hk
   have e:=hk.uniq hL
   subst e
   obtain ⟨j,hj,zj⟩:=hl' u hu
   have hs0:s.getD k 0≠0:=by
    have:=hL.1
    lia
   have f:=fm_bd (u.getD k 0) hs0
   have g:=f.2.1 hL.1
   rw [low1_p (lst u hu) ls]
   exact⟨⟨j,hj,zj⟩,g,by have:=f.1;have:=hL.1;lia⟩
theorem Eqv.add {n p:Nat} {st os:List (List Int)} {s:List Int} (lst:Len n st) (ls:s.length=n):Eqv n (st++s::os) (st.map (Mth.low1 p s)++[s]++os):=by
 refine (Eqv.mem fun x=>?_).trans ((Eqv.turn (s:=s) (rs:=st) (os:=os) (fun v=>qt v s p) ls lst).trans (Eqv.mem fun x=>?_))
 ·simp only [List.mem_append,List.mem_cons]
  constructor
  ·rintro (h|h|h)
   ·exact .inl (.inr h)
   ·exact .inl (.inl h)
   ·exact .inr h
  ·rintro ((h|h)|h)
   ·exact .inr (.inl h)
   ·exact .inl h
   ·exact .inr (.inr h)
 ·show x∈s::st.map (Mth.low1 p s)++os↔_
  simp only [List.mem_append,List.mem_cons,List.not_mem_nil,or_false]
  constructor
  ·rintro ((h|h)|h)
   ·exact .inl (.inr h)
   ·exact .inl (.inl h)
   ·exact .inr h
  ·rintro ((h|h)|h)
   ·exact .inl (.inr h)
   ·exact .inl (.inl h)
   ·exact .inr h
theorem Eqv.app {n:Nat} {as bs cs:List (List Int)} (h:Eqv n as bs):Eqv n (cs++as) (cs++bs) :=
 ⟨fun r hr=>(List.mem_append.mp hr).elim (fun z=>Span.mem (List.mem_append_left _ z)) fun z=>(h.1 r z).app',fun r hr=>(List.mem_append.mp hr).elim (fun z=>Span.mem (List.mem_append_left _ z)) fun z=>(h.2 r z).app'⟩
theorem Eqv.flip {n:Nat} {a:List Int} {rs:List (List Int)} (la:a.length=n):Eqv n (a::rs) (mulv a (-1)::rs):=by
 have e:mulv (mulv a (-1)) (-1)=a:=ext_at (mulv_len (mulv_len la)) la fun i _=>by rw [mulv_at,mulv_at];lia
 refine⟨fun r hr=>?_,fun r hr=>?_⟩
 ·rcases List.mem_cons.mp hr with rfl|hr
  ·have:=Span.neg (rs:=mulv r (-1)::rs) (mulv_len la) (Span.mem (.head _))
   rw [e] at this
   exact this
  ·exact Span.mem (List.mem_cons_of_mem _ hr)
 ·rcases List.mem_cons.mp hr with rfl|hr
  ·exact Span.neg la (Span.mem (.head _))
  ·exact Span.mem (List.mem_cons_of_mem _ hr)
end Mth
namespace Mth
noncomputable def r2 (p:Nat×Nat):List Int:=[(p.1:Int),(p.2:Int)]
noncomputable def prd:List (Nat×Nat)→Nat
 | []=>1
 | p::l=>p.2*prd l
noncomputable def tot:List (Nat×Nat)→Nat
 | []=>0
 | p::l=>p.1*prd l+p.2*tot l
theorem gcd_turn (f m:Nat):Nat.gcd m (f % m)=Nat.gcd f m:=by rw [Nat.gcd_comm m,← Nat.gcd_rec,Nat.gcd_comm]
theorem take_snoc {α:Type} {l:List α} {i:Nat} {x:α} (h:l[i]?=some x):l.take (i+1)=l.take i++[x]:=by
 rw [List.take_add_one,h];rfl
end Mth
namespace Mth
theorem take_at (r:List Int) {w i:Nat} (h:i<w):(r.take w).getD i 0=r.getD i 0:=by
 rw [List.getD,List.getD,List.getElem?_take,if_pos h]
theorem take_out (r:List Int) {w i:Nat} (h:w≤i):(r.take w).getD i 0=0:=by
 rw [List.getD,List.getElem?_take,if_neg (by lia)]
 rfl
theorem low1_take {v s:List Int} {p w:Nat} (hp:p<w):(low1 p s v).take w=low1 p (s.take w) (v.take w):=by
 simp only [low1,low,sub,mulv,qt,List.take_zipWith,List.map_take,take_at _ hp]
theorem take_len {v:List Int} {n w:Nat} (h:v.length=n) (hw:w≤n):(v.take w).length=w:=by rw [List.length_take,h,Nat.min_eq_left hw]
noncomputable def gr (b:Nat):Nat→Nat
 | 0=>b
 | i+1=>4*gr b i+3
noncomputable def sb (b:Nat):Nat→Nat
 | 0=>0
 | i+1=>sb b i+gr b (i+1)+1
end Mth
namespace Mth
structure PT (p X m k:Nat) (led os:List (List Int)):Prop where
 bd:∀ v∈led++os,BdM X v
 hi:∀ v∈led,at' p v≤m
 one:(∀ v∈led,0<v.getD p 0)∨∀ v∈led,v.getD p 0<0
 low:∃ v∈led,at' p v+m≤k
theorem mem_left1 {p:Nat} {s:List Int} {rest:List (List Int)} {v:List Int} (hv:v∈left1 p s rest):∃ u∈rest,low1 p s u=v∧v.getD p 0≠0:=by
 obtain ⟨a1,a2⟩:=List.mem_filter.mp hv
 obtain ⟨u,hu,e⟩:=List.mem_map.mp a1
 exact⟨u,hu,e,by simpa using a2⟩
theorem mem_left0 {p:Nat} {s:List Int} {rest:List (List Int)} {v:List Int} (hv:v∈left0 p s rest):∃ u∈rest,low1 p s u=v∧v.getD p 0=0:=by
 obtain ⟨a1,a2⟩:=List.mem_filter.mp hv
 obtain ⟨u,hu,e⟩:=List.mem_map.mp a1
 exact⟨u,hu,e,by simpa using a2⟩
theorem left_all {p:Nat} {s:List Int} {rest os:List (List Int)} {P:List Int→Prop} (h:∀ v∈s::rest++os,P v) (k:∀ v∈rest,P (low1 p s v)):∀ v∈s::left1 p s rest++(os++left0 p s rest),P v:=fun v hv=>by
 rcases List.mem_append.mp hv with a|a
 ·rcases List.mem_cons.mp a with rfl|a
  ·exact h v (by simp)
  ·obtain ⟨u,hu,rfl,_⟩:=mem_left1 a
   exact k u hu
 ·rcases List.mem_append.mp a with a|a
  ·exact h v (by simp [a])
  ·obtain ⟨u,hu,rfl,_⟩:=mem_left0 a
   exact k u hu
theorem left_sign {n p:Nat} {s:List Int} {rest:List (List Int)} (ls:s.length=n) (lr:Len n rest) (hsn:s.getD p 0≠0):(∀ v∈s::left1 p s rest,0<v.getD p 0)∨∀ v∈s::left1 p s rest,v.getD p 0<0:=by
 rcases Int.lt_or_gt_of_ne hsn with z|z
 ·refine .inr fun v hv=>?_
  rcases List.mem_cons.mp hv with rfl|a
  ·exact z
  ·obtain ⟨u',hu',rfl,hn⟩:=mem_left1 a
   have:=(fm_bd (u'.getD p 0) hsn).2.2 z
   rw [low1_p (lr u' hu') ls] at hn ⊢
   lia
 ·refine .inl fun v hv=>?_
  rcases List.mem_cons.mp hv with rfl|a
  ·exact z
  ·obtain ⟨u',hu',rfl,hn⟩:=mem_left1 a
   have:=(fm_bd (u'.getD p 0) hsn).2.1 z
   rw [low1_p (lr u' hu') ls] at hn ⊢
   lia
theorem left_hi {n p:Nat} {s:List Int} {rest:List (List Int)} (ls:s.length=n) (lr:Len n rest) (hsn:s.getD p 0≠0):∀ v∈s::left1 p s rest,at' p v≤at' p s:=fun v hv=>by
 rcases List.mem_cons.mp hv with rfl|a
 ·exact Nat.le_refl _
 ·obtain ⟨u,hu,rfl,_⟩:=mem_left1 a
  exact Nat.le_of_lt (low1_lt (lr u hu) ls hsn)
theorem PT.turn {n p X m k:Nat} {s:List Int} {rest os:List (List Int)} (h:PT p X m k (s::rest) os) (ls:s.length=n) (lr:Len n rest) (hsn:s.getD p 0≠0) (hs:∀ v∈rest,at' p s≤at' p v) :
  ∃ X',(∀ v∈rest,BdM X' (low1 p s v))∧X≤X'∧X'*at' p s≤X*k∧(left1 p s rest=[]∨PT p X' (at' p s) m (s::left1 p s rest) (os++left0 p s rest)):=by
 have hl:0<at' p s:=by unfold at';lia
 have bs:=h.bd s (by simp)
 have br:∀ v∈rest,BdM X v:=fun v hv=>h.bd v (by simp [hv])
 have hsame:∀ v∈rest,Alike (v.getD p 0) (s.getD p 0):=fun v hv=>by
  rcases h.one with z|z
  ·exact .inl ⟨z v (List.mem_cons_of_mem _ hv),z s (.head _)⟩
  ·exact .inr ⟨z v (List.mem_cons_of_mem _ hv),z s (.head _)⟩
 have hq:∀ v∈rest,(qt v s p).natAbs*at' p s+at' p (low1 p s v)=at' p v:=fun v hv=>by
  have:=q_same (hsame v hv) (hs v hv)
  unfold at'
  rw [low1_p (lr v hv) ls]
  exact this
 have hm:∀ v∈rest,at' p v≤m:=fun v hv=>h.hi v (List.mem_cons_of_mem _ hv)
 have hQ:∀ v∈rest,(qt v s p).natAbs≤m / at' p s:=fun v hv=>by
  rw [Nat.le_div_iff_mul_le hl]
  have:=hq v hv
  have:=hm v hv
  lia
 have hk:at' p s+m≤k:=by
  obtain ⟨v,hv,e⟩:=h.low
  rcases List.mem_cons.mp hv with rfl|hv
  ·exact e
  ·have:=hs v hv
   lia
 have hb:∀ v∈rest,BdM (X+X*(m / at' p s)) (low1 p s v):=fun v hv=>low_bd (lr v hv) ls (br v hv) bs (hQ v hv)
 refine⟨X+X*(m / at' p s),hb,Nat.le_add_right _ _,?_,?_⟩
 ·have e1:X*(m / at' p s)*at' p s≤X*m:=by rw [Nat.mul_assoc];exact Nat.mul_le_mul_left _ (Nat.div_mul_le_self _ _)
  have e2:X*(at' p s+m)≤X*k:=Nat.mul_le_mul_left _ hk
  rw [Nat.mul_add] at e2
  rw [Nat.add_mul]
  lia
 ·by_cases hf:left1 p s rest=[]
  ·exact .inl hf
  ·refine .inr ⟨left_all (fun v hv=>(h.bd v hv).mono (Nat.le_add_right _ _)) hb,left_hi ls lr hsn,left_sign ls lr hsn,?_⟩
   obtain ⟨w,hw⟩:=List.exists_mem_of_ne_nil _ hf
   refine⟨w,List.mem_cons_of_mem _ hw,?_⟩
   obtain ⟨u,hu,rfl,hn⟩:=mem_left1 hw
   have h1:=hq u hu
   have h2:=hm u hu
   have h3:=low1_lt (lr u hu) ls hsn
   have h4:=hs u hu
   have h5:1≤(qt u s p).natAbs:=by
    rcases Nat.eq_zero_or_pos (qt u s p).natAbs with z|z
    ·rw [z,Nat.zero_mul] at h1
     lia
    ·exact z
   have h6:1*at' p s≤(qt u s p).natAbs*at' p s:=Nat.mul_le_mul_right _ h5
   lia
theorem PT.first {n p M A:Nat} {s:List Int} {rest os:List (List Int)} (ls:s.length=n) (lr:Len n rest) (hbd:∀ v∈s::rest++os,BdM M v) (hA:∀ v∈s::rest,at' p v≤A) (hsn:s.getD p 0≠0) (hs:∀ v∈rest,at' p s≤at' p v) :
  ∃ X',(∀ v∈rest,BdM X' (low1 p s v))∧M≤X'∧X'*at' p s≤3*(M*A)∧(left1 p s rest=[]∨PT p X' (at' p s) (2*A) (s::left1 p s rest) (os++left0 p s rest)):=by
 have hl:0<at' p s:=by unfold at';lia
 have bs:=hbd s (by simp)
 have br:∀ v∈rest,BdM M v:=fun v hv=>hbd v (by simp [hv])
 have lA:at' p s≤A:=hA s (.head _)
 have hQ:∀ v∈rest,(qt v s p).natAbs≤2*A / at' p s:=fun v hv=>by
  rw [Nat.le_div_iff_mul_le hl]
  have a:=q_any hsn (hs v hv)
  have b:=hA v (List.mem_cons_of_mem _ hv)
  have a':(qt v s p).natAbs*at' p s≤2*at' p v:=a
  lia
 have hb:∀ v∈rest,BdM (M+M*(2*A / at' p s)) (low1 p s v):=fun v hv=>low_bd (lr v hv) ls (br v hv) bs (hQ v hv)
 refine⟨M+M*(2*A / at' p s),hb,Nat.le_add_right _ _,?_,?_⟩
 ·have e1:M*(2*A / at' p s)*at' p s≤M*(2*A):=by rw [Nat.mul_assoc];exact Nat.mul_le_mul_left _ (Nat.div_mul_le_self _ _)
  have e2:M*at' p s≤M*A:=Nat.mul_le_mul_left _ lA
  have e3:M*(2*A)=2*(M*A):=Nat.mul_left_comm _ _ _
  rw [Nat.add_mul]
  lia
 ·by_cases hf:left1 p s rest=[]
  ·exact .inl hf
  ·refine .inr ⟨left_all (fun v hv=>(hbd v hv).mono (Nat.le_add_right _ _)) hb,left_hi ls lr hsn,left_sign ls lr hsn,?_⟩
   obtain ⟨w,hw⟩:=List.exists_mem_of_ne_nil _ hf
   refine⟨w,List.mem_cons_of_mem _ hw,?_⟩
   have:=left_hi ls lr hsn w (List.mem_cons_of_mem _ hw)
   lia
noncomputable def PJ (n p M A:Nat) (led os:List (List Int)):Prop :=
 (∀ v∈led++os,v.length=n)∧(∀ v∈led,v.getD p 0≠0)∧(∀ v∈os,v.getD p 0=0)∧(∀ v∈led,at' p v≤A) ∧
  ((∀ v∈led++os,BdM M v)∨(∃ X m k,PT p X m k led os∧0<m∧0<k∧X*m*k≤6*(M*(A*A)))∨(led.length≤1∧∀ v∈led++os,BdM (6*(M*(A*A))) v))
theorem PJ.bd {n p M A:Nat} {led os:List (List Int)} (hA:0<A) (h:PJ n p M A led os):∀ v∈led++os,BdM (6*(M*(A*A))) v:=by
 obtain ⟨_,_,_,_,h|⟨X,m,k,h,hm,hk,hN⟩|h⟩:=h
 ·refine fun v hv=>(h v hv).mono ?_
  have:M*1≤M*(A*A):=Nat.mul_le_mul_left _ (Nat.mul_pos hA hA)
  lia
 ·refine fun v hv=>(h.bd v hv).mono ?_
  have h1:X*1≤X*(m*k):=Nat.mul_le_mul_left _ (Nat.mul_pos hm hk)
  rw [← Nat.mul_assoc] at h1
  lia
 ·exact h.2
theorem PJ.turn {n p M A:Nat} {s:List Int} {rest led os:List (List Int)} (hA0:0<A) (h:PJ n p M A led os) (e:(s::rest).Perm led) (hr:rest≠[]) (hs:∀ v∈rest,at' p s≤at' p v) :
  PJ n p M A (s::left1 p s rest) (os++left0 p s rest)∧mz p (s::left1 p s rest)<mz p led∧Eqv n (led++os) (s::left1 p s rest++(os++left0 p s rest)):=by
 have hBd:=h.bd hA0
 obtain ⟨h1,h2,h3,hA,h4⟩:=h
 have mem:∀ v,v∈s::rest↔v∈led:=fun v=>e.mem_iff
 have mem2:∀ v,v∈s::rest++os→v∈led++os:=fun v hv=>(List.mem_append.mp hv).elim (fun z=>List.mem_append_left _ ((mem v).mp z)) fun z=>List.mem_append_right _ z
 have h1':∀ v∈s::rest++os,v.length=n:=fun v hv=>h1 v (mem2 v hv)
 have h2':∀ v∈s::rest,v.getD p 0≠0:=fun v hv=>h2 v ((mem v).mp hv)
 have hA':∀ v∈s::rest,at' p v≤A:=fun v hv=>hA v ((mem v).mp hv)
 have ls:=h1' s (by simp)
 have lr:Len n rest:=fun v hv=>h1' v (by simp [hv])
 have hsn:=h2' s (.head _)
 have hl:0<at' p s:=by unfold at';lia
 have fin:∀ {X':Nat},(∀ v∈rest,BdM X' (low1 p s v))→X'≤6*(M*(A*A))→left1 p s rest=[]→(s::left1 p s rest).length≤1∧∀ v∈s::left1 p s rest++(os++left0 p s rest),BdM (6*(M*(A*A))) v:=fun {X'} b c z =>
  ⟨by rw [z];exact Nat.le_refl _,left_all (fun v hv=>hBd v (mem2 v hv)) fun v hv=>(b v hv).mono c⟩
 refine⟨⟨left_all h1' fun v hv=>low1_len (lr v hv) ls,fun v hv=>?_,fun v hv=>?_,fun v hv=>Nat.le_trans (left_hi ls lr hsn v hv) (hA' s (.head _)),?_⟩,?_,(Eqv.mem fun x=>?_).trans (turn_eqv ls lr)⟩
 ·rcases List.mem_cons.mp hv with rfl|a
  ·exact hsn
  ·simpa using (List.mem_filter.mp a).2
 ·rcases List.mem_append.mp hv with a|a
  ·exact h3 v a
  ·simpa using (List.mem_filter.mp a).2
 ·rcases h4 with h4|⟨X,m,k,h4,hm,hk,hN⟩|h4
  ·obtain ⟨X',b1,b2,b3,b4⟩:=PT.first ls lr (fun v hv=>h4 v (mem2 v hv)) hA' hsn hs
   rcases b4 with z|z
   ·refine .inr (.inr (fin b1 ?_ z))
    have e1:X'*1≤X'*at' p s:=Nat.mul_le_mul_left _ hl
    have e2:M*A*1≤M*A*A:=Nat.mul_le_mul_left _ hA0
    rw [Nat.mul_assoc M A A] at e2
    lia
   ·refine .inr (.inl ⟨X',_,_,z,hl,by lia,?_⟩)
    calc X'*at' p s*(2*A)≤3*(M*A)*(2*A):=Nat.mul_le_mul_right _ b3
     _=6*(M*(A*A)):=by rw [show 3*(M*A)*(2*A)=(3*2)*(M*(A*A)) by ac_rfl]
  ·have h5:PT p X m k (s::rest) os:=⟨fun v hv=>h4.bd v (mem2 v hv),fun v hv=>h4.hi v ((mem v).mp hv),h4.one.imp (fun z v hv=>z v ((mem v).mp hv)) fun z v hv=>z v ((mem v).mp hv),by
    obtain ⟨v,hv,z⟩:=h4.low
    exact⟨v,(mem v).mpr hv,z⟩⟩
   obtain ⟨X',b1,b2,b3,b4⟩:=h5.turn ls lr hsn hs
   rcases b4 with z|z
   ·refine .inr (.inr (fin b1 ?_ z))
    have e1:X'*1≤X'*at' p s:=Nat.mul_le_mul_left _ hl
    have e2:X*k*1≤X*k*m:=Nat.mul_le_mul_left _ hm
    rw [show X*k*m=X*m*k by ac_rfl] at e2
    lia
   ·refine .inr (.inl ⟨X',_,_,z,hl,hm,?_⟩)
    calc X'*at' p s*m≤X*k*m:=Nat.mul_le_mul_right _ b3
     _=X*m*k:=by ac_rfl
     _≤_:=hN
  ·exact absurd h4.1 (by have:=e.length_eq;rw [List.length_cons] at this;cases rest with|nil=>exact absurd rfl hr|cons x y=>simp at this;lia)
 ·have hz:mz p (rest.map (low1 p s))<mz p rest:=mz_less hr hs fun v hv=>low1_lt (lr v hv) ls hsn
  have hf:mz p (left1 p s rest)≤mz p (rest.map (low1 p s)):=mz_filter p _ _
  have hp:mz p led=mz p (s::rest):=by
   unfold mz
   exact ((e.map (at' p)).sum_nat).symm
  rw [hp]
  show (at' p s::(left1 p s rest).map (at' p)).sum<(at' p s::rest.map (at' p)).sum
  rw [List.sum_cons,List.sum_cons]
  unfold mz at hz hf
  lia
 ·rw [List.mem_append,List.mem_append,← mem x]
end Mth
namespace Mth
noncomputable def gs (b:Nat):Nat→Nat
 | 0=>b
 | i+1=>3*gs b i+3
noncomputable def ss (b:Nat):Nat→Nat
 | 0=>0
 | i+1=>ss b i+gs b (i+1)+1
theorem gs_step (b i:Nat):6*(2 ^ gs b i*(2 ^ gs b i*2 ^ gs b i))<2 ^ gs b (i+1):=by
 have e:(2:Nat) ^ gs b (i+1)=8*(2 ^ gs b i*(2 ^ gs b i*2 ^ gs b i)):=by
  rw [gs,Nat.pow_add,show 3*gs b i=gs b i+(gs b i+gs b i) by lia,Nat.pow_add,Nat.pow_add]
  lia
 have h:0<(2:Nat) ^ gs b i:=Nat.two_pow_pos _
 have h2:=Nat.mul_pos h (Nat.mul_pos h h)
 rw [e]
 lia
structure SJ (n w b:Nat) (rs:List (List Int)) (i:Nat) (st lf:List (List Int)):Prop where
 sf:SF (st.map (List.take w))
 ld:∀ r∈st,∃ k,w - i≤k∧Led (r.take w) k
 lst:Len n st
 llf:Len n lf
 z:∀ v∈lf,∀ j,w - i≤j→j<w→v.getD j 0=0
 e:Eqv n rs (st++lf)
 bl:∀ v∈lf,BdM (2 ^ gs b i) v
 bs:∀ v∈st,BdM (2 ^ ss b i) v
 lb:∀ r∈st,∀ k,Led (r.take w) k→(r.getD k 0).natAbs≤2 ^ gs b (w - 1 - k)
 c1:lf.length≤rs.length
 c2:st.length≤i
theorem SJ.start {n w b:Nat} {rs:List (List Int)} (hl:Len n rs) (hb:∀ v∈rs,BdM (2 ^ b) v):SJ n w b rs 0 [] rs :=
 ⟨⟨(fun _ z=>nomatch z),List.Pairwise.nil⟩,(fun _ z=>nomatch z),(fun _ z=>nomatch z),hl,(fun v _ j h1 h2=>by lia),Eqv.refl,hb,(fun _ z=>nomatch z),(fun _ z=>nomatch z),Nat.le_refl _,Nat.le_refl _⟩
theorem SJ.none {n w b i p:Nat} {rs st lf os:List (List Int)} (h:SJ n w b rs i st lf) (hp:p+i+1=w) (he:Eqv n lf os) (h0:∀ v∈os,v.getD p 0=0) (hl:Len n os)
  (hb:∀ v∈os,BdM (6*(2 ^ gs b i*(2 ^ gs b i*2 ^ gs b i))) v) (hc:os.length≤lf.length):SJ n w b rs (i+1) st os:=by
 refine⟨h.sf,fun r hr=>?_,h.lst,hl,fun v hv j h1 h2=>?_,h.e.trans he.app,fun v hv=>(hb v hv).mono (Nat.le_of_lt (gs_step b i)),fun v hv=>(h.bs v hv).mono (Nat.pow_le_pow_right (by decide) (by rw [ss];lia)),h.lb,Nat.le_trans hc h.c1,Nat.le_succ_of_le h.c2⟩
 ·obtain ⟨k,h1,h2⟩:=h.ld r hr
  exact⟨k,by lia,h2⟩
 ·by_cases e:j=p
  ·rw [e];exact h0 v hv
  ·exact Span.at0 h.llf (he.2 v hv) fun r hr=>h.z r hr j (by lia) h2
theorem SJ.one {n w b i p:Nat} {rs st lf os:List (List Int)} {s:List Int} (h:SJ n w b rs i st lf) (hp:p+i+1=w) (hw:w≤n) (he:Eqv n lf (s::os)) (hs:0<s.getD p 0) (h0:∀ v∈os,v.getD p 0=0) (hl:Len n (s::os))
  (hb:∀ v∈s::os,BdM (6*(2 ^ gs b i*(2 ^ gs b i*2 ^ gs b i))) v) (hc:os.length+1≤lf.length) (hat:at' p s≤2 ^ gs b i):SJ n w b rs (i+1) (st.map (low1 p s)++[s]) os:=by
 have ls:s.length=n:=hl s (.head _)
 have lo:Len n os:=fun v hv=>hl v (.tail _ hv)
 have za:∀ v∈s::os,∀ j,w - i≤j→j<w→v.getD j 0=0:=fun v hv j h1 h2=>Span.at0 h.llf (he.2 v hv) fun r hr=>h.z r hr j h1 h2
 have hL:Led (s.take w) p:=⟨by rw [take_at _ (by lia)];exact hs,fun j hj=>by
  by_cases e:j<w
  ·rw [take_at _ e];exact za s (.head _) j (by lia) e
  ·exact take_out _ (by lia)⟩
 have lt:Len w (st.map (List.take w)):=fun r hr=>by
  obtain ⟨v,hv,rfl⟩:=List.mem_map.mp hr
  exact take_len (h.lst v hv) hw
 have hl':∀ r∈st.map (List.take w),∃ k,p<k∧Led r k:=fun r hr=>by
  obtain ⟨v,hv,rfl⟩:=List.mem_map.mp hr
  obtain ⟨k,h1,h2⟩:=h.ld v hv
  exact⟨k,by lia,h2⟩
 have em:(st.map (low1 p s)++[s]).map (List.take w)=(st.map (List.take w)).map (low1 p (s.take w))++[s.take w]:=by
  rw [List.map_append,List.map_map,List.map_map]
  congr 1
  exact List.map_congr_left fun v _=>low1_take (by lia)
 have hS:=SF.add h.sf hl' lt (take_len ls hw) hL
 refine⟨by rw [em];exact hS.1,fun r hr=>?_,fun r hr=>?_,lo,fun v hv j h1 h2=>?_,?_,fun v hv=>(hb v (.tail _ hv)).mono (Nat.le_of_lt (gs_step b i)),fun v hv=>?_,fun v hv k hk=>?_,?_,?_⟩
 ·rcases List.mem_append.mp hr with z|z
  ·obtain ⟨v,hv,rfl⟩:=List.mem_map.mp z
   obtain ⟨k,h1,h2⟩:=h.ld v hv
   refine⟨k,by lia,?_⟩
   rw [low1_take (by lia)]
   exact (Led.low1 (take_len (h.lst v hv) hw) (take_len ls hw) hL (by lia)).mpr h2
  ·rw [List.mem_singleton.mp z]
   exact⟨p,by lia,hL⟩
 ·rcases List.mem_append.mp hr with z|z
  ·obtain ⟨v,hv,rfl⟩:=List.mem_map.mp z
   exact low1_len (h.lst v hv) ls
  ·rw [List.mem_singleton.mp z];exact ls
 ·by_cases e:j=p
  ·rw [e];exact h0 v hv
  ·exact za v (.tail _ hv) j (by lia) h2
 ·exact (h.e.trans he.app).trans (Eqv.add h.lst ls)
 ·have bS:=(hb s (.head _)).mono (Nat.le_of_lt (gs_step b i))
  rcases List.mem_append.mp hv with z|z
  ·obtain ⟨u,hu,rfl⟩:=List.mem_map.mp z
   refine (low1_bd (h.lst u hu) ls (by lia) (h.bs u hu) bS).mono ?_
   have h1:0<(2:Nat) ^ ss b i:=Nat.two_pow_pos _
   have h2:0<(2:Nat) ^ gs b (i+1):=Nat.two_pow_pos _
   have h3:(2:Nat) ^ ss b i≤2 ^ gs b (i+1)*2 ^ ss b i:=Nat.le_mul_of_pos_left _ h2
   rw [ss,Nat.pow_add,Nat.pow_add,Nat.mul_comm (2 ^ ss b i)]
   lia
  ·rw [List.mem_singleton.mp z]
   exact bS.mono (Nat.pow_le_pow_right (by decide) (by rw [ss];lia))
 ·rcases List.mem_append.mp hv with z|z
  ·obtain ⟨u,hu,rfl⟩:=List.mem_map.mp z
   obtain ⟨k',h1,h2⟩:=h.ld u hu
   have h3:=(Led.low1 (take_len (h.lst u hu) hw) (take_len ls hw) hL (show p<k' by lia)).mpr h2
   rw [← low1_take (by lia)] at h3
   have e:=hk.uniq h3
   subst e
   have hkw:k<w:=by
    have:=hk.1
    by_cases c:k<w
    ·exact c
    ·rw [take_out _ (by lia)] at this
     exact absurd this (by decide)
   rw [low1_above (h.lst u hu) ls (za s (.head _) k (by lia) hkw)]
   exact h.lb u hu k h2
  ·rw [List.mem_singleton.mp z] at hk ⊢
   have e:=hk.uniq hL
   rw [e,show w - 1 - p=i by lia]
   exact hat
 ·have:=h.c1
  lia
 ·have:=h.c2
  rw [List.length_append,List.length_map]
  simp
  exact this
theorem SJ.all {n b:Nat} {rs st lf:List (List Int)} (h:SJ n n b rs n st lf):SF st∧Eqv n rs st:=by
 have e:st.map (List.take n)=st:=by
  rw [show st=st.map id by simp,List.map_map]
  exact List.map_congr_left fun v hv=>List.take_of_length_le (Nat.le_of_eq (h.lst v hv))
 have z:∀ v∈lf,v=zer n:=fun v hv=>ext_at (h.llf v hv) (zer_len n) fun i hi=>by rw [zer_at];exact h.z v hv i (by lia) hi
 refine⟨by rw [← e];exact h.sf,h.e.trans ⟨fun r hr=>?_,fun r hr=>Span.mem (List.mem_append_left _ hr)⟩⟩
 rcases List.mem_append.mp hr with y|y
 ·exact Span.mem y
 ·rw [z r y];exact Span.zero
end Mth
namespace Mth
noncomputable def dotR (i:Nat):List (List Int)→List Int→Int
 | r::rs,p::ps=>p*r.getD i 0+dotR i rs ps
 | _,_=>0
noncomputable def Mk (w:Nat) (rs:List (List Int)) (v:List Int):Prop:=∀ i,i<w→v.getD i 0=dotR i rs (v.drop w)
end Mth
namespace Mth
structure LB (n w:Nat) (st:List (List Int)) (i:Nat) (u v:List Int):Prop where
 len:v.length=n
 made:Span n st (sub u v)
 small:∀ j s k,j<i→st[j]?=some s→Led (s.take w) k→0≤v.getD k 0∧v.getD k 0<s.getD k 0
theorem sub_self' {n:Nat} {u:List Int} (h:u.length=n):sub u u=zer n:=ext_at (sub_len h h) (zer_len n) fun i _=>by rw [sub_at h h,zer_at];lia
theorem LB.start {n w:Nat} {st:List (List Int)} {u:List Int} (h:u.length=n):LB n w st 0 u u:=⟨h,by rw [sub_self' h];exact Span.zero,fun j s k hj=>by lia⟩
theorem led_lt {s:List Int} {w k:Nat} (h:Led (s.take w) k):k<w:=by
 have:=h.1
 by_cases c:k<w
 ·exact c
 ·rw [take_out _ (by lia)] at this
  exact absurd this (by decide)
theorem LB.step {n w i k:Nat} {st:List (List Int)} {s u v:List Int} (h:LB n w st i u v) (lu:u.length=n) (hs:st[i]?=some s) (ls:s.length=n) (sf:SF (st.map (List.take w))) (hk:Led (s.take w) k):LB n w st (i+1) u (low1 k s v):=by
 have kw:=led_lt hk
 have hpos:0<s.getD k 0:=by have:=hk.1;rwa [take_at _ kw] at this
 have hmem:s∈st:=List.mem_of_getElem? hs
 refine⟨low1_len h.len ls,?_,fun j a k' hj ha hk'=>?_⟩
 ·have e:sub u (low1 k s v)=low (sub u v) s (-(qt v s k)):=ext_at (sub_len lu (low1_len h.len ls)) (low_len (sub_len lu h.len) ls) fun i _=>by
   rw [sub_at lu (low1_len h.len ls),low1,low_at h.len ls,low_at (sub_len lu h.len) ls,sub_at lu h.len,Int.mul_neg]
   lia
  rw [e]
  exact Span.low (sub_len lu h.len) ls h.made (Span.mem hmem) _
 ·by_cases c:j=i
  ·subst c
   rw [hs] at ha
   cases ha
   have e:=hk'.uniq hk
   subst e
   rw [low1_p h.len ls]
   have:=fm_bd (v.getD k' 0) (show s.getD k' 0≠0 by lia)
   have h2:=this.2.1 hpos
   lia
  ·have hji:j<i:=by lia
   have hb:Bef (a.take w) (s.take w):=by
    have h1:(st.map (List.take w))[j]?=some (a.take w):=by rw [List.getElem?_map,ha];rfl
    have h2:(st.map (List.take w))[i]?=some (s.take w):=by rw [List.getElem?_map,hs];rfl
    obtain ⟨p1,e1⟩:=List.getElem?_eq_some_iff.mp h1
    obtain ⟨p2,e2⟩:=List.getElem?_eq_some_iff.mp h2
    have:=List.pairwise_iff_getElem.mp sf.2 j i p1 p2 hji
    rw [e1,e2] at this
    exact this
   obtain ⟨⟨k2,h1,h2⟩,_⟩:=hb k hk
   have e:=hk'.uniq h2
   subst e
   have hz:s.getD k' 0=0:=by
    have:=hk.2 k' h1
    rwa [take_at _ (led_lt hk')] at this
   rw [low1_above h.len ls hz]
   exact h.small j a k' hji ha hk'
end Mth
namespace Mth
noncomputable def dt (a b:List Int):Int:=(List.zipWith (·*·) a b).sum
noncomputable def pd (R:List (List Int)):Nat→Nat→Int
 | _,0=>1
 | h,k+1=>(R.getD h []).getD h 0*pd R (h+1) k
end Mth
namespace Mth
theorem led5 {r:List Int} {h:Nat} (hl:r.length=5) (h1:Led r h):h<5:=by
 have:=h1.1
 by_cases c:h<5
 ·exact c
 ·rw [List.getD,List.getElem?_eq_none (by lia)] at this
  exact absurd this (by decide)
theorem last_nz {v:List Int} {n:Nat} (hl:v.length=n) (h:v≠zer n):∃ k,k<n∧v.getD k 0≠0∧∀ i,k<i→v.getD i 0=0:=by
 have:∀ m,m≤n→(∀ i,m≤i→v.getD i 0=0)→∃ k,k<n∧v.getD k 0≠0∧∀ i,k<i→v.getD i 0=0:=by
  intro m
  induction m with
  | zero=>intro _ hz;exact absurd (ext_at hl (zer_len n) fun i _=>by rw [hz i (Nat.zero_le _),zer_at]) h
  | succ m ih =>
   intro hm hz
   by_cases c:v.getD m 0=0
   ·exact ih (by lia) fun i hi=>by
     by_cases e:i=m
     ·rw [e];exact c
     ·exact hz i (by lia)
   ·exact⟨m,by lia,c,fun i hi=>hz i (by lia)⟩
 exact this n (Nat.le_refl _) fun i hi=>by rw [List.getD,List.getElem?_eq_none (by lia)];rfl
end Mth
namespace Mth
theorem SF.lead_has {n j:Nat}:∀ {bs:List (List Int)} {v:List Int},SF bs→Len n bs→Span n bs v→v.getD j 0≠0→(∀ i,j<i→v.getD i 0=0)→∃ u∈bs,Led u j∧(u.getD j 0).natAbs≤(v.getD j 0).natAbs
 | [],v,_,_,hv,h0,_=>by
  rw [hv.none,zer_at] at h0
  exact absurd rfl h0
 | a::rs,v,h,hl,hv,h0,hz=>by
  obtain ⟨k,hk⟩:=h.1 a (.head _)
  have la:=hl a (.head _)
  have lr:Len n rs:=fun r hr=>hl r (.tail _ hr)
  obtain ⟨c,_,e,z⟩:=h.split la lr hk hv
  rcases Nat.lt_trichotomy k j with q|q|q
  ·exact absurd (z j q) h0
  ·subst q
   refine⟨a,.head _,hk,?_⟩
   have hc:c≠0:=fun z=>h0 (by rw [e,z,Int.mul_zero])
   rw [e,Int.natAbs_mul]
   exact Nat.le_mul_of_pos_right _ (by lia)
  ·obtain ⟨u,hu,r⟩:=SF.lead_has h.tail lr (h.rest la lr hk hv (hz k q)) h0 hz
   exact⟨u,.tail _ hu,r⟩
theorem SF.at_lead:∀ {rs:List (List Int)} {t u:List Int} {k:Nat},SF rs→t∈rs→u∈rs→Led u k→0≤t.getD k 0∧t.getD k 0≤u.getD k 0
 | [],_,_,_,_,h,_,_=>nomatch h
 | a::rs,t,u,k,h,ht,hu,hk=>by
  have hp:=List.pairwise_cons.mp h.2
  rcases List.mem_cons.mp ht with rfl|ht'
  ·rcases List.mem_cons.mp hu with rfl|hu'
   ·exact⟨Int.le_of_lt hk.1,Int.le_refl _⟩
   ·have:=(hp.1 u hu' k hk).2
    exact⟨this.1,Int.le_of_lt this.2⟩
  ·rcases List.mem_cons.mp hu with rfl|hu'
   ·rw [h.low0 hk (Nat.le_refl _) t ht']
    exact⟨Int.le_refl _,Int.le_of_lt hk.1⟩
   ·exact SF.at_lead h.tail ht' hu' hk
theorem SF.count:∀ {rs:List (List Int)} {n:Nat},SF rs→(∀ r∈rs,∀ k,Led r k→k<n)→rs.length≤n
 | [],_,_,_=>Nat.zero_le _
 | a::rs,n,h,hk=>by
  obtain ⟨j,hj⟩:=h.1 a (.head _)
  have:=hk a (.head _) j hj
  have ih:=SF.count h.tail (n:=j) fun r hr k hk'=>by
   obtain ⟨⟨j',hj',lj⟩,_⟩:=(List.pairwise_cons.mp h.2).1 r hr k hk'
   have:=lj.uniq hj
   lia
  rw [List.length_cons]
  lia
end Mth
namespace Mth
noncomputable def VZ (w:List Int) (m:Int) (x:List Int):Prop:=m ∣ dt x w
end Mth
namespace Mth
structure Lo (ks:List (List Int×Int)) (st:List (List Int)):Prop where
 sf:SF st
 len:Len 5 st
 all:∀ x,Span 5 st x↔x.length=5∧∀ k∈ks,VZ k.1 k.2 x
noncomputable def lb (W:Nat):Nat→Nat
 | 0=>0
 | i+1=>3*lb W i+2*W+12
theorem five_of {α:Type} {r:List α} (h:r.length=5):∃ a b c d e,r=[a,b,c,d,e]:=by
 match r,h with
 | [a,b,c,d,e],_=>exact⟨a,b,c,d,e,rfl⟩
end Mth
namespace Sgn
open PySem PySem.Builtin PySem.Builtin.Str PySem.StrLaws
noncomputable def dgt (c:Nat):Bool:=decide (48≤c) && decide (c≤57)
noncomputable def cnt (z:Str) (m:Nat):Bool:=(decide (1≤z.length∧z.length≤m) && (z.cps[0]? != some 48)) && z.cps.toList.all dgt
end Sgn
namespace Sgn
open PySem PySem.Builtin PySem.Builtin.Str PySem.StrLaws PySem.NumText PySem.W.KIN PyProof.Rows
noncomputable def num (z:Str):Nat:=digitsVal z.cps.toList
noncomputable abbrev txt (n:Nat):Str:=PySem.Str.ofString (toString ((n:Nat):Int))
theorem txt_head:∀ m:Nat,0<m→((Nat.toDigits 10 m).map Char.toNat)[0]?≠some 48:=by
 intro m
 induction m using Nat.strongRecOn with
 | _ m ih =>
  intro hm
  by_cases h:m<10
  ·rw [Nat.toDigits_of_lt_base h]
   rcases (show m=1∨m=2∨m=3∨m=4∨m=5∨m=6∨m=7∨m=8∨m=9 by lia) with rfl|rfl|rfl|rfl|rfl|rfl|rfl|rfl|rfl <;> decide
  ·have hm':m % 10<10:=Nat.mod_lt m (by decide)
   have t:Nat.toDigits 10 (m / 10)++Nat.toDigits 10 (m % 10)=Nat.toDigits 10 (10*(m / 10)+m % 10):=Nat.toDigits_append_toDigits (by decide) (by lia) hm'
   rw [Nat.div_add_mod] at t
   have:=ih (m / 10) (by lia) (by lia)
   rw [← t,List.map_append,List.getElem?_append]
   split
   ·exact this
   ·rename_i hl
    rw [List.getElem?_eq_none (by lia)] at this
    intro _
    have h1:=digitsVal
    have hv:=val_back (m / 10)
    rw [List.eq_nil_of_length_eq_zero (show ((Nat.toDigits 10 (m / 10)).map Char.toNat).length=0 by lia)] at hv
    have:(0:Nat)=m / 10:=hv
    lia
theorem txt_len:∀ (k m:Nat),0<k→m<10 ^ k→(Nat.toDigits 10 m).length≤k
 | 0,_,h,_=>absurd h (by decide)
 | 1,m,_,h=>by rw [Nat.toDigits_of_lt_base (by simpa using h)];exact Nat.le_refl _
 | k+2,m,_,h=>by
  by_cases h10:m<10
  ·rw [Nat.toDigits_of_lt_base h10];simp
  ·have hm':m % 10<10:=Nat.mod_lt m (by decide)
   have t:Nat.toDigits 10 (m / 10)++Nat.toDigits 10 (m % 10)=Nat.toDigits 10 (10*(m / 10)+m % 10):=Nat.toDigits_append_toDigits (by decide) (by lia) hm'
   rw [Nat.div_add_mod] at t
   have:=txt_len (k+1) (m / 10) (by lia) (by rw [Nat.pow_succ] at h;lia)
   rw [← t,List.length_append,Nat.toDigits_of_lt_base hm']
   show _+1≤_
   lia
theorem txt_cnt {n m:Nat} (h0:0<n) (hm:0<m) (h:n<10 ^ m):cnt (txt n) m=true∧num (txt n)=n:=by
 have hs:=signs_num n
 have hl:(txt n).length=(Nat.toDigits 10 n).length:=by
  show (txt n).cps.size=_
  rw [← Array.length_toList,hs,List.length_map]
 have h2:=txt_len m n hm h
 refine⟨?_,?_⟩
 ·unfold cnt
  rw [Bool.and_eq_true,Bool.and_eq_true,decide_eq_true_eq]
  have hge:1≤(Nat.toDigits 10 n).length:=by
   have hv:=val_back n
   rcases Nat.eq_zero_or_pos (Nat.toDigits 10 n).length with e|e
   ·rw [List.eq_nil_of_length_eq_zero e] at hv
    have:(0:Nat)=n:=hv
    lia
   ·exact e
  refine⟨⟨⟨by lia,by lia⟩,?_⟩,?_⟩
  ·rw [bne_iff_ne,← Array.getElem?_toList,hs]
   exact txt_head n h0
  ·rw [hs,List.all_eq_true]
   intro c hc
   obtain ⟨ch,hch,e⟩:=List.mem_map.mp hc
   have r:=digit_range (Nat.isDigit_of_mem_toDigits (by decide) (by decide) hch)
   unfold dgt
   rw [Bool.and_eq_true,decide_eq_true_eq,decide_eq_true_eq,← e]
   exact r
 ·unfold num
  rw [hs]
  exact val_back n
end Sgn
namespace Sgn
open PySem PySem.Builtin PySem.Builtin.Str PySem.StrLaws
theorem cnt_nought {z:Str} {m:Nat} (h:z.cps[0]?=some 48):cnt z m=false:=by
 unfold cnt;rw [h];simp
theorem txt_size {n m:Nat} (hm:0<m) (h:n<10 ^ m):(txt n).length≤m:=by
 have hs:=PySem.W.KIN.signs_num n
 show (txt n).cps.size≤m
 rw [← Array.length_toList,hs,List.length_map]
 exact txt_len m n hm h
end Sgn
namespace Sgn
open PySem PySem.Builtin PySem.Builtin.Str PySem.StrLaws PySem.NumText PySem.W.KIN PyProof.Rows
theorem log_bd {i:Int} (h:i.natAbs<2 ^ 1920):i.natAbs.log2<1920:=by
 rcases Nat.eq_zero_or_pos i.natAbs with e|e
 ·rw [e];decide
 ·exact (Nat.log2_lt (by lia)).mpr h
end Sgn
namespace Nam
open PySem PySem.Builtin PySem.Builtin.Str PySem.StrLaws PyProof.Rows
noncomputable def seg (c d:Nat) (k:Int):List Nat:=List.replicate k.toNat c++List.replicate (-k).toNat d
noncomputable def sgd (y:Str) (m:Nat):Option Int :=
 if y=⟨#[48]⟩ then some 0 else if y.cps[0]?=some 45 then (if Sgn.cnt ⟨(y.cps.toList.drop 1).toArray⟩ m=true then some (-((Sgn.num ⟨(y.cps.toList.drop 1).toArray⟩:Nat):Int)) else none) else if Sgn.cnt y m=true then some ((Sgn.num y:Nat):Int) else none
end Nam
namespace Nam
open PySem PySem.Builtin PySem.Builtin.Str PySem.StrLaws PySem.NumText PySem.W.KIN PyProof.Rows
theorem one_toArray (l:List Nat):(⟨l.toArray⟩:Str).cps.toList=l:=List.toList_toArray ..
theorem str_ext {y z:Str} (h:y.cps.toList=z.cps.toList):y=z:=by
 cases y;cases z
 congr 1
 exact Array.ext' h
end Nam
namespace Nam
open PySem PySem.NumText PySem.W.KIN PyProof.Rows
theorem app_list (a b:Str):(a++b).cps.toList=a.cps.toList++b.cps.toList:=by
 show (a.cps++b.cps).toList=_
 rw [Array.toList_append]
theorem neg_list (n:Nat):(Str.ofString (toString (-((n+1:Nat):Int)))).cps.toList=45::(Sgn.txt (n+1)).cps.toList:=by
 rw [signs_num,signs_ofString]
 show ("-"++Nat.repr (n+1)).toList.map Char.toNat=_
 rw [String.toList_append,List.map_append,Nat.toList_repr]
 rfl
theorem oct_of {o:Int} (h1:-9999≤o) (h2:o≤9999):sgd (Str.ofString (toString o)) 4=some o∧(Str.ofString (toString o)).length≤5:=by
 rcases Int.lt_trichotomy o 0 with h|h|h
 ·obtain ⟨n,rfl⟩:∃ n:Nat,o=-((n+1:Nat):Int):=⟨(-o).toNat - 1,by lia⟩
  have hl:=neg_list n
  have ht:=Sgn.txt_cnt (n:=n+1) (m:=4) (by lia) (by decide) (by lia)
  have hs:=Sgn.txt_size (n:=n+1) (m:=4) (by decide) (by lia)
  have hlen:(Str.ofString (toString (-((n+1:Nat):Int)))).length=(Sgn.txt (n+1)).length+1:=by
   show (Str.ofString (toString (-((n+1:Nat):Int)))).cps.size=_
   rw [← Array.length_toList,hl,List.length_cons,Array.length_toList]
   rfl
  refine⟨?_,by lia⟩
  have hd:(⟨((Str.ofString (toString (-((n+1:Nat):Int)))).cps.toList.drop 1).toArray⟩:Str)=Sgn.txt (n+1):=by
   apply str_ext
   rw [one_toArray,hl]
   rfl
  unfold sgd
  rw [if_neg (fun e=>by rw [e] at hl;cases hl),if_pos (by rw [← Array.getElem?_toList,hl];rfl),hd,ht.1,ht.2,if_pos rfl]
 ·subst h
  exact⟨by decide +kernel,by decide +kernel⟩
 ·obtain ⟨n,rfl⟩:=Int.eq_ofNat_of_zero_le (Int.le_of_lt h)
  have ht:=Sgn.txt_cnt (n:=n) (m:=4) (by lia) (by decide) (by lia)
  have hs:=Sgn.txt_size (n:=n) (m:=4) (by decide) (by lia)
  have h45:(Sgn.txt n).cps[0]?≠some 45:=fun e=>by
   have hc:=ht.1
   unfold Sgn.cnt at hc
   rw [Bool.and_eq_true] at hc
   have hm:45∈(Sgn.txt n).cps.toList:=List.mem_of_getElem? (i:=0) (by rw [Array.getElem?_toList];exact e)
   exact absurd (List.all_eq_true.mp hc.2 45 hm) (by decide)
  have h48:Sgn.txt n≠⟨#[48]⟩:=fun e=>by
   have hc:=ht.1
   rw [e,Sgn.cnt_nought (by rfl)] at hc
   cases hc
  refine⟨?_,Nat.le_trans hs (by decide)⟩
  unfold sgd
  rw [show Str.ofString (toString ((n:Nat):Int))=Sgn.txt n from rfl,if_neg h48,if_neg h45,ht.1,ht.2,if_pos rfl]
end Nam
namespace Mth
noncomputable def gens (ms:List Int) (rs:List (List Int)):List (List Int):=(List.range 5).map fun i=>mulv (rs.getD i []) (ms.getD i 0)
end Mth
namespace Gap
structure Sg (P:Int→Int→Prop):Prop where
 add:∀ {n j n' j':Int},P n j→P n' j'→P (n+n') (j+j')
 neg:∀ {n j:Int},P n j→P (-n) (-j)→False
 tot:∀ n j:Int,j≠0→P n j∨P (-n) (-j)
 oct:∀ {n:Int},P n 0→0<n
section
variable {P:Int→Int→Prop} {o:Int→Int} {N:Int}
structure Ch (P:Int→Int→Prop) (o:Int→Int) (N:Int):Prop where
 s:Sg P
 z:o 0=0
 f:∀ j,0<j→j<N→P (o j) j∧P (1 - o j) (-j)
variable (C:Ch P o N)
include C
variable {a b:Int} (a0:0<a) (a1:a<N) (mn:∀ j,0<j→j<N→j≠a→P (o j - o a) (j - a)) (b0:0<b) (b1:b<N) (mx:∀ j,0<j→j<N→j≠b→P (o b - o j) (b - j))
include a0 a1 mn in
include a0 a1 mn in
include b0 b1 mx in
include b0 b1 mx in
include a0 a1 mn b0 b1 mx in
include a0 a1 mn b0 b1 mx in
include a0 a1 mn b0 b1 mx in
end
end Gap
namespace Nam
open PySem
noncomputable def J (c:Nat):List (List Nat)→List Nat
 | []=>[]
 | [x]=>x
 | x::y::r=>x++c::J c (y::r)
end Nam
namespace Mth
noncomputable def crs (q:Nat) (s v:List Int):List Int:=sub (mulv v (s.getD q 0)) (mulv s (v.getD q 0))
theorem crs_len {q n:Nat} {s v:List Int} (ls:s.length=n) (lv:v.length=n):(crs q s v).length=n:=sub_len (mulv_len lv) (mulv_len ls)
theorem crs_at {q n:Nat} {s v:List Int} (ls:s.length=n) (lv:v.length=n) (i:Nat):(crs q s v).getD i 0=v.getD i 0*s.getD q 0 - s.getD i 0*v.getD q 0:=by
 rw [crs,sub_at (mulv_len lv) (mulv_len ls),mulv_at,mulv_at]
theorem crs_q {q n:Nat} {s v:List Int} (ls:s.length=n) (lv:v.length=n):(crs q s v).getD q 0=0:=by
 rw [crs_at ls lv,Int.mul_comm,Int.sub_self]
theorem crs_bd {q n e:Nat} {s v:List Int} (ls:s.length=n) (lv:v.length=n) (hs:BdM (2 ^ e) s) (hv:BdM (2 ^ e) v):BdM (2 ^ (2*e+1)) (crs q s v):=fun i=>by
 rw [crs_at ls lv]
 have h1:(v.getD i 0*s.getD q 0).natAbs≤2 ^ e*2 ^ e:=by rw [Int.natAbs_mul];exact Nat.mul_le_mul (hv i) (hs q)
 have h2:(s.getD i 0*v.getD q 0).natAbs≤2 ^ e*2 ^ e:=by rw [Int.natAbs_mul];exact Nat.mul_le_mul (hs i) (hv q)
 have e1:(2:Nat) ^ (2*e+1)=2 ^ e*2 ^ e+2 ^ e*2 ^ e:=by rw [Nat.pow_succ,Nat.two_mul,Nat.pow_add,Nat.mul_two]
 rw [e1]
 exact Nat.le_trans (Int.natAbs_sub_le _ _) (Nat.add_le_add h1 h2)
theorem Span.crs {n q:Nat} {rs:List (List Int)} {s v:List Int} (ls:s.length=n) (hl:Len n rs) (h:Span n rs v):Span n (rs.map (Mth.crs q s)) (Mth.crs q s v):=by
 have:=h (fun v=>v.length=n∧Span n (rs.map (Mth.crs q s)) (Mth.crs q s v)) ⟨⟨zer_len n,?_⟩,fun a b la lb ha hb=>⟨sub_len la lb,?_⟩⟩ fun r hr=>⟨hl r hr,Span.mem (List.mem_map.mpr ⟨r,hr,rfl⟩)⟩
 ·exact this.2
 ·have e:Mth.crs q s (zer n)=zer n:=ext_at (crs_len ls (zer_len n)) (zer_len n) fun i _=>by rw [crs_at ls (zer_len n),zer_at,zer_at];simp
  rw [e]
  exact Span.zero
 ·have e:Mth.crs q s (Mth.sub a b)=Mth.sub (Mth.crs q s a) (Mth.crs q s b):=ext_at (crs_len ls (sub_len la lb)) (sub_len (crs_len ls la) (crs_len ls lb)) fun i _=>by
   rw [crs_at ls (sub_len la lb),sub_at (crs_len ls la) (crs_len ls lb),crs_at ls la,crs_at ls lb,sub_at la lb,sub_at la lb,Int.sub_mul,Int.mul_sub]
   lia
  rw [e]
  exact Span.sub (crs_len ls la) (crs_len ls lb) ha.2 hb.2
theorem Span.crsd {n q:Nat} {rs:List (List Int)} {s v:List Int} (ls:s.length=n) (lv:v.length=n) (hs:Span n rs s) (hv:Span n rs v):Span n rs (Mth.crs q s v) :=
 Span.sub (mulv_len lv) (mulv_len ls) (Span.mul lv hv _) (Span.mul ls hs _)
theorem mulv_one {n:Nat} {x:List Int} (lx:x.length=n):mulv x 1=x:=ext_at (mulv_len lx) lx fun i _=>by rw [mulv_at,Int.mul_one]
theorem mulv_mulv {n:Nat} {x:List Int} (lx:x.length=n) (c d:Int):mulv (mulv x c) d=mulv x (c*d):=ext_at (mulv_len (mulv_len lx)) (mulv_len lx) fun i _=>by rw [mulv_at,mulv_at,mulv_at,Int.mul_assoc]
theorem clear1 {n q e:Nat} {rs:List (List Int)} (hl:Len n rs) (hb:∀ r∈rs,BdM (2 ^ e) r):∃ rs',Len n rs'∧(∀ r∈rs',Span n rs r)∧(∀ r∈rs',r.getD q 0=0)∧(∀ i,(∀ r∈rs,r.getD i 0=0)→∀ r∈rs',r.getD i 0=0)∧(∀ r∈rs',BdM (2 ^ (2*e+1)) r)∧∀ x,x.getD q 0=0→Span n rs x→∃ d:Int,d≠0∧Span n rs' (mulv x d):=by
 by_cases h:∀ r∈rs,r.getD q 0=0
 ·exact⟨rs,hl,fun r hr=>Span.mem hr,h,fun i hi=>hi,fun r hr=>(hb r hr).mono (Nat.pow_le_pow_right (by decide) (by lia)),fun x _ hx=>⟨1,by decide,by rw [mulv_one (hx.len hl)];exact hx⟩⟩
 ·obtain ⟨s,h⟩:=Classical.not_forall.mp h
  obtain ⟨hs,h0⟩:=Classical.not_imp.mp h
  have ls:=hl s hs
  refine⟨rs.map (crs q s),fun r hr=>?_,fun r hr=>?_,fun r hr=>?_,fun i hi r hr=>?_,fun r hr=>?_,fun x hx hsx=>⟨s.getD q 0,h0,?_⟩⟩
  ·obtain ⟨v,hv,rfl⟩:=List.mem_map.mp hr
   exact crs_len ls (hl v hv)
  ·obtain ⟨v,hv,rfl⟩:=List.mem_map.mp hr
   exact Span.crsd ls (hl v hv) (Span.mem hs) (Span.mem hv)
  ·obtain ⟨v,hv,rfl⟩:=List.mem_map.mp hr
   exact crs_q ls (hl v hv)
  ·obtain ⟨v,hv,rfl⟩:=List.mem_map.mp hr
   rw [crs_at ls (hl v hv),hi v hv,hi s hs]
   simp
  ·obtain ⟨v,hv,rfl⟩:=List.mem_map.mp hr
   exact crs_bd ls (hl v hv) (hb s hs) (hb v hv)
  ·have lx:=hsx.len hl
   have ex:mulv x (s.getD q 0)=Mth.crs q s x:=ext_at (mulv_len lx) (crs_len ls lx) fun i _=>by
    rw [mulv_at,crs_at ls lx,hx];simp
   rw [ex]
   exact Span.crs ls hl hsx
noncomputable def eb:Nat→Nat→Nat
 | 0,e=>e
 | k+1,e=>eb k (2*e+1)
theorem eb_up:∀ (k e:Nat),e≤eb k e
 | 0,e=>Nat.le_refl e
 | k+1,e=>by have:=eb_up k (2*e+1);rw [eb];lia
theorem eb_mono:∀ {k l e:Nat},k≤l→eb k e≤eb l e
 | 0,l,e,_=>eb_up l e
 | k+1,l+1,e,h=>by rw [eb,eb];exact eb_mono (by lia)
theorem clears {n:Nat}:∀ (qs:List Nat) {rs:List (List Int)} {e:Nat},Len n rs→(∀ r∈rs,BdM (2 ^ e) r)→∃ rs',Len n rs'∧(∀ r∈rs',Span n rs r)∧(∀ q∈qs,∀ r∈rs',r.getD q 0=0)∧(∀ i,(∀ r∈rs,r.getD i 0=0)→∀ r∈rs',r.getD i 0=0)∧(∀ r∈rs',BdM (2 ^ eb qs.length e) r)∧∀ x,(∀ q∈qs,x.getD q 0=0)→Span n rs x→∃ d:Int,d≠0∧Span n rs' (mulv x d)
 | [],rs,e,hl,hb=>⟨rs,hl,fun r hr=>Span.mem hr,(fun _ h=>nomatch h),fun i hi=>hi,hb,fun x _ hx=>⟨1,by decide,by rw [mulv_one (hx.len hl)];exact hx⟩⟩
 | q::qs,rs,e,hl,hb=>by
  obtain ⟨r1,l1,s1,z1,k1,b1,f1⟩:=clear1 (q:=q) hl hb
  obtain ⟨r2,l2,s2,z2,k2,b2,f2⟩:=clears qs l1 b1
  refine⟨r2,l2,fun r hr=>(s2 r hr).of s1,fun p hp r hr=>?_,fun i hi=>k2 i (k1 i hi),b2,fun x hx hs=>?_⟩
  ·rcases List.mem_cons.mp hp with rfl|hp
   ·exact k2 p z1 r hr
   ·exact z2 p hp r hr
  ·have lx:=hs.len hl
   obtain ⟨d,hd,h1⟩:=f1 x (hx q (.head _)) hs
   obtain ⟨c,hc,h2⟩:=f2 (mulv x d) (fun p hp=>by rw [mulv_at,hx p (.tail _ hp),Int.zero_mul]) h1
   exact⟨d*c,Int.mul_ne_zero hd hc,by rw [← mulv_mulv lx];exact h2⟩
theorem SF.cleared {n k:Nat}:∀ {rs:List (List Int)} {x:List Int},SF rs→Len n rs→x.length=n→x.getD k 0≠0→(∀ u∈rs,u.getD k 0=0)→∃ y,y.length=n∧y.getD k 0≠0∧(∀ u∈rs,∀ j,Led u j→y.getD j 0=0)∧(∀ ts,(∀ u∈rs,Span n ts u)→Span n ts x→Span n ts y)∧∀ i,x.getD i 0=0→(∀ u∈rs,u.getD i 0=0)→y.getD i 0=0
 | [],x,_,_,lx,h0,_=>⟨x,lx,h0,(fun _ h=>nomatch h),fun _ _ h=>h,fun _ h _=>h⟩
 | u::us,x,sf,hl,lx,h0,hk=>by
  obtain ⟨j,hj⟩:=sf.1 u (.head _)
  have lu:=hl u (.head _)
  have lus:Len n us:=fun r hr=>hl r (.tail _ hr)
  have hj0:u.getD j 0≠0:=by have:=hj.1;lia
  obtain ⟨y,ly,y0,yz,ys,yi⟩:=SF.cleared (x:=crs j u x) sf.tail lus (crs_len lu lx) (by
   rw [crs_at lu lx,hk u (.head _),Int.zero_mul,Int.sub_zero]
   exact Int.mul_ne_zero h0 hj0) fun r hr=>hk r (.tail _ hr)
  refine⟨y,ly,y0,fun r hr i hi=>?_,fun ts ht hx=>ys ts (fun r hr=>ht r (.tail _ hr)) (Span.crsd lu lx (ht u (.head _)) hx),fun i hi hz=>yi i ?_ fun r hr=>hz r (.tail _ hr)⟩
  ·rcases List.mem_cons.mp hr with rfl|hr
   ·rw [hi.uniq hj]
    exact yi j (crs_q lu lx) (sf.low0 hj (Nat.le_refl _))
   ·exact yz r hr i hi
  ·rw [crs_at lu lx,hi,hz u (.head _)]
   simp
theorem SF.solo {n:Nat}:∀ {rs:List (List Int)} {t:List Int} {k:Nat},SF rs→Len n rs→t∈rs→Led t k→∃ y,Span n rs y∧y.getD k 0≠0∧∀ u∈rs,∀ j,Led u j→j≠k→y.getD j 0=0
 | [],_,_,_,_,h,_=>nomatch h
 | a::rs,t,k,sf,hl,ht,hk=>by
  have la:=hl a (.head _)
  have lr:Len n rs:=fun r hr=>hl r (.tail _ hr)
  obtain ⟨ja,hja⟩:=sf.1 a (.head _)
  rcases List.mem_cons.mp ht with rfl|ht'
  ·obtain ⟨y,ly,y0,yz,ys,_⟩:=SF.cleared (k:=k) (x:=t) sf.tail lr la (by have:=hk.1;lia) (sf.low0 hk (Nat.le_refl _))
   refine⟨y,ys _ (fun u hu=>Span.mem (.tail _ hu)) (Span.mem (.head _)),y0,fun u hu j hj hjk=>?_⟩
   rcases List.mem_cons.mp hu with rfl|hu
   ·exact absurd (hj.uniq hk) hjk
   ·exact yz u hu j hj
  ·obtain ⟨y,ys,y0,yz⟩:=SF.solo sf.tail lr ht' hk
   refine⟨y,ys.of fun u hu=>Span.mem (.tail _ hu),y0,fun u hu j hj hjk=>?_⟩
   rcases List.mem_cons.mp hu with rfl|hu
   ·exact Span.at0 lr ys (sf.low0 hj (Nat.le_refl _))
   ·exact yz u hu j hj hjk
theorem SF.nought {n:Nat} {T:List (List Int)} {v:List Int} (sf:SF T) (hl:Len n T) (h:Span n T v) (h0:∀ u∈T,∀ j,Led u j→v.getD j 0=0):v=zer n :=
 SF.small sf hl h fun r hr k hk=>by rw [h0 r hr k hk];have:=hk.1;lia
theorem SF.spread {n V:Nat} {T:List (List Int)} (sf:SF T) (hl:Len n T):∀ (ps:List (Nat×List Int)) {c:Nat} {v:List Int},Span n T v→(∀ p∈ps,Span n T p.2∧p.2.getD p.1 0≠0∧BdM V p.2∧∀ u∈T,∀ j,Led u j→j≠p.1→p.2.getD j 0=0)→(∀ p∈ps,∃ u∈T,Led u p.1)→(∀ u∈T,∀ j,Led u j→(∃ p∈ps,p.1=j)∨v.getD j 0=0)→(∀ p∈ps,(v.getD p.1 0).natAbs≤c*(p.2.getD p.1 0).natAbs)→BdM (ps.length*(c*V)) v
 | [],c,v,hv,_,_,h0,_=>fun i=>by
  rw [sf.nought hl hv fun u hu j hj=>(h0 u hu j hj).elim (fun ⟨_,h,_⟩=>nomatch h) id,zer_at]
  exact Nat.zero_le _
 | p::ps,c,v,hv,hp,hu,h0,hc=>by
  obtain ⟨sp,p0,pb,pz⟩:=hp p (.head _)
  have lp:=sp.len hl
  have lv:=hv.len hl
  have ih:=SF.spread sf hl ps (c:=c*(p.2.getD p.1 0).natAbs) (v:=crs p.1 p.2 v) (Span.crsd lp lv sp hv) (fun q hq=>hp q (.tail _ hq)) (fun q hq=>hu q (.tail _ hq)) (fun u hu' j hj=>?_) (fun q hq=>?_)
  ·intro i
   have h1:=ih i
   rw [crs_at lp lv] at h1
   have hpos:0<(p.2.getD p.1 0).natAbs:=by lia
   have h2:(p.2.getD i 0*v.getD p.1 0).natAbs≤V*(c*(p.2.getD p.1 0).natAbs):=by
    rw [Int.natAbs_mul]
    exact Nat.mul_le_mul (pb i) (hc p (.head _))
   have h3:=Int.natAbs_add_le (v.getD i 0*p.2.getD p.1 0 - p.2.getD i 0*v.getD p.1 0) (p.2.getD i 0*v.getD p.1 0)
   rw [Int.sub_add_cancel,Int.natAbs_mul] at h3
   refine Nat.le_of_mul_le_mul_right (c:=(p.2.getD p.1 0).natAbs) (Nat.le_trans h3 (Nat.le_trans (Nat.add_le_add h1 h2) (Nat.le_of_eq ?_))) hpos
   rw [List.length_cons,Nat.add_mul,Nat.add_mul,Nat.one_mul]
   congr 1
   ·rw [Nat.mul_assoc,Nat.mul_assoc,Nat.mul_assoc,Nat.mul_comm V]
   ·rw [Nat.mul_comm V,Nat.mul_assoc,Nat.mul_assoc,Nat.mul_comm V]
  ·by_cases e:j=p.1
   ·right
    rw [e]
    exact crs_q lp lv
   ·rcases h0 u hu' j hj with ⟨q,hq,z⟩|z
    ·rcases List.mem_cons.mp hq with rfl|hq
     ·exact absurd z.symm e
     ·exact .inl ⟨q,hq,z⟩
    ·right
     rw [crs_at lp lv,z,pz u hu' j hj e]
     simp
  ·by_cases e:q.1=p.1
   ·rw [e,crs_q lp lv]
    exact Nat.zero_le _
   ·obtain ⟨u,hu',hj⟩:=hu q (.tail _ hq)
    rw [crs_at lp lv,pz u hu' q.1 hj e,Int.zero_mul,Int.sub_zero,Int.natAbs_mul]
    have:=Nat.mul_le_mul_right (p.2.getD p.1 0).natAbs (hc q (.tail _ hq))
    rw [Nat.mul_assoc,Nat.mul_comm (q.2.getD q.1 0).natAbs,← Nat.mul_assoc] at this
    exact this
theorem choose_list {α β:Type} {R:α→β→Prop}:∀ (l:List α),(∀ a∈l,∃ b,R a b)→∃ bs:List β,bs.length=l.length∧(∀ a∈l,∃ b∈bs,R a b)∧∀ b∈bs,∃ a∈l,R a b
 | [],_=>⟨[],rfl,(fun _ h=>nomatch h),(fun _ h=>nomatch h)⟩
 | a::l,h=>by
  obtain ⟨b,hb⟩:=h a (.head _)
  obtain ⟨bs,h1,h2,h3⟩:=choose_list l fun x hx=>h x (.tail _ hx)
  refine⟨b::bs,by rw [List.length_cons,h1,List.length_cons],fun x hx=>?_,fun y hy=>?_⟩
  ·rcases List.mem_cons.mp hx with rfl|hx
   ·exact⟨b,.head _,hb⟩
   ·obtain ⟨y,hy,r⟩:=h2 x hx
    exact⟨y,.tail _ hy,r⟩
  ·rcases List.mem_cons.mp hy with rfl|hy
   ·exact⟨a,.head _,hb⟩
   ·obtain ⟨x,hx,r⟩:=h3 y hy
    exact⟨x,.tail _ hx,r⟩
theorem SF.alone {n k:Nat} {T:List (List Int)} {y:List Int} (sf:SF T) (hl:Len n T) (hy:Span n T y) (y0:y.getD k 0≠0) (yz:∀ u∈T,∀ j,Led u j→j≠k→y.getD j 0=0):∃ u∈T,Led u k∧(u.getD k 0).natAbs≤(y.getD k 0).natAbs:=by
 have ly:=hy.len hl
 obtain ⟨i,_,hi,hz⟩:=last_nz ly fun z=>y0 (by rw [z,zer_at])
 obtain ⟨u,hu,hj,hle⟩:=sf.lead_has hl hy hi hz
 by_cases e:i=k
 ·subst e
  exact⟨u,hu,hj,hle⟩
 ·exact absurd (yz u hu i hj e) hi
theorem SF.tight0 {V:Nat} {T:List (List Int)} (sf:SF T) (hl:Len 5 T) (h:∀ t∈T,∃ p:Nat×List Int,Led t p.1∧Span 5 T p.2∧p.2.getD p.1 0≠0∧BdM V p.2∧∀ u∈T,∀ j,Led u j→j≠p.1→p.2.getD j 0=0):∀ t∈T,BdM (5*V) t:=fun t ht=>by
 obtain ⟨ps,h1,h2,h3⟩:=choose_list T h
 have h5:T.length≤5:=SF.count sf fun r hr j hj=>led5 (hl r hr) hj
 have:=sf.spread hl (V:=V) ps (c:=1) (Span.mem ht) (fun p hp=>?_) (fun p hp=>?_) (fun u hu j hj=>?_) (fun p hp=>?_)
 ·refine this.mono ?_
  rw [Nat.one_mul]
  exact Nat.mul_le_mul_right _ (by lia)
 ·obtain ⟨a,ha,_,r⟩:=h3 p hp
  exact r
 ·obtain ⟨a,ha,hj,_⟩:=h3 p hp
  exact⟨a,ha,hj⟩
 ·obtain ⟨p,hp,hj',_⟩:=h2 u hu
  exact .inl ⟨p,hp,hj'.uniq hj⟩
 ·obtain ⟨a,ha,hj,sp,p0,_,pz⟩:=h3 p hp
  obtain ⟨u,hu,hju,hle⟩:=sf.alone hl sp p0 pz
  have:=sf.at_lead ht hu hju
  rw [Nat.one_mul]
  lia
theorem up3 (e:Nat):5*2 ^ e≤2 ^ (e+3):=by
 have h:(2:Nat) ^ (e+3)=8*2 ^ e:=by rw [Nat.pow_add,Nat.mul_comm]
 rw [h]
 exact Nat.mul_le_mul_right _ (by decide)
noncomputable def othersOf (T:List (List Int)) (k:Nat):List Nat:=(List.range 5).filter fun j=>@decide (j≠k∧∃ u∈T,Led u j) (Classical.propDecidable _)
theorem mem_others {T:List (List Int)} {k j:Nat}:j∈othersOf T k↔j<5∧j≠k∧∃ u∈T,Led u j:=by
 unfold othersOf
 rw [List.mem_filter,List.mem_range,@decide_eq_true_iff]
theorem others_len {T:List (List Int)} {k:Nat} (h:k<5):(othersOf T k).length≤4:=by
 unfold othersOf
 have h1:=(List.length_filter_lt_length_iff_exists (p:=fun j=>@decide (j≠k∧∃ u∈T,Led u j) (Classical.propDecidable _)) (l:=List.range 5)).mpr ⟨k,List.mem_range.mpr h,by simp⟩
 rw [List.length_range] at h1
 lia
theorem SF.tight {b:Nat} {rs T:List (List Int)} (sf:SF T) (hl:Len 5 T) (hr:Len 5 rs) (e:Eqv 5 rs T) (hb:∀ r∈rs,BdM (2 ^ b) r):∀ t∈T,BdM (2 ^ (16*b+18)) t:=by
 have key:=SF.tight0 (V:=2 ^ (16*b+15)) sf hl fun t ht=>?_
 ·refine fun t ht=>(key t ht).mono ?_
  exact up3 (16*b+15)
 ·obtain ⟨k,hk⟩:=sf.1 t ht
  have k5:=led5 (hl t ht) hk
  obtain ⟨y,ys,y0,yz⟩:=sf.solo hl ht hk
  obtain ⟨r2,l2,s2,z2,_,b2,f2⟩:=clears (othersOf T k) hr hb
  obtain ⟨d,hd,hs⟩:=f2 y (fun q hq=>by
   obtain ⟨_,h2,u,hu,hj⟩:=mem_others.mp hq
   exact yz u hu q hj h2) (e.symm.span ys)
  have hex:∃ r∈r2,r.getD k 0≠0:=by
   refine Classical.byContradiction fun hn=>?_
   have h0:=Span.at0 (i:=k) l2 hs fun r hr=>Classical.byContradiction fun z=>hn ⟨r,hr,z⟩
   rw [mulv_at] at h0
   exact (Int.mul_eq_zero.mp h0).elim y0 hd
  obtain ⟨x,hx,x0⟩:=hex
  refine⟨(k,x),hk,e.span (s2 x hx),x0,(b2 x hx).mono (Nat.pow_le_pow_right (by decide) (Nat.le_trans (eb_mono (others_len k5)) ?_)),fun u hu j hj hjk=>?_⟩
  ·simp only [eb]
   lia
  ·exact z2 j (mem_others.mpr ⟨led5 (hl u hu) hj,hjk,u,hu,hj⟩) x hx
end Mth
namespace Mth
noncomputable def hdv (w r:List Int):List Int:=r++[dt r w]
end Mth
namespace Mth
noncomputable def Ech (rs:List (List Int)):Prop:=(∀ r∈rs,∃ k,Led r k)∧rs.Pairwise fun a b=>∀ k,Led b k→∃ j,k<j∧Led a j
theorem Ech.tail {a:List Int} {rs:List (List Int)} (h:Ech (a::rs)):Ech rs:=⟨fun r hr=>h.1 r (List.mem_cons_of_mem _ hr),(List.pairwise_cons.mp h.2).2⟩
theorem Ech.low0 {a:List Int} {rs:List (List Int)} (h:Ech (a::rs)) {j i:Nat} (hj:Led a j) (hi:j≤i):∀ r∈rs,r.getD i 0=0:=fun r hr=>by
 obtain ⟨k,hk⟩:=h.1 r (List.mem_cons_of_mem _ hr)
 obtain ⟨j',h1,h2⟩:=(List.pairwise_cons.mp h.2).1 r hr k hk
 have:=h2.uniq hj
 exact hk.2 i (by lia)
theorem Ech.top {n:Nat}:∀ {rs:List (List Int)} {v:List Int},Ech rs→Len n rs→Span n rs v→v≠zer n→∃ r∈rs,∃ k c,Led r k∧v.getD k 0=r.getD k 0*c∧c≠0∧∀ i,k<i→v.getD i 0=0
 | [],v,_,_,hv,hz=>absurd hv.none hz
 | a::rs,v,h,hl,hv,hz=>by
  have la:=hl a (.head _)
  have lr:Len n rs:=fun r hr=>hl r (.tail _ hr)
  obtain ⟨j,hj⟩:=h.1 a (.head _)
  obtain ⟨c,lv,hs⟩:=Span.cons la lr hv
  by_cases hc:c=0
  ·subst hc
   rw [low_zero lv la] at hs
   obtain ⟨r,hr,k,d,q1,q2,q3,q4⟩:=Ech.top h.tail lr hs hz
   exact⟨r,.tail _ hr,k,d,q1,q2,q3,q4⟩
  ·have at_:∀ i,j≤i→v.getD i 0=a.getD i 0*c:=fun i hi=>by
    have e:=Span.at0 lr hs (h.low0 hj hi)
    rw [low_at lv la] at e
    lia
   refine⟨a,.head _,j,c,hj,at_ j (Nat.le_refl _),hc,fun i hi=>?_⟩
   rw [at_ i (Nat.le_of_lt hi),hj.2 i hi,Int.zero_mul]
theorem mul_ge {x c:Int} (hx:0<x) (hc:c≠0):x*c≤-x∨x≤x*c:=by
 rcases Int.lt_or_gt_of_ne hc with h|h
 ·left
  have:=Int.mul_le_mul_of_nonneg_left (show c≤-1 by lia) (Int.le_of_lt hx)
  lia
 ·right
  have:=Int.mul_le_mul_of_nonneg_left (show 1≤c by lia) (Int.le_of_lt hx)
  lia
end Mth
namespace L2
open PySem PySem.Spec PyProof.Rows
noncomputable def Fixed (K:PySem.W.Frag) (a:Addr) (xs:List V):Prop:=∀ H,SqT K H a xs
theorem Same.lst {H H':Hp} {a:Addr} {xs:List V} (e:Same H H') (h:H a=some (.lst xs)):H' a=some (.lst xs):=e _ _ h
theorem Same.upd_old {H H2:Hp} {l:Addr} {o:HO} (s:Same H H2) (h:H l=none):Same H (upd H2 l o):=fun b u e=>by
 rw [upd_ne (ne_of_none e h)];exact s _ _ e
noncomputable def rBl:V→Hp→(Bool→Hp→Prop)→Prop:=fun x H R=>∃ c,x=.bl c∧R c H
noncomputable def rIn1:V→Hp→(Option Int→Hp→Prop)→Prop:=fun x H R=>∃ i,x=.int i∧R (some i) H
noncomputable def rNewT:List V→Hp→VK→Prop:=fun xs H Q=>xs.length≤sizeLine∧∀ p,H p=none→Q (.ref p) (upd H p (.tup xs))
noncomputable def rNewL:List V→Hp→VK→Prop:=fun xs H Q=>xs.length≤sizeLine∧∀ p,H p=none→Q (.ref p) (upd H p (.lst xs))
noncomputable def rLen (K:PySem.W.Frag):List V→Hp→VK→Prop:=fun xs H Q=>∃ p ys,xs=[.ref p]∧(SqL K H p ys∨SqT K H p ys)∧Q (.int ys.length) H
noncomputable def rTupleOf (K:PySem.W.Frag):List V→Hp→VK→Prop:=fun xs H Q=>∃ p ys,xs=[.ref p]∧((SqL K H p ys∧∀ l,H l=none→Q (.ref l) (upd H l (.tup ys)))∨(SqT K H p ys∧Q (.ref p) H))
noncomputable def rListOf (K:PySem.W.Frag):List V→Hp→VK→Prop:=fun xs H Q=>∃ p ys,xs=[.ref p]∧(SqL K H p ys∨SqT K H p ys)∧∀ l,H l=none→Q (.ref l) (upd H l (.lst ys))
noncomputable def rIsInst (K:PySem.W.Frag):List V→Hp→VK→Prop:=fun xs H Q=>∃ x n t b,xs=[x,.ty n]∧TyR K H x t∧PySem.W.kitOne K t (.type n)=some b∧Q (.bl b) H
noncomputable def rAbs:List V→Hp→VK→Prop:=fun xs H Q=>∃ i,xs=[.int i]∧Q (.int (if i<0 then -i else i)) H
noncomputable def rItL (K:PySem.W.Frag):V→Hp→(It→Hp→Prop)→Prop:=fun x H R=>∃ a,x=.ref a∧(∃ xs,SqL K H a xs)∧R (Itl K a) H
noncomputable def rItT (K:PySem.W.Frag):V→Hp→(It→Hp→Prop)→Prop:=fun x H R=>∃ a,x=.ref a∧(∃ xs,SqT K H a xs)∧R (Itt K a) H
noncomputable def rItR:List V→Hp→(It→Hp→Prop)→Prop:=fun vs H R=>∃ j:Int,vs=[.int j]∧-(2 ^ 62)≤j∧j<2 ^ 62∧R (Itr 0 j.toNat) H
noncomputable def rItZ (K:PySem.W.Frag) (k1 k2:Bool):List V→Hp→(It→Hp→Prop)→Prop:=fun vs H R=>∃ a b,vs=[.ref a,.ref b]∧(∃ xs,Sq k1 K H a xs)∧(∃ ys,Sq k2 K H b ys)∧R (Itz K k1 k2 a b) H
noncomputable def rTyped (K:PySem.W.Frag) (T:String) (ts:TA) (r:V→List V→Hp→VK→Prop) (σ:St) (Q:VK):V→Hp→Prop:=fun x H1=>tyV K T x H1∧ts σ H1 fun xs H2=>r x xs H2 Q
noncomputable def rTyped0 (K:PySem.W.Frag) (T:String) (r:V→List V→Hp→VK→Prop) (Q:VK):V→Hp→Prop:=fun x H1=>tyV K T x H1∧r x [] H1 Q
noncomputable def ForGoal (g:TG) (tb:TS) (D:Ends) (J:It) (σ:St) (H:Hp):Prop:=∃ W:Nat→Nat→St→Hp→Prop,(∃ m,W 0 m σ H)∧∀ i m σ H,W i m σ H →
 (J.stop i H∧D.nx σ H)∨(J.go i H∧∃ N:St→Hp→Prop,(∀ σ' H',N σ' H'→∃ m',m'<m∧W (i+1) m' σ' H')∧∀ x H',J.yld i H x H'→g x σ H' fun σ2 H2=>tb { D with nx:=N,ct:=N,bk:=D.nx } σ2 H2)
section
variable {X:Cx}
theorem callN_len:CallR X (.builtin "len") (rLen X.K):=call_len_seq
theorem callN_tuple:CallR X (.type "tuple") (rTupleOf X.K):=call_tuple_of
theorem callN_list:CallR X (.type "list") (rListOf X.K):=call_list_of
theorem callN_isinst:CallR X (.builtin "isinstance") (rIsInst X.K):=call_isinst
theorem callN_abs:CallR X (.builtin "abs") rAbs:=call_abs
end
section
variable {t u:TS} {D:Ends} {σ:St} {H:Hp} {te ta tb:TE} {g:TG} {tt tu:TT} {Q:VK} {i j:Int} {x y v w:V} {K:PySem.W.Frag}
theorem r_seq (h:t { D with nx:=u D } σ H):tSeq t u D σ H:=h
theorem r_asg (h:te σ H fun x H1=>g x σ H1 D.nx):tAsg te g D σ H:=h
theorem r_gname {n:Nat} {R:St→Hp→Prop} (h:R (σ.set n (some v)) H):gName n v σ H R:=h
theorem r_ret (h:te σ H D.rt):tRet te D σ H:=h
theorem r_drop (h:te σ H fun _ H1=>D.nx σ H1):tDrop te D σ H:=h
theorem r_next (h:D.nx σ H):tNext D σ H:=h
theorem r_ifs {c:TT} (h:c σ H fun b H1=>if b=true then t D σ H1 else u D σ H1):tIfS c t u D σ H:=h
theorem r_var {n:Nat} (e:σ[n]?=some (some v)) (h:Q v H):tVar n σ H Q:=⟨v,e,h⟩
theorem r_c (h:Q v H):tC v σ H Q:=h
theorem r_op {r:R2} (h:ta σ H fun x H1=>tb σ H1 fun y H2=>r x y H2 Q):tOp r ta tb σ H Q:=h
theorem r_un {r:V→Hp→VK→Prop} (h:ta σ H fun x H1=>r x H1 Q):tUn r ta σ H Q:=h
theorem r_b {R:Bool→Hp→Prop} (h:te σ H fun x H1=>rBl x H1 R):tB te σ H R:=h
theorem r_test {R:Bool→Hp→Prop} (h:te σ H fun x H1=>rBl x H1 R):tTest te σ H R:=h
theorem r_isbl {b:Bool} {R:Bool→Hp→Prop} (h:R b H):rBl (.bl b) H R:=⟨b,rfl,h⟩
theorem r_and {R:Bool→Hp→Prop} (h:tt σ H fun c H1=>if c=true then tu σ H1 R else R false H1):tAnd tt tu σ H R:=h
theorem r_or {R:Bool→Hp→Prop} (h:tt σ H fun c H1=>if c=true then R true H1 else tu σ H1 R):tOr tt tu σ H R:=h
theorem r_not {R:Bool→Hp→Prop} (h:tt σ H fun c H1=>R (!c) H1):tNot tt σ H R:=h
theorem r_andV (h:ta σ H fun x H1=>rBl x H1 fun c H2=>if c=true then tb σ H2 Q else Q (.bl false) H2):tAndV ta tb σ H Q:=h
theorem r_orV (h:ta σ H fun x H1=>rBl x H1 fun c H2=>if c=true then Q (.bl true) H2 else tb σ H2 Q):tOrV ta tb σ H Q:=h
theorem r_notV (h:ta σ H fun x H1=>rBl x H1 fun c H2=>Q (.bl (!c)) H2):tNotV ta σ H Q:=h
theorem r_ife (h:tt σ H fun c H1=>if c=true then ta σ H1 Q else tb σ H1 Q):tIf tt ta tb σ H Q:=h
theorem r_I0 {f:Int→Int→V} (h:Q (f i j) H):rI0 f (.int i) (.int j) H Q:=⟨i,j,rfl,rfl,h⟩
theorem r_I {C:Int→Int→Prop} {f:Int→Int→V} (c:C i j) (h:Q (f i j) H):rI C f (.int i) (.int j) H Q:=⟨i,j,rfl,rfl,c,h⟩
theorem r_U {f:Int→V} (h:Q (f i) H):rU f (.int i) H Q:=⟨i,rfl,h⟩
theorem decI {i j:Int}:decide (V.int i=V.int j)=decide (i=j):=by
 by_cases e:i=j
 ·subst e;simp
 ·rw [decide_eq_false e];exact decide_eq_false fun z=>e (by injection z)
theorem r_eqI (h:Q (.bl (decide (i=j))) H):rEq (.int i) (.int j) H Q:=⟨rfl,by rw [decI];exact h⟩
theorem r_neI (h:Q (.bl (!decide (i=j))) H):rNe (.int i) (.int j) H Q:=⟨rfl,by rw [decI];exact h⟩
theorem r_nil {R:List V→Hp→Prop} (h:R [] H):tNil σ H R:=h
theorem r_cons {ts:TA} {R:List V→Hp→Prop} (h:te σ H fun x H1=>ts σ H1 fun xs H2=>R (x::xs) H2):tCons te ts σ H R:=h
theorem r_tup {ts:TA} (h:ts σ H fun xs H1=>rNewT xs H1 Q):tTup ts σ H Q:=h
theorem r_lst {ts:TA} (h:ts σ H fun xs H1=>rNewL xs H1 Q):tLst ts σ H Q:=h
theorem r_newT {xs:List V} (hl:xs.length≤1000) (h:∀ p H2,Same H H2→H2 p=some (.tup xs)→Q (.ref p) H2):rNewT xs H Q :=
 ⟨Nat.le_of_lt (small1000 hl),fun p hp=>h p _ (Same.upd_new hp) upd_same⟩
theorem r_newL {xs:List V} (hl:xs.length≤1000) (h:∀ p H2,H p=none→Same H H2→H2 p=some (.lst xs)→Q (.ref p) H2):rNewL xs H Q :=
 ⟨Nat.le_of_lt (small1000 hl),fun p hp=>h p _ hp (Same.upd_new hp) upd_same⟩
theorem r_cb {r:List V→Hp→VK→Prop} {ts:TA} (h:ts σ H fun vs H1=>r vs H1 Q):tCB r ts σ H Q:=h
theorem r_comp {ix:List (Option Nat)} {wi:TI} (h:wi σ H fun J H1=>CompGoal ix g tt te σ Q J H1):tComp ix wi g tt te σ H Q:=h
theorem r_sl {r:V→Option Int→Option Int→Hp→VK→Prop} {tl th:TO} (h:te σ H fun x H1=>tl σ H1 fun l H2=>th σ H2 fun u H3=>r x l u H3 Q):tSl r te tl th σ H Q:=h
theorem r_nopart {R:Option Int→Hp→Prop} (h:R none H):tNoPart σ H R:=h
theorem r_part {R:Option Int→Hp→Prop} (h:te σ H fun x H1=>rIn1 x H1 R):tPart te σ H R:=h
theorem r_isint {R:Option Int→Hp→Prop} (h:R (some i) H):rIn1 (.int i) H R:=⟨i,rfl,h⟩
theorem r_bm {T:String} {r:V→List V→Hp→VK→Prop} {ts:TA} (h:te σ H fun x H1=>rTyped K T ts r σ Q x H1):tBM K T r te ts σ H Q:=h
theorem r_bm0 {T:String} {r:V→List V→Hp→VK→Prop} (h:te σ H fun x H1=>rTyped0 K T r Q x H1):tBM0 K T r te σ H Q:=h
theorem r_for {wi:TI} {tb:TS} (h:wi σ H fun J H1=>ForGoal g tb D J σ H1):tFor wi g tb D σ H:=h
theorem r_ilist {R:It→Hp→Prop} (h:te σ H fun x H1=>rItL K x H1 R):iList K te σ H R:=h
theorem r_itup {R:It→Hp→Prop} (h:te σ H fun x H1=>rItT K x H1 R):iTup K te σ H R:=h
theorem r_irng {ts:TA} {R:It→Hp→Prop} (h:ts σ H fun vs H1=>rItR vs H1 R):iRng1 ts σ H R:=h
theorem r_izip {k1 k2:Bool} {ts:TA} {R:It→Hp→Prop} (h:ts σ H fun vs H1=>rItZ K k1 k2 vs H1 R):iZip2 K k1 k2 ts σ H R:=h
theorem r_isl {a:Addr} {xs:List V} {R:It→Hp→Prop} (e:SqL K H a xs) (h:R (Itl K a) H):rItL K (.ref a) H R:=⟨a,rfl,⟨_,e⟩,h⟩
theorem r_ist {a:Addr} {xs:List V} {R:It→Hp→Prop} (e:SqT K H a xs) (h:R (Itt K a) H):rItT K (.ref a) H R:=⟨a,rfl,⟨_,e⟩,h⟩
theorem r_isr {R:It→Hp→Prop} (h1:-1000000≤j) (h2:j≤1000000) (h:R (Itr 0 j.toNat) H):rItR [.int j] H R:=⟨j,rfl,by lia,by lia,h⟩
theorem r_isz {k1 k2:Bool} {a b:Addr} {xs ys:List V} {R:It→Hp→Prop} (e1:Sq k1 K H a xs) (e2:Sq k2 K H b ys) (h:R (Itz K k1 k2 a b) H):rItZ K k1 k2 [.ref a,.ref b] H R:=⟨a,b,rfl,⟨_,e1⟩,⟨_,e2⟩,h⟩
theorem sqt_sq {a:Addr} {xs:List V} (h:SqT K H a xs):Sq true K H a xs:=h
theorem sql_sq {a:Addr} {xs:List V} (h:SqL K H a xs):Sq false K H a xs:=h
theorem r_ixT {a:Addr} {xs:List V} (e:SqT K H a xs) (n:atI xs i=some v) (h:Q v H):rIx K (.ref a) (.int i) H Q:=.inr (.inl ⟨a,xs,i,v,rfl,rfl,e,n,h⟩)
theorem r_ixL {a:Addr} {xs:List V} (e:SqL K H a xs) (n:atI xs i=some v) (h:Q v H):rIx K (.ref a) (.int i) H Q:=.inl ⟨a,xs,i,v,rfl,rfl,e,n,h⟩
theorem r_lenT {a:Addr} {xs:List V} (e:SqT K H a xs) (h:Q (.int xs.length) H):rLen K [.ref a] H Q:=⟨a,xs,rfl,.inr e,h⟩
theorem r_lenL {a:Addr} {xs:List V} (e:SqL K H a xs) (h:Q (.int xs.length) H):rLen K [.ref a] H Q:=⟨a,xs,rfl,.inl e,h⟩
theorem r_tupleL {a:Addr} {xs:List V} (e:SqL K H a xs) (h:∀ p H2,Same H H2→H2 p=some (.tup xs)→Q (.ref p) H2):rTupleOf K [.ref a] H Q :=
 ⟨a,xs,rfl,.inl ⟨e,fun p hp=>h p _ (Same.upd_new hp) upd_same⟩⟩
theorem r_listL {a:Addr} {xs:List V} (e:SqL K H a xs) (h:∀ p H2,H p=none→Same H H2→H2 p=some (.lst xs)→Q (.ref p) H2):rListOf K [.ref a] H Q:=⟨a,xs,rfl,.inl e,fun p hp=>h p _ hp (Same.upd_new hp) upd_same⟩
theorem r_listT {a:Addr} {xs:List V} (e:SqT K H a xs) (h:∀ p H2,H p=none→Same H H2→H2 p=some (.lst xs)→Q (.ref p) H2):rListOf K [.ref a] H Q:=⟨a,xs,rfl,.inr e,fun p hp=>h p _ hp (Same.upd_new hp) upd_same⟩
theorem r_abs (h:Q (.int (if i<0 then -i else i)) H):rAbs [.int i] H Q:=⟨i,rfl,h⟩
theorem r_typed {T:String} {ts:TA} {r:V→List V→Hp→VK→Prop} (e:tyV K T x H) (h:ts σ H fun xs H2=>r x xs H2 Q):rTyped K T ts r σ Q x H:=⟨e,h⟩
theorem r_typed0 {T:String} {r:V→List V→Hp→VK→Prop} (e:tyV K T x H) (h:r x [] H Q):rTyped0 K T r Q x H:=⟨e,h⟩
theorem r_append {l:Addr} {xs:List V} (e:H l=some (.lst xs)) (n:xs.length≤1000) (h:Q .non (upd H l (.lst (xs++[y])))):rAppend (.ref l) [y] H Q:=⟨l,xs,y,rfl,rfl,e,small1000 n,h⟩
theorem r_cat {a b:Addr} {xs ys:List V} (e1:H a=some (.lst xs)) (e2:H b=some (.lst ys)) (n:xs.length+ys.length≤1000) (h:∀ p H2,H p=none→Same H H2→H2 p=some (.lst (xs++ys))→Q (.ref p) H2):rCat (.ref a) (.ref b) H Q :=
 ⟨a,b,xs,ys,rfl,rfl,e1,e2,Nat.le_of_lt (small1000 n),fun p hp=>h p _ hp (Same.upd_new hp) upd_same⟩
theorem r_catT {a b:Addr} {xs ys:List V} (e1:SqT K H a xs) (e2:SqT K H b ys) (n1:xs≠[]) (n2:ys≠[]) (n:xs.length+ys.length≤1000) (h:∀ p H2,Same H H2→H2 p=some (.tup (xs++ys))→Q (.ref p) H2):rCatT K (.ref a) (.ref b) H Q :=
 ⟨a,b,xs,ys,rfl,rfl,e1,e2,n1,Nat.le_of_lt (small1000 n),fun z=>absurd z n2,fun _ p hp=>h p _ (Same.upd_new hp) upd_same⟩
theorem r_slT {a:Addr} {xs:List V} {lo hi:Option Int} (e:SqT K H a xs) (n:¬ (HT.sIx xs.length 0 lo=0∧HT.sIx xs.length xs.length hi=xs.length)) (h:∀ p H2,Same H H2→H2 p=some (.tup (cutV xs lo hi))→Q (.ref p) H2):rSlT K (.ref a) lo hi H Q :=
 ⟨a,xs,rfl,e,n,fun p hp=>h p _ (Same.upd_new hp) upd_same⟩
theorem r_slL {a:Addr} {xs:List V} {lo hi:Option Int} (e:SqL K H a xs) (h:∀ p H2,H p=none→Same H H2→H2 p=some (.lst (cutV xs lo hi))→Q (.ref p) H2):rSlL K (.ref a) lo hi H Q :=
 ⟨a,xs,rfl,e,fun p hp=>h p _ hp (Same.upd_new hp) upd_same⟩
theorem r_isiT {a:Addr} {xs:List V} {n:String} {b:Bool} (e:SqT K H a xs) (k:PySem.W.kitOne K (.type "tuple") (.type n)=some b) (h:Q (.bl b) H):rIsInst K [.ref a,.ty n] H Q:=⟨_,n,_,b,rfl,.inr (.inl ⟨a,xs,rfl,e,rfl⟩),k,h⟩
theorem r_isiL {a:Addr} {xs:List V} {n:String} {b:Bool} (e:SqL K H a xs) (k:PySem.W.kitOne K (.type "list") (.type n)=some b) (h:Q (.bl b) H):rIsInst K [.ref a,.ty n] H Q:=⟨_,n,_,b,rfl,.inr (.inr ⟨a,xs,rfl,e,rfl⟩),k,h⟩
theorem r_isiI {n:String} {b:Bool} (k:PySem.W.kitOne K (.type "int") (.type n)=some b) (h:Q (.bl b) H):rIsInst K [.int i,.ty n] H Q:=⟨_,n,_,b,rfl,.inl (.int _),k,h⟩
end
theorem if_tt {c:Bool} {A B:Prop} (e:c=true) (h:A):if c=true then A else B:=by rw [if_pos e];exact h
theorem if_ff {c:Bool} {A B:Prop} (e:c=false) (h:B):if c=true then A else B:=by rw [e];exact iteF h
theorem if_both {c:Bool} {A B:Prop} (h1:c=true→A) (h2:c=false→B):if c=true then A else B:=by
 cases c with
 | true=>exact iteT (h1 rfl)
 | false=>exact iteF (h2 rfl)
end L2
namespace L2
open PySem PySem.Spec PyProof.Rows
section
variable {t u:TS} {D:Ends} {σ:St} {H:Hp} {te ta tb:TE} {g:TG} {tt tu:TT} {Q:VK} {i j:Int} {x y v w:V} {K:PySem.W.Frag} {X:Cx}
theorem r_call0 {sp:Sp} {E:XK} {ts:TA} (h:ts σ H fun vs H1=>sp vs H1 Q E):tCall sp [] E ts σ H Q:=by
 unfold tCall
 simp only [List.append_nil]
 exact h
noncomputable def WGo (tb:TS) (D:Ends) (W:Nat→St→Hp→Prop) (m:Nat) (σ:St) (H1:Hp):Prop:=∃ N:St→Hp→Prop,(∀ σ' H',N σ' H'→∃ m',m'<m∧W m' σ' H')∧tb { D with nx:=N,ct:=N,bk:=D.nx } σ H1
theorem f_while {c:TT} {tb:TS} (W:Nat→St→Hp→Prop) (m:Nat) (h0:W m σ H) (hs:∀ m σ H,W m σ H→c σ H fun b H1=>if b=true then WGo tb D W m σ H1 else D.nx σ H1):tWhile c tb D σ H:=⟨W,⟨m,h0⟩,hs⟩
theorem w_go {tb:TS} {W:Nat→St→Hp→Prop} {m:Nat} (h:tb { D with nx:=fun σ' H'=>∃ m',m'<m∧W m' σ' H',ct:=fun σ' H'=>∃ m',m'<m∧W m' σ' H',bk:=D.nx } σ H):WGo tb D W m σ H:=⟨_,fun _ _ z=>z,h⟩
end
end L2
namespace L2
open PySem PySem.Spec PyProof.Rows
section
variable {X:Cx} (K:PySem.W.Frag) (hK:X.K=K)
include hK
theorem kN_len:CallR X (.builtin "len") (rLen K):=hK ▸ callN_len
theorem kN_tuple:CallR X (.type "tuple") (rTupleOf K):=hK ▸ callN_tuple
theorem kN_list:CallR X (.type "list") (rListOf K):=hK ▸ callN_list
theorem kN_isinst:CallR X (.builtin "isinstance") (rIsInst K):=hK ▸ callN_isinst
theorem kx_seq:IxR X (rIx K):=hK ▸ ix_seq
theorem ksl_tup:SlR X (rSlT K):=hK ▸ sl_tup
theorem ksl_list:SlR X (rSlL K):=hK ▸ sl_list
theorem kop_catT:OpR X (binaryOp .Add) (rCatT K):=hK ▸ op_catT
theorem kpi_list {tg l:Expr} {tl:TE} (hl:PE X l tl):PI X tg l (iList K tl):=hK ▸ pi_list hl
theorem kpi_tup {tg l:Expr} {tl:TE} (hl:PE X l tl):PI X tg l (iTup K tl):=hK ▸ pi_tup hl
theorem kpi_zip2 (k1 k2:Bool) {es:List Expr} {kk:Nat} {tpos:Pos} {a b:Expr} {ta:TA} {p pos:Pos} (hg:Gl X "zip") (hm:X.mg "zip"=none) (ha:PA X [a,b] ta) (hs:starEach [a,b] X.env=[(false,eval a X.env),(false,eval b X.env)]:=by rfl) (hs2:starEach [b] X.env=[(false,eval b X.env)]:=by rfl) :
  PI X (.Tuple es kk tpos) (.Call (.Name "zip" p) [a,b] [] pos) (iZip2 K k1 k2 ta):=hK ▸ pi_zip2 k1 k2 hg hm ha hs hs2
theorem kpg_tup {es:List Expr} {k:Nat} {t:TGs} {n:Nat} {pos:Pos} (hc:X.calm=true) (h:PGs X es t)
  (hn:(assignEach es X.env).length=n:=by rfl) (hst:(assignEach es X.env).findIdx? (·.1)=none:=by rfl):PG X (.Tuple es k pos) (gTup K n t):=hK ▸ pg_tup hc h hn hst
end
end L2
namespace Mth
theorem bits_bl (x:Int):L2.bitsI x=bl x:=rfl
end Mth
namespace L2
open PySem PySem.Spec PyProof.Rows
section
variable {H:Hp} {Q:VK} {K:PySem.W.Frag}
theorem cut_tail (x:V) (xs:List V):cutV (x::xs) (some 1) none=xs:=by
 have e:HT.sIx (x::xs).length 0 (some 1)=1:=by
  have h:=HT.sIx_nat (x::xs).length 0 1
  simp only [List.length_cons] at h ⊢
  have h2:min 1 (xs.length+1)=1:=by lia
  rw [h2] at h
  exact h
 unfold cutV
 rw [e,HT.sIx_none]
 simp
theorem r_slL1 {a:Addr} {x:V} {xs:List V} (e:SqL K H a (x::xs)) (h:∀ p H2,H p=none→Same H H2→H2 p=some (.lst xs)→Q (.ref p) H2):rSlL K (.ref a) (some 1) none H Q :=
 r_slL e fun p H2 n s m=>h p H2 n s (by rw [cut_tail] at m;exact m)
theorem r_slT1 {a:Addr} {x:V} {xs:List V} (e:SqT K H a (x::xs)) (h:∀ p H2,Same H H2→H2 p=some (.tup xs)→Q (.ref p) H2):rSlT K (.ref a) (some 1) none H Q :=
 r_slT e (fun z=>by
  have h2:=HT.sIx_nat (x::xs).length 0 1
  have h3:HT.sIx (x::xs).length 0 (some 1)=min 1 (x::xs).length:=h2
  rw [h3] at z
  have:=z.1
  simp only [List.length_cons] at this
  lia) fun p H2 s m=>h p H2 s (by rw [cut_tail] at m;exact m)
end
end L2
namespace PySem.F
theorem typeCall_zip_3 (a b c:Value):checkTypeCall "zip" ⟨[a,b,c],[]⟩=pure ():=by kernel_rfl
theorem newCall_zip_3 (a b c:Value):checkBuiltinCall "zip.__new__" ⟨[.type "zip",a,b,c],[]⟩=pure ():=by kernel_rfl
end PySem.F
namespace L2
open PySem
section
variable {prog:Program} {w:World} {A:Around} {E:Value→Shared→Prop} {s:Shared}
structure Zip3 (k1 k2 k3:Bool) (n a b c:Nat) (i:Nat) (f0:Value) (h:Heap):Prop where
 z:IsZip h (n+5) (n+3) (n+4) f0
 ti:IsT h (n+3) #[.ref n,.ref (n+1),.ref (n+2)]
 to:∃ u v x,IsT h (n+4) #[u,v,x]
 i1:ItAt k1 h n a i
 i2:ItAt k2 h (n+1) b i
 i3:ItAt k3 h (n+2) c i
theorem zip3_next {k1 k2 k3:Bool} {n a b c:Nat} {i:Nat} {xs ys zs:Array Value} {x y zz:Value} {Q:Value→Shared→Prop} (Z:Zip3 k1 k2 k3 n a b c i .none s.heap) (ha:a<n) (hb:b<n) (hc:c<n)
  (h1:SrcOf k1 s.heap a xs) (h2:SrcOf k2 s.heap b ys) (h3:SrcOf k3 s.heap c zs) (hx:xs[i]?=some x) (hy:ys[i]?=some y) (hz0:zs[i]?=some zz)
  (hQ:∀ h',Zip3 k1 k2 k3 n a b c (i+1) (rawInt s.heap.objs.size) h'→IsT h' s.heap.objs.size #[x,y,zz]→h'.objs.size=s.heap.objs.size+1→Off [n,n+1,n+2,n+4,n+5] s.heap h'→Q (.ref s.heap.objs.size) { s with heap:=h' }) :
  wpAny (model prog w) A (Builtin.«zip.__next__» ⟨[.ref (n+5)],[]⟩) (fun fin s'=>∃ v,fin=.done (.ret v)∧Q v s') E s:=by
 obtain ⟨hz,hTI,⟨u,v,x0,hTO⟩,hi1,hi2,hi3⟩:=Z
 show wpAny _ _ (field (.ref (n+5)) 2 >>= _) _ _ _
 refine wpAny_bind (wpAny_field hz rfl (x:=.bool false) rfl ?_)
 show wpAny _ _ (field (.ref (n+5)) 3 >>= _) _ _ _
 refine wpAny_bind (wpAny_field hz rfl (x:=.ref (n+3)) rfl ?_)
 refine wpAny_bind (wpAny_seqItems hTI rfl ?_)
 show wpAny _ _ (Builtin.SmallTypes.ownedTupleIsFree (.ref (n+5)) >>= _) _ _ _
 refine wpAny_bind ?_
 unfold Builtin.SmallTypes.ownedTupleIsFree
 refine wpAny_bind (wpAny_field hz rfl (x:=.none) rfl (wpAny_pure ?_))
 simp only [if_true]
 refine wpAny_bind (wpAny_rule ?_)
 refine wpAny_bind (wpAny_field hz rfl (x:=.ref (n+4)) rfl ?_)
 refine wpAny_bind (wpAny_setField_rec hz (by simp) fun g1 hz1 hs1=>?_)
 replace hz1:IsZip g1 (n+5) (n+3) (n+4) .ellipsis:=hz1
 refine wpAny_bind ?_
 simp only [List.zipIdx_cons,List.zipIdx_nil,List.forIn_cons,List.forIn_nil]
 refine wpAny_bind (wpAny_bind (wpAny_onRaise ?_))
 show wpAny _ _ (Builtin.SmallTypes.nextOf (.ref n) >>= _) _ _ _
 refine wpAny_bind (sub_item (hi1.keep fun o e=>(hs1.2 _ (nne (by lia))).trans e) (h1.keep fun o e=>(hs1.2 _ (nne (by lia))).trans e) hx fun g2 hi1' hs2=>wpAny_pure ?_)
 have up2:∀ d o,d≠n+5→d≠n→s.heap.get? d=some o→g2.get? d=some o:=fun d o d1 d2 e=>(hs2.2 _ d2).trans ((hs1.2 _ d1).trans e)
 have hTO2:IsT g2 (n+4) #[u,v,x0]:=up2 _ _ (nne (by lia)) (nne (by lia)) hTO
 refine wpAny_bind (wpAny_seqItems hTO2 rfl ?_)
 refine wpAny_bind (upd_tup hTO2 (by simp) fun g3 hTO3 hs3=>?_)
 replace hTO3:IsT g3 (n+4) #[x,v,x0]:=hTO3
 refine wpAny_bind (wpAny_letGo (wpAny_pure ?_))
 refine wpAny_bind (wpAny_bind (wpAny_onRaise ?_))
 show wpAny _ _ (Builtin.SmallTypes.nextOf (.ref (n+1)) >>= _) _ _ _
 refine wpAny_bind (sub_item (hi2.keep fun o e=>(hs3.2 _ (nne (by lia))).trans (up2 _ _ (nne (by lia)) (nne (by lia)) e)) (h2.keep fun o e=>(hs3.2 _ (nne (by lia))).trans (up2 _ _ (nne (by lia)) (nne (by lia)) e)) hy fun g4 hi2' hs4=>wpAny_pure ?_)
 have up4:∀ d o,d≠n+4→d≠n+1→g2.get? d=some o→g4.get? d=some o:=fun d o d1 d2 e=>(hs4.2 _ d2).trans ((hs3.2 _ d1).trans e)
 have hTO4:IsT g4 (n+4) #[x,v,x0]:=(hs4.2 _ (nne (by lia))).trans hTO3
 refine wpAny_bind (wpAny_seqItems hTO4 rfl ?_)
 refine wpAny_bind (upd_tup hTO4 (by simp) fun g5 hTO5 hs5=>?_)
 replace hTO5:IsT g5 (n+4) #[x,y,x0]:=hTO5
 refine wpAny_bind (wpAny_letGo (wpAny_pure ?_))
 refine wpAny_bind (wpAny_bind (wpAny_onRaise ?_))
 show wpAny _ _ (Builtin.SmallTypes.nextOf (.ref (n+2)) >>= _) _ _ _
 refine wpAny_bind (sub_item (hi3.keep fun o e=>(hs5.2 _ (nne (by lia))).trans (up4 _ _ (nne (by lia)) (nne (by lia)) (up2 _ _ (nne (by lia)) (nne (by lia)) e))) (h3.keep fun o e=>(hs5.2 _ (nne (by lia))).trans (up4 _ _ (nne (by lia)) (nne (by lia)) (up2 _ _ (nne (by lia)) (nne (by lia)) e))) hz0 fun g6 hi3' hs6=>wpAny_pure ?_)
 have up6:∀ d o,d≠n+4→d≠n+2→g4.get? d=some o→g6.get? d=some o:=fun d o d1 d2 e=>(hs6.2 _ d2).trans ((hs5.2 _ d1).trans e)
 have hTO6:IsT g6 (n+4) #[x,y,x0]:=(hs6.2 _ (nne (by lia))).trans hTO5
 refine wpAny_bind (wpAny_seqItems hTO6 rfl ?_)
 refine wpAny_bind (upd_tup hTO6 (by simp) fun g7 hTO7 hs7=>?_)
 replace hTO7:IsT g7 (n+4) #[x,y,zz]:=hTO7
 refine wpAny_bind (wpAny_letGo (wpAny_pure (wpAny_pure ?_)))
 refine wpAny_bind (wpAny_seqItems hTO7 rfl ?_)
 refine wpAny_bind (wpAny_newTuple ?_)
 have hsz:g7.objs.size=s.heap.objs.size:=by rw [hs7.1,hs6.1,hs5.1,hs4.1,hs3.1,hs2.1,hs1.1]
 have all7:∀ d o,d≠n→d≠n+1→d≠n+2→d≠n+4→g1.get? d=some o→g7.get? d=some o:=fun d o d0 d1 d2 d4 e=>(hs7.2 _ d4).trans (up6 _ _ d4 d2 (up4 _ _ d4 d1 ((hs2.2 _ d0).trans e)))
 have hz7:IsZip g7 (n+5) (n+3) (n+4) .ellipsis:=all7 _ _ (nne (by lia)) (nne (by lia)) (nne (by lia)) (nne (by lia)) hz1
 have off7:Off [n,n+1,n+2,n+4,n+5] s.heap g7:=fun d o hd e=>by
  simp only [List.mem_cons,List.not_mem_nil,or_false,not_or] at hd
  exact all7 d o hd.1 hd.2.1 hd.2.2.1 hd.2.2.2.1 ((hs1.2 _ hd.2.2.2.2).trans e)
 have hzlt:n+5<g7.objs.size:=Heap.lt_size hz7
 show wpAny _ _ (Builtin.SmallTypes.ownedTupleHandOut (.ref (n+5)) (.ref g7.objs.size) >>= _) _ _ _
 refine wpAny_bind ?_
 unfold Builtin.SmallTypes.ownedTupleHandOut
 have hz8:IsZip (g7.push { cls:=.type "tuple",data:=.seq #[x,y,zz] }) (n+5) (n+3) (n+4) .ellipsis:=Heap.get?_push_of_some _ hz7
 refine wpAny_bind (wpAny_setField_rec hz8 (by simp) fun g9 hz9 hs9=>?_)
 replace hz9:IsZip g9 (n+5) (n+3) (n+4) (rawInt g7.objs.size):=hz9
 refine wpAny_setField_rec hz9 (by simp) fun gA hzA hsA=>?_
 replace hzA:IsZip gA (n+5) (n+3) (n+4) (rawInt g7.objs.size):=hzA
 have up:∀ d o,d≠n+5→g7.get? d=some o→gA.get? d=some o:=fun d o d1 e=>(hsA.2 _ d1).trans ((hs9.2 _ d1).trans (Heap.get?_push_of_some _ e))
 have hTA:IsT gA g7.objs.size #[x,y,zz]:=(hsA.2 _ (Nat.ne_of_gt hzlt)).trans ((hs9.2 _ (Nat.ne_of_gt hzlt)).trans (Heap.get?_push_size _ rfl))
 have hzA':gA.objs.size=g7.objs.size+1:=by rw [hsA.1,hs9.1,Heap.size_push]
 rw [hsz] at hzA hTA hzA'
 refine wpAny_pure ⟨_,rfl,?_⟩
 show Q (.ref g7.objs.size) _
 rw [hsz]
 refine hQ gA ⟨hzA,up _ _ (nne (by lia)) (off7 _ _ (by simp) hTI),⟨x,y,zz,up _ _ (nne (by lia)) hTO7⟩,?_,?_,?_⟩ hTA hzA' fun d o hd e=>?_
 ·exact hi1'.keep fun o e=>up _ o (nne (by lia)) ((hs7.2 _ (nne (by lia))).trans (up6 _ _ (nne (by lia)) (nne (by lia)) (up4 _ _ (nne (by lia)) (nne (by lia)) e)))
 ·exact hi2'.keep fun o e=>up _ o (nne (by lia)) ((hs7.2 _ (nne (by lia))).trans (up6 _ _ (nne (by lia)) (nne (by lia)) e))
 ·exact hi3'.keep fun o e=>up _ o (nne (by lia)) ((hs7.2 _ (nne (by lia))).trans e)
 ·exact up d o (fun z=>hd (by simp [z])) (off7 d o hd e)
theorem zip3_stop {k1 k2 k3:Bool} {n a b c:Nat} {i:Nat} {xs:Array Value} {Q:Fin→Shared→Prop} (hh:A.handled=none) (Z:Zip3 k1 k2 k3 n a b c i .none s.heap) (ha:a<n)
  (h1:SrcOf k1 s.heap a xs) (hx:xs[i]?=none)
  (hE:∀ h' e,Off [n,n+1,n+2,n+4,n+5] s.heap h'→(∃ o,h'.get? e=some o∧o.cls=.type "StopIteration")→E (.ref e) { s with heap:=h' }) :
  wpAny (model prog w) A (Builtin.«zip.__next__» ⟨[.ref (n+5)],[]⟩) Q E s:=by
 obtain ⟨hz,hTI,⟨u,v,x0,hTO⟩,hi1,hi2,hi3⟩:=Z
 show wpAny _ _ (field (.ref (n+5)) 2 >>= _) _ _ _
 refine wpAny_bind (wpAny_field hz rfl (x:=.bool false) rfl ?_)
 show wpAny _ _ (field (.ref (n+5)) 3 >>= _) _ _ _
 refine wpAny_bind (wpAny_field hz rfl (x:=.ref (n+3)) rfl ?_)
 refine wpAny_bind (wpAny_seqItems hTI rfl ?_)
 show wpAny _ _ (Builtin.SmallTypes.ownedTupleIsFree (.ref (n+5)) >>= _) _ _ _
 refine wpAny_bind ?_
 unfold Builtin.SmallTypes.ownedTupleIsFree
 refine wpAny_bind (wpAny_field hz rfl (x:=.none) rfl (wpAny_pure ?_))
 simp only [if_true]
 refine wpAny_bind (wpAny_rule ?_)
 refine wpAny_bind (wpAny_field hz rfl (x:=.ref (n+4)) rfl ?_)
 refine wpAny_bind (wpAny_setField_rec hz (by simp) fun g1 hz1 hs1=>?_)
 replace hz1:IsZip g1 (n+5) (n+3) (n+4) .ellipsis:=hz1
 refine wpAny_bind ?_
 simp only [List.zipIdx_cons,List.zipIdx_nil,List.forIn_cons,List.forIn_nil]
 refine wpAny_bind (wpAny_bind (wpAny_onRaise ?_))
 show wpAny _ _ (Builtin.SmallTypes.nextOf (.ref n) >>= _) _ _ _
 refine wpAny_bind (sub_end hh (hi1.keep fun o e=>(hs1.2 _ (nne (by lia))).trans e) (h1.keep fun o e=>(hs1.2 _ (nne (by lia))).trans e) hx fun g2 e hs2 he=>?_)
 obtain ⟨oe,hoe,hce⟩:=he
 have hz2:IsZip g2 (n+5) (n+3) (n+4) .ellipsis:=hs2 _ _ (nne (by lia)) hz1
 have hez:e≠n+5:=fun z=>by subst z;rw [hz2] at hoe;cases hoe;simp at hce
 exact wpAny_setField_rec hz2 (by simp) fun g9 _ hs9=>hE g9 e (((Off.of hs1 (by simp)).trans fun d o hd q=>hs2 d o (fun z=>hd (by simp [z])) q).trans (Off.of hs9 (by simp))) ⟨oe,(hs9.2 _ hez).trans hoe,hce⟩
theorem pyNext_zip3 {k1 k2 k3:Bool} {n a b c:Nat} {i:Nat} {xs ys zs:Array Value} {x y zz:Value} {Q:Option Value→Shared→Prop} (Z:Zip3 k1 k2 k3 n a b c i .none s.heap) (ha:a<n) (hb:b<n) (hc:c<n)
  (h1:SrcOf k1 s.heap a xs) (h2:SrcOf k2 s.heap b ys) (h3:SrcOf k3 s.heap c zs) (hx:xs[i]?=some x) (hy:ys[i]?=some y) (hz0:zs[i]?=some zz)
  (hQ:∀ h',Zip3 k1 k2 k3 n a b c (i+1) (rawInt s.heap.objs.size) h'→IsT h' s.heap.objs.size #[x,y,zz]→h'.objs.size=s.heap.objs.size+1→Off [n,n+1,n+2,n+4,n+5] s.heap h'→Q (some (.ref s.heap.objs.size)) { s with heap:=h' }) :
  wpAny (model prog w) A (pyNext (.ref (n+5))) Q E s:=by
 have hT:s.TypeIs (.ref (n+5)) "zip":=⟨_,Z.z,rfl⟩
 unfold pyNext
 exact wpAny_bind (wpAny_attempt (wpAny_callSpecial?_slot (name:=Str.ofString "__next__") hT F.slot_zip_next
  (wpAny_call_entry F.slot_zip_next hT F.entry_zip_next
   (zip3_next Z ha hb hc h1 h2 h3 hx hy hz0 fun h' a1 a2 a3 a4=>wpAny_pure (hQ h' a1 a2 a3 a4)) (F.args_zip_next_1 _))))
theorem pyNext_zip3_end {k1 k2 k3:Bool} {n a b c:Nat} {i:Nat} {xs:Array Value} {Q:Option Value→Shared→Prop} (hh:A.handled=none) (Z:Zip3 k1 k2 k3 n a b c i .none s.heap) (ha:a<n)
  (h1:SrcOf k1 s.heap a xs) (hx:xs[i]?=none)
  (hQ:∀ h',Off [n,n+1,n+2,n+4,n+5] s.heap h'→Q none { s with heap:=h' }):wpAny (model prog w) A (pyNext (.ref (n+5))) Q E s:=by
 have hT:s.TypeIs (.ref (n+5)) "zip":=⟨_,Z.z,rfl⟩
 unfold pyNext
 refine wpAny_bind (wpAny_attempt (wpAny_callSpecial?_slot (name:=Str.ofString "__next__") hT F.slot_zip_next
  (wpAny_call_entry F.slot_zip_next hT F.entry_zip_next (zip3_stop (A:=A.in1) hh Z ha h1 hx fun h' e hk he=>?_) (F.args_zip_next_1 _))))
 obtain ⟨o,ho,hc⟩:=he
 refine wpAny_bind (wpAny_isInstance (T:="StopIteration") (b:=true) ⟨o,ho,hc⟩ isSubtype_stop ?_)
 exact wpAny_pure (hQ _ hk)
end
noncomputable abbrev zh6 (k1 k2 k3:Bool) (h:Heap) (a b c:Addr):Heap:=(((((h.push (itObj k1 a)).push (itObj k2 b)).push (itObj k3 c)).push { cls:=.type "tuple",data:=.seq #[.ref h.objs.size,.ref (h.objs.size+1),.ref (h.objs.size+2)] }).push { cls:=.type "tuple",data:=.seq #[.none,.none,.none] }).push
 { cls:=.type "zip",data:=.fields #[.none,.bool false,.bool false,.ref (h.objs.size+3),.ref (h.objs.size+4)] }
theorem zip3_made (k1 k2 k3:Bool) (a b c:Addr) (xs ys zs:Array Value) :
  Meets (Builtin.«zip.__new__» ⟨[.type "zip",.ref a,.ref b,.ref c],[]⟩) (fun _ R s=>SrcOf k1 s.heap a xs∧SrcOf k2 s.heap b ys∧SrcOf k3 s.heap c zs ∧
   R (.ok (.ret (.ref (s.heap.objs.size+5)))) { s with heap:=zh6 k1 k2 k3 s.heap a b c }) :=
 .of_wp fun prog w A R s h=>by
  obtain ⟨hp,g,d,tk,os⟩:=s;obtain ⟨hl1,hl2,hl3,h⟩:=h
  have hsub:=sub_zip
  have hL1:SrcOf k1 (Shared.heap ⟨hp,g,d,tk,os⟩) a xs:=hl1
  have hL2:SrcOf k2 (Shared.heap ⟨hp.push (itObj k1 a),g,d,tk,os⟩) b ys:=SrcOf.keep hl2 fun o e=>Heap.get?_push_of_some _ e
  have hL3:SrcOf k3 (Shared.heap ⟨(hp.push (itObj k1 a)).push (itObj k2 b),g,d,tk,os⟩) c zs:=SrcOf.keep hl3 fun o e=>Heap.get?_push_of_some _ (Heap.get?_push_of_some _ e)
  wp_walk using src_iter hL1,src_iter hL2,src_iter hL3
  refine⟨_,rfl,?_⟩
  simp only [Heap.size_push]
  exact h
end L2
namespace PySem.F
theorem args_object_init_4 (a b c d:Value):argsOk "object.__init__" ⟨[a,b,c,d],[]⟩:=by
 unfold argsOk;rw [signature?_of (id:="object.__init__") (n:=['_','_','t','i','n','i','_','_']) (o:=['t','c','e','j','b','o']) (by kernel_rfl) owner_object];kernel_rfl
end PySem.F
namespace L2
open PySem PySem.Spec PyProof.Rows
theorem off_mem3 {c:Addr} {n:Nat} (z:c∈([n,n+1,n+2,n+4,n+5]:List Addr)):c∈([n+5,n+3,n+4,n,n+1,n+2]:List Addr):=by
 simp only [List.mem_cons,List.not_mem_nil,or_false] at z ⊢
 rcases z with h|h|h|h|h <;> simp [h]
noncomputable def Itz3 (K : PySem.W.Frag) (k1 k2 k3 : Bool) (a b c : Addr) : It :=
  ⟨fun i H => ∃ xs ys zs x y z, Sq k1 K H a xs ∧ Sq k2 K H b ys ∧ Sq k3 K H c zs ∧ xs[i]?=some x ∧ ys[i]?=some y ∧ zs[i]?=some z,
   fun i H v H' => ∃ p x y z, v=.ref p ∧ H p=none ∧ (∀ xs, Sq k1 K H a xs → xs[i]?=some x) ∧ (∀ ys, Sq k2 K H b ys → ys[i]?=some y) ∧ (∀ zs, Sq k3 K H c zs → zs[i]?=some z) ∧ H'=upd H p (.tup [x, y, z]),
   fun i H => ∃ xs, Sq k1 K H a xs ∧ xs.length ≤ i⟩
theorem turn_zip3 {P:Program} {w:World} {K:PySem.W.Frag} {es:List Expr} {kk:Nat} {pos:Pos} {k1 k2 k3:Bool} (n a b c:Nat) (ha:a<n) (hb:b<n) (hc:c<n) :
  Turn P w K (.Tuple es kk pos) (Itz3 K k1 k2 k3 a b c) [n+5,n+3,n+4,n,n+1,n+2] (n+5) (fun i h=>Zip3 k1 k2 k3 n a b c i .none h) where
 mem:=by simp
 obj:=fun i h st d hd=>by
  obtain ⟨hz,hTI,⟨u,v,x,hTO⟩,hi1,hi2,hi3⟩:=st
  simp only [List.mem_cons,List.not_mem_nil,or_false] at hd
  rcases hd with rfl|rfl|rfl|rfl|rfl|rfl
  ·exact⟨_,hz,fun v z=>nomatch z⟩
  ·exact⟨_,hTI,fun v z=>nomatch z⟩
  ·exact⟨_,hTO,fun v z=>nomatch z⟩
  ·exact hi1.obj
  ·exact hi2.obj
  ·exact hi3.obj
 keep:=fun i h h' st k=>by
  obtain ⟨hz,hTI,⟨u,v,x,hTO⟩,hi1,hi2,hi3⟩:=st
  exact⟨k _ (by simp) _ hz,k _ (by simp) _ hTI,⟨u,v,x,k _ (by simp) _ hTO⟩,hi1.keep fun o e=>k _ (by simp) o e,hi2.keep fun o e=>k _ (by simp) o e,hi3.keep fun o e=>k _ (by simp) o e⟩
 item:=by
  intro X hP hw hK hcl i pins s σ H E I hf st hg
  subst hP hw hK
  obtain ⟨xs,ys,zs,x,y,z,qx,qy,qz,ex,ey,ez⟩:=hg
  obtain ⟨is1,r1,s1,_⟩:=I.sq qx
  obtain ⟨is2,r2,s2,_⟩:=I.sq qy
  obtain ⟨is3,r3,s3,_⟩:=I.sq qz
  obtain ⟨u,hu,ru⟩:=r1.get ex
  obtain ⟨v,hv,rv⟩:=r2.get ey
  obtain ⟨t,ht,rt⟩:=r3.get ez
  refine pyNext_zip3 st ha hb hc s1 s2 s3 (x:=u) (y:=v) (zz:=t) (by simpa using hu) (by simpa using hv) (by simpa using ht) fun h' Z hT hsz off=>⟨_,rfl,?_⟩
  have hTn:H s.heap.objs.size=none:=I.hok.fresh (Nat.le_refl _)
  have zlt:n+5<s.heap.objs.size:=Heap.lt_size st.z
  refine wpAny_letOwnedTupleGo_zip Z.z fun h2 hz2 hs2=>?_
  have off2:Off [n+5,n+3,n+4,n,n+1,n+2] s.heap h2:=fun d o hd e=>(hs2.2 d fun z=>hd (by simp [z])).trans (off d o (fun z=>hd (off_mem3 z)) e)
  have hT2:IsT h2 s.heap.objs.size #[u,v,t]:=(hs2.2 _ (Nat.ne_of_gt zlt)).trans hT
  refine⟨.ref s.heap.objs.size,upd H s.heap.objs.size (.tup [x,y,z]),?_,rfl,⟨_,x,y,z,rfl,hTn,fun zs' hzs=>by rw [I.sq_inj hzs qx];exact ex,fun zs' hzs=>by rw [I.sq_inj hzs qy];exact ey,fun zs' hzs=>by rw [I.sq_inj hzs qz];exact ez,rfl⟩,?_,fun d hd=>?_⟩
  ·refine Inv.off (s:=s) (h':=h2) (t':=s.toks) (ch:=[n+5,n+3,n+4,n,n+1,n+2]) I hf off2 (I.hok.offNew (fun d hd=>(hf d hd).1) off2 (Nat.le_refl _) ?_) (fun d o _ e hn=>?_) fun d o e=>?_
   ·exact⟨by show 3≤sizeLine;decide,[u,v,t],.cons ru (.cons rv (.cons rt .nil)),⟨_,hT2,rfl,_,rfl⟩⟩
   ·rw [upd_ne (Nat.ne_of_lt (Heap.lt_size e))];exact hn
   ·rw [upd_ne (ne_of_none e hTn)];exact e
  ·obtain ⟨z1,z2,⟨a1,a2,a3,z3⟩,z4,z5,z6⟩:=Z
   exact⟨hz2,(hs2.2 _ (nne (by lia))).trans z2,⟨a1,a2,a3,(hs2.2 _ (nne (by lia))).trans z3⟩,z4.keep fun o e=>(hs2.2 _ (nne (by lia))).trans e,z5.keep fun o e=>(hs2.2 _ (nne (by lia))).trans e,z6.keep fun o e=>(hs2.2 _ (nne (by lia))).trans e⟩
  ·have cn:d≠s.heap.objs.size:=by
    simp only [List.mem_cons,List.not_mem_nil,or_false] at hd
    rcases hd with rfl|rfl|rfl|rfl|rfl|rfl <;> exact nne (by lia)
   rw [upd_ne cn];exact (hf d hd).1
 done:=by
  intro X hP hw hK hcl i pins s σ H E I hf st hg
  subst hP hw hK
  obtain ⟨xs,qx,hend⟩:=hg
  obtain ⟨is1,r1,s1,_⟩:=I.sq qx
  have e1:=r1.length
  refine pyNext_zip3_end (I.ok.hd hcl) st ha s1 (by simp;lia) fun h' off=>⟨rfl,?_⟩
  have off2:Off [n+5,n+3,n+4,n,n+1,n+2] s.heap h':=fun d o hd e=>off d o (fun z=>hd (off_mem3 z)) e
  exact Inv.off (s:=s) (t':=s.toks) I hf off2 (I.hok.off (fun d hd=>(hf d hd).1) off2) (fun _ _ _ _ q=>q) fun _ _ q=>q
 self:=fun _ _ _ _ _ st h=>wpAny_pyIter_zip st.z h
noncomputable def rItZ3 (K:PySem.W.Frag) (k1 k2 k3:Bool):List V→Hp→(It→Hp→Prop)→Prop:=fun vs H R=>∃ a b c,vs=[.ref a,.ref b,.ref c]∧(∃ xs,Sq k1 K H a xs)∧(∃ ys,Sq k2 K H b ys)∧(∃ zs,Sq k3 K H c zs)∧R (Itz3 K k1 k2 k3 a b c) H
noncomputable def iZip3 (K:PySem.W.Frag) (k1 k2 k3:Bool) (ta:TA):TI:=fun σ H R=>ta σ H fun vs H1=>rItZ3 K k1 k2 k3 vs H1 R
section
variable {X:Cx}
theorem vals3 {x y z:V} {us:List Value} (r:Vals [x,y,z] us):∃ u v w',us=[u,v,w']∧RelV x u∧RelV y v∧RelV z w':=by
 cases r with
 | cons r1 t=>cases t with
  | cons r2 t=>cases t with
   | cons r3 t=>cases t;exact⟨_,_,_,rfl,r1,r2,r3⟩
theorem pi_zip3 (k1 k2 k3:Bool) {es:List Expr} {kk:Nat} {tpos:Pos} {a b c:Expr} {ta:TA} {p pos:Pos} (hg:Gl X "zip") (hm:X.mg "zip"=none) (ha:PA X [a,b,c] ta) (hs:starEach [a,b,c] X.env=(false,eval a X.env)::starEach [b,c] X.env:=by rfl) (hpl:(backTo pos (starEach [b,c] X.env)).any (·.1)=false:=by rfl) :
  PI X (.Tuple es kk tpos) (.Call (.Name "zip" p) [a,b,c] [] pos) (iZip3 X.K k1 k2 k3 ta):=by
 intro pins s σ H R I h
 refine Call_ (ld_blt I hg hm boot_zip (PyProof.Rows.callWith_type1 (thn (ha pos pins s σ H _ I h) fun us s1 ⟨vs,H1,I1,r1,q1⟩=>?_) hs hpl))
 obtain ⟨a',b',c',e,⟨xs,qx⟩,⟨ys,qy⟩,⟨zs,qz⟩,q⟩:=q1
 subst e
 obtain ⟨u,v,t,rfl,ru,rv,rt⟩:=vals3 r1
 cases ru
 cases rv
 cases rt
 obtain ⟨is1,r1,s1',_⟩:=I1.sq qx
 obtain ⟨is2,r2,s2',_⟩:=I1.sq qy
 obtain ⟨is3,r3,s3',_⟩:=I1.sq qz
 refine callType_new PySem.F.called_zip (by decide) (PySem.F.typeCall_zip_3 _ _ _) (PySem.F.newCall_zip_3 _ _ _) (fun obj=>PySem.F.args_object_init_4 obj _ _ _) PySem.F.entry_zip_new (zip3_made k1 k2 k3 a' b' c' is1.toArray is2.toArray is3.toArray) ⟨s1',s2',s3',?_⟩
 have z1:(s1.heap.push (itObj k1 a')).objs.size=s1.heap.objs.size+1:=Heap.size_push ..
 have z2:((s1.heap.push (itObj k1 a')).push (itObj k2 b')).objs.size=s1.heap.objs.size+2:=by rw [Heap.size_push,z1]
 have z3:(((s1.heap.push (itObj k1 a')).push (itObj k2 b')).push (itObj k3 c')).objs.size=s1.heap.objs.size+3:=by rw [Heap.size_push,z2]
 have z4:((((s1.heap.push (itObj k1 a')).push (itObj k2 b')).push (itObj k3 c')).push { cls:=.type "tuple",data:=.seq #[.ref s1.heap.objs.size,.ref (s1.heap.objs.size+1),.ref (s1.heap.objs.size+2)] }).objs.size=s1.heap.objs.size+4:=by rw [Heap.size_push,z3]
 have z5:(((((s1.heap.push (itObj k1 a')).push (itObj k2 b')).push (itObj k3 c')).push { cls:=.type "tuple",data:=.seq #[.ref s1.heap.objs.size,.ref (s1.heap.objs.size+1),.ref (s1.heap.objs.size+2)] }).push { cls:=.type "tuple",data:=.seq #[.none,.none,.none] }).objs.size=s1.heap.objs.size+5:=by rw [Heap.size_push,z4]
 have g6:(zh6 k1 k2 k3 s1.heap a' b' c').get? (s1.heap.objs.size+5)=some { cls:=.type "zip",data:=.fields #[.none,.bool false,.bool false,.ref (s1.heap.objs.size+3),.ref (s1.heap.objs.size+4)] }:=by rw [← z5];exact Heap.get?_push_size _ rfl
 have g5:(zh6 k1 k2 k3 s1.heap a' b' c').get? (s1.heap.objs.size+4)=some { cls:=.type "tuple",data:=.seq #[.none,.none,.none] }:=by rw [← z4];exact Heap.get?_push_of_some _ (Heap.get?_push_size _ rfl)
 have g4:(zh6 k1 k2 k3 s1.heap a' b' c').get? (s1.heap.objs.size+3)=some { cls:=.type "tuple",data:=.seq #[.ref s1.heap.objs.size,.ref (s1.heap.objs.size+1),.ref (s1.heap.objs.size+2)] }:=by rw [← z3];exact Heap.get?_push_of_some _ (Heap.get?_push_of_some _ (Heap.get?_push_size _ rfl))
 have g3:(zh6 k1 k2 k3 s1.heap a' b' c').get? (s1.heap.objs.size+2)=some (itObj k3 c'):=by rw [← z2];exact Heap.get?_push_of_some _ (Heap.get?_push_of_some _ (Heap.get?_push_of_some _ (Heap.get?_push_size _ (by cases k3 <;> rfl))))
 have g2:(zh6 k1 k2 k3 s1.heap a' b' c').get? (s1.heap.objs.size+1)=some (itObj k2 b'):=by rw [← z1];exact Heap.get?_push_of_some _ (Heap.get?_push_of_some _ (Heap.get?_push_of_some _ (Heap.get?_push_of_some _ (Heap.get?_push_size _ (by cases k2 <;> rfl)))))
 have g1:(zh6 k1 k2 k3 s1.heap a' b' c').get? s1.heap.objs.size=some (itObj k1 a'):=Heap.get?_push_of_some _ (Heap.get?_push_of_some _ (Heap.get?_push_of_some _ (Heap.get?_push_of_some _ (Heap.get?_push_of_some _ (Heap.get?_push_size _ (by cases k1 <;> rfl))))))
 have old:∀ d o,s1.heap.get? d=some o→(zh6 k1 k2 k3 s1.heap a' b' c').get? d=some o:=fun d o x=>Heap.get?_push_of_some _ (Heap.get?_push_of_some _ (Heap.get?_push_of_some _ (Heap.get?_push_of_some _ (Heap.get?_push_of_some _ (Heap.get?_push_of_some _ x)))))
 have Z:Zip3 k1 k2 k3 s1.heap.objs.size a' b' c' 0 .none (zh6 k1 k2 k3 s1.heap a' b' c'):=⟨g6,g4,⟨_,_,_,g5⟩,itObj_at g1,itObj_at g2,itObj_at g3⟩
 show _∧_
 refine⟨⟨_,g6,rfl⟩,wpAny_pyIter_zip Z.z ?_⟩
 refine⟨_,_,_,_,H1,rfl,I1.kept (t':=s1.toks) old,turn_zip3 s1.heap.objs.size a' b' c' s1'.lt s2'.lt s3'.lt,Z,fun d hd=>?_,q⟩
 have hcl:s1.heap.objs.size≤d:=by
  simp only [List.mem_cons,List.not_mem_nil,or_false] at hd
  rcases hd with rfl|rfl|rfl|rfl|rfl|rfl <;> first|exact Nat.le_add_right _ _|exact Nat.le_refl _
 exact I1.fpOk hcl (I1.hok.fresh hcl)
theorem kpi_zip3 (K:PySem.W.Frag) (hK:X.K=K) (k1 k2 k3:Bool) {es:List Expr} {kk:Nat} {tpos:Pos} {a b c:Expr} {ta:TA} {p pos:Pos} (hg:Gl X "zip") (hm:X.mg "zip"=none) (ha:PA X [a,b,c] ta) (hs:starEach [a,b,c] X.env=(false,eval a X.env)::starEach [b,c] X.env:=by rfl) (hpl:(backTo pos (starEach [b,c] X.env)).any (·.1)=false:=by rfl) :
  PI X (.Tuple es kk tpos) (.Call (.Name "zip" p) [a,b,c] [] pos) (iZip3 K k1 k2 k3 ta):=hK ▸ pi_zip3 k1 k2 k3 hg hm ha hs hpl
end
section
variable {D:Ends} {σ:St} {H:Hp} {K:PySem.W.Frag}
theorem r_izip3 {k1 k2 k3:Bool} {ts:TA} {R:It→Hp→Prop} (h:ts σ H fun vs H1=>rItZ3 K k1 k2 k3 vs H1 R):iZip3 K k1 k2 k3 ts σ H R:=h
theorem r_isz3 {k1 k2 k3:Bool} {a b c:Addr} {xs ys zs:List V} {R:It→Hp→Prop} (e1:Sq k1 K H a xs) (e2:Sq k2 K H b ys) (e3:Sq k3 K H c zs) (h:R (Itz3 K k1 k2 k3 a b c) H):rItZ3 K k1 k2 k3 [.ref a,.ref b,.ref c] H R:=⟨a,b,c,rfl,⟨_,e1⟩,⟨_,e2⟩,⟨_,e3⟩,h⟩
end
end L2
namespace L2
open PySem PySem.Spec PyProof.Rows
noncomputable def rm (H:Hp) (l:Addr):Hp:=fun b=>if b=l then none else H b
theorem rm_at {H:Hp} {l:Addr}:rm H l l=none:=by unfold rm;rw [if_pos rfl]
theorem rm_ne {H:Hp} {l b:Addr} (h:b≠l):rm H l b=H b:=by unfold rm;rw [if_neg h]
theorem rm_same {H:Hp} {l:Addr}:Same (rm H l) H:=fun b o e=>by
 by_cases h:b=l
 ·subst h;rw [rm_at] at e;cases e
 ·rw [rm_ne h] at e;exact e
theorem rm_sqT {K:PySem.W.Frag} {H:Hp} {l a:Addr} {xs ys:List V} (h:SqT K H a xs) (hl:H l=some (.lst ys)):SqT K (rm H l) a xs:=by
 have ne:∀ {o},H a=some o→(∀ zs,o≠.lst zs)→a≠l:=fun {o} e n z=>by subst z;rw [hl] at e;exact n _ (Option.some.inj e).symm
 rcases h with (h|⟨o,h⟩)|h
 ·exact .inl (.inl (by rw [rm_ne (ne h fun _ z=>nomatch z)];exact h))
 ·exact .inl (.inr ⟨o,by rw [rm_ne (ne h fun _ z=>nomatch z)];exact h⟩)
 ·exact .inr h
end L2
namespace L2
open PySem PySem.Spec PyProof.Rows PySem.W
structure XCls (K:Frag) (C:Addr):Prop where
 ga:findIn K (.ref C) "__getattribute__"=some (some (.builtin "BaseException.__getattribute__"))
 gt:findIn K (.ref C) "__getattr__"=some none
 fc:findObj K C none "__class__"=some (.bind (.builtin "getset_descriptor.__get__") (.builtin "object.__class__"))
 ob:mroIn K C (.type "object")=some true
 be:subIn K (.ref C) (.type "BaseException")=some true
 cl:(clsIn K C).isSome=true
end L2
namespace L2
open PySem PySem.Spec PyProof.Rows PySem.W
section
variable {M:Model} {A:Around} {E:Value→Shared→Prop} {s:Shared}
theorem entry_core {base:Heap} {env:Env} {outer:List Env} {L e:Addr} {oe:Obj} {vs:Array Value} {head:Value} {hadNext:Bool} {Q:Unit→Shared→Prop}
  (hfr:A.frames=some (env::outer)) (hl:s.heap.FunFrames base (env::outer)) (hf:env.frame=some L)
  (he:s.heap.get? e=some oe) (hd:oe.data=.fields vs) (hsz:1<vs.size)
  (h:∀ h' T,(∀ b o,b≠e→b∉frs (env::outer)→s.heap.get? b=some o→h'.get? b=some o)→(∀ b o,b≠e→s.heap.get? b=some o→∃ sl,h'.get? b=some { o with slots:=sl }) →
   s.heap.get? T=none→T≠e→h'.get? e=some (oe.mapFields (·.setIfInBounds 1 (.ref T)))→(∃ oT ts,h'.get? T=some oT∧oT.data=.fields ts∧ts[3]?=some .none)→Q () { s with heap:=h' }) :
  wpAny M A (do let a ← frameOf env;let pl ← entryPlaceOf L hadNext;let b ← EntryCells.newEntry head a .none (rawInt L) .none pl;setField (.ref e) 1 b) (fun _ s'=>wpAny M A (setFlight (.ref e) none) Q E s') E s:=by
 have hene:e∉(env::outer).filterMap (·.frame):=fun hm=>by
  obtain ⟨_,o,ho,hnf⟩:=hl.mem hm
  rw [he] at ho;injection ho with ho;subst ho;exact hnf vs hd
 refine wpAny_bind (wpAny_frameOf_fun hfr hl hf fun h₁ hs₁=>?_)
 refine wpAny_bind (wpAny_entryPlaceOf fun pl hpl=>?_)
 unfold EntryCells.newEntry newFields
 refine wpAny_bind (wpAny_newObj_type ?_ (hpl.sizeOk5 _ _ _ _ _))
 have he₁:h₁.get? e=some oe:=(hs₁.2.1 e hene).trans he
 have he₂:=Heap.get?_push_of_some (h:=h₁) { cls:=.type "traceback",dict:=none,data:=.fields ([head,.ref L,.none,rawInt L,.none]++(if pl.isEmpty then List.replicate 6 Value.none else pl)).toArray } he₁
 refine wpAny_setField he₂ hd hsz ?_
 have hTe:h₁.objs.size≠e:=Nat.ne_of_gt (Heap.lt_size he₁)
 have hd₃:=Obj.data_mapFields hd (·.setIfInBounds 1 (Value.ref h₁.objs.size))
 have he₃:=Heap.get?_update_self (Obj.mapFields (·.setIfInBounds 1 (Value.ref h₁.objs.size))) he₂ (Obj.isFreed_of_fields hd₃)
 have hT₃:=(Heap.get?_update_other (h₁.push { cls:=.type "traceback",dict:=none,data:=.fields ([head,.ref L,.none,rawInt L,.none]++(if pl.isEmpty then List.replicate 6 Value.none else pl)).toArray })
  (Obj.mapFields (·.setIfInBounds 1 (Value.ref h₁.objs.size))) (Ne.symm hTe)).trans (Heap.get?_push_size h₁ rfl)
 unfold setFlight
 refine wpAny_bind (wpAny_field he₃ hd₃ (x:=.ref h₁.objs.size) (by simp [hsz]) ?_)
 rw [if_pos (show (Value.ref h₁.objs.size != Value.none)=true from by simp)]
 have keep:∀ b o,b≠e→h₁.get? b=some o →
   (((h₁.push { cls:=.type "traceback",dict:=none,data:=.fields ([head,.ref L,.none,rawInt L,.none]++(if pl.isEmpty then List.replicate 6 Value.none else pl)).toArray }).update e (Obj.mapFields (·.setIfInBounds 1 (Value.ref h₁.objs.size)))).update h₁.objs.size
    (Obj.mapFields (·.setIfInBounds 3 ((none:Option Addr).elim Value.none fun f=>rawInt f)))).get? b=some o:=fun b o hbe hb=>by
  have hbT:h₁.objs.size≠b:=Nat.ne_of_gt (Heap.lt_size hb)
  rw [Heap.get?_update_other _ _ hbT,Heap.get?_update_other _ _ (Ne.symm hbe)]
  exact Heap.get?_push_of_some _ hb
 refine wpAny_setField hT₃ rfl (by simp only [List.size_toArray,List.length_append,List.length_cons,List.length_nil] <;> lia) (h _ h₁.objs.size (fun b o hbe hbf hb=>keep b o hbe ((hs₁.2.1 b hbf).trans hb)) (fun b o hbe hb=>?_) (Heap.get?_none_of_le (by rw [hs₁.1];exact Nat.le_refl _)) hTe ?_ ?_)
 ·obtain ⟨sl,hs⟩:=hs₁.2.2 b o hb
  exact⟨sl,keep b _ hbe hs⟩
 ·rw [Heap.get?_update_other _ _ hTe];exact he₃
 ·exact⟨_,_,Heap.get?_update_self _ hT₃ (Obj.isFreed_of_fields (Obj.data_mapFields rfl _)),Obj.data_mapFields rfl _,by first|(simp;done)|(rcases hpl with rfl|⟨_,_,_,_,_,_,_,rfl⟩ <;> simp)⟩
noncomputable def HeadOk (h:Heap) (e:Addr) (vs:Array Value):Option Addr→Prop
 | none=>vs[1]?=some .none
 | some T=>vs[1]?=some (.ref T)∧T≠e∧∃ oT ts,h.get? T=some oT∧oT.data=.fields ts∧ts[3]?=some .none
theorem note_core {base:Heap} {env:Env} {outer:List Env} {L e:Addr} {oe:Obj} {vs:Array Value} {T0:Option Addr} {Q:Unit→Shared→Prop}
  (hfr:A.frames=some (env::outer)) (hl:s.heap.FunFrames base (env::outer)) (hf:env.frame=some L)
  (he:s.heap.get? e=some oe) (hd:oe.data=.fields vs) (hh:HeadOk s.heap e vs T0)
  (h:∀ h' T,(∀ b o,b≠e→some b≠T0→b∉frs (env::outer)→s.heap.get? b=some o→h'.get? b=some o)→(∀ b o,b≠e→some b≠T0→s.heap.get? b=some o→∃ sl,h'.get? b=some { o with slots:=sl }) →
   s.heap.get? T=none→T≠e→h'.get? e=some (oe.mapFields (·.setIfInBounds 1 (.ref T)))→(∃ oT ts,h'.get? T=some oT∧oT.data=.fields ts∧ts[3]?=some .none)→Q () { s with heap:=h' }) :
  wpAny M A (noteFrame (.ref e) env) (fun _ s'=>wpAny M A (setFlight (.ref e) none) Q E s') E s:=by
 unfold noteFrame
 simp only [hf]
 cases T0 with
 | none =>
  have h1:vs[1]?=some .none:=hh
  refine wpAny_bind (wpAny_field he hd h1 ?_)
  rw [if_neg (by decide)]
  exact entry_core hfr hl hf he hd (Array.getElem?_eq_some_iff.mp h1).1 fun h' T k1 k2 k3 k4 k5 k6=>h h' T (fun b o b1 _ b3 b4=>k1 b o b1 b3 b4) (fun b o b1 _ b3=>k2 b o b1 b3) k3 k4 k5 k6
 | some T =>
  obtain ⟨h1,hTe,oT,ts,hT,hdT,h3⟩:=hh
  refine wpAny_bind (wpAny_field he hd h1 ?_)
  rw [if_pos (show (Value.ref T != Value.none)=true from by simp)]
  refine wpAny_bind (wpAny_field hT hdT h3 ?_)
  rw [if_neg (show ¬ ((Value.none == rawInt L)=true) from by simp [rawInt])]
  refine wpAny_bind (wpAny_setField hT hdT (Array.getElem?_eq_some_iff.mp h3).1 ?_)
  have other:∀ b,b≠T→(s.heap.update T (Obj.mapFields (·.setIfInBounds 3 Value.none))).get? b=s.heap.get? b:=fun b hb=>Heap.get?_update_other _ _ (Ne.symm hb)
  have noRecord:∀ b o,s.heap.get? b=some o→(∀ vs,o.data≠.fields vs)→b≠T:=fun b o hb hnf q=>by
   rw [q,hT] at hb;injection hb with hb;subst hb;exact hnf ts hdT
  have hT2:=Heap.get?_update_self (Obj.mapFields (·.setIfInBounds 3 Value.none)) hT (Obj.isFreed_of_fields (Obj.data_mapFields hdT _))
  refine entry_core hfr (hl.of_keeps fun b o hb hnf=>⟨o,(other b (noRecord b o hb hnf)).trans hb,rfl⟩) hf ((other e (Ne.symm hTe)).trans he) hd (Array.getElem?_eq_some_iff.mp h1).1 fun h' T' k1 k2 k3 k4 k5 k6=>?_
  refine h h' T' (fun b o b1 b2 b3 b4=>k1 b o b1 b3 ((other b fun z=>b2 (by rw [z])).trans b4)) (fun b o b1 b2 b4=>k2 b o b1 ((other b fun z=>b2 (by rw [z])).trans b4)) ?_ k4 k5 k6
  by_cases hq:T'=T
  ·rw [hq,hT2] at k3;cases k3
  ·rw [other T' hq] at k3;exact k3
end
end L2
namespace L2
open PySem PySem.Spec PyProof.Rows PySem.W
theorem ObjOk.there {P:Program} {w:World} {H:Hp} {h:Heap} {a:Addr} {o:HO} (x:ObjOk P w H h a o):∃ ob,h.get? a=some ob:=by
 cases o with
 | lst xs=>obtain ⟨_,_,_,_,e⟩:=x;exact⟨_,e⟩
 | tup xs=>obtain ⟨_,_,_,ob,e,_⟩:=x;exact⟨_,e⟩
 | dK kvs=>obtain ⟨_,_,_,_,o,_,_,e,_⟩:=x;exact⟨_,e⟩
 | dT kvs=>obtain ⟨_,_,_,_,o,_,_,e,_⟩:=x;exact⟨_,e⟩
 | set S n=>obtain ⟨o,_,_,_,e,_⟩:=x;exact⟨_,e⟩
 | ins C dx fs=>obtain ⟨_,_,_,e,_⟩:=x;exact⟨_,e⟩
 | own y=>obtain ⟨_,e⟩:=x;exact⟨_,e⟩
 | xd fs=>obtain ⟨_,⟨_,_,_,e,_⟩,_⟩:=x;exact⟨_,e⟩
 | rng lo hi=>obtain ⟨_,_,_,e⟩:=x;exact⟨_,e⟩
 | frz ob u=>obtain ⟨e,_⟩:=x;exact⟨_,e⟩
 | tbl ps=>exact⟨_,(show h.get? a=some _ from x)⟩
 | met f y=>exact⟨_,(show h.get? a=some _ from x)⟩
 | ext φ=>obtain ⟨_,⟨_,e⟩,_⟩:=x;exact⟨_,e⟩
theorem HOk.free {P:Program} {w:World} {H:Hp} {h:Heap} {a:Addr} (x:HOk P w H h) (e:h.get? a=none):H a=none:=by
 cases q:H a with
 | none=>rfl
 | some o=>obtain ⟨ob,z⟩:=(x a o q).there;rw [e] at z;cases z
noncomputable def Exc (h:Heap) (H:Hp) (h0:Heap) (ps:List (Addr×Obj)) (a C:Addr):Prop:=∃ oe vs T0,h.get? a=some oe∧oe.cls=.ref C∧oe.dict=none∧oe.data=.fields vs∧1<vs.size∧HeadOk h a vs T0∧H a=none∧(h0.get? a=none∧∀ p∈ps,p.1≠a) ∧
 ∀ T,T0=some T→H T=none∧h0.get? T=none∧∀ p∈ps,p.1≠T
noncomputable def CX1 (P:Program) (w:World):CXT:=fun outer H s E e s'=>∃ a C H',e=.ref a∧s'.os=s.os∧AllBare s'.gens∧Un (frs outer) [] H H' s.heap s'.heap∧HOk P w H' s'.heap∧Exc s'.heap H' s.heap [] a C∧E (.ref C) none H'
noncomputable abbrev EXT:=Addr→St→Hp→Prop
noncomputable def XW (X:Cx) (EX:EXT):Value→Shared→Prop:=fun e s'=>∃ a C σ' H',e=.ref a∧Inv X.nox [] σ' H' s'∧Exc s'.heap H' X.s₀.heap X.pn a C∧EX C σ' H'
theorem mapFields_dict (o:Obj) (f:Array Value→Array Value):(o.mapFields f).dict=o.dict:=by
 unfold Obj.mapFields;split <;> rfl
theorem leaves {P:Program} {w:World} {K:PySem.W.Frag} {mg:Str→Option Value} {base:Heap} {N:List Str} {qual:Str} {scope:Scope} {f:Addr} {cd:Value} {A:Around} {outer:List Env} {s:Shared} {H:Hp} {E:XK} {e:Value} {s':Shared}
  (h:XW (cxOf (CX1 P w) P w K mg base N qual scope f cd A outer s H E) (fun C _ H'=>E (.ref C) none H') e s'):(cxOf (CX1 P w) P w K mg base N qual scope f cd A outer s H E).xe e s':=by
 obtain ⟨a,C,σ',H',rfl,I,⟨oe,vs,T0,he,hc,hdi,hd,hsz,hh,hHa,⟨h0a,_⟩,hT⟩,hE⟩:=h
 have h0a':s.heap.get? a=none:=h0a
 have hT':∀ T,T0=some T→H' T=none∧s.heap.get? T=none:=fun T z=>⟨(hT T z).1,(hT T z).2.1⟩
 show wpAny (model P w) (A.deeper (envOfC qual scope s.heap.objs.size f cd)) (leaving (envOfC qual scope s.heap.objs.size f cd) (.ref a)) _ _ s'
 unfold leaving
 refine wpAny_bind (note_core (L:=s.heap.objs.size) I.ok.frames I.stack rfl he hd hh fun h' T k1 k2 k3 k4 k5 k6=>?_)
 have ne:∀ b o,s.heap.get? b=some o→b≠a∧some b≠T0∧b≠s.heap.objs.size:=fun b o q=>⟨fun z=>(by rw [z,h0a'] at q;cases q),fun z=>(by rw [(hT' b z.symm).2] at q;cases q),Nat.ne_of_lt (Heap.lt_size q)⟩
 have nfr:∀ b o,s.heap.get? b=some o→b∉frs outer→b∉frs (envOfC qual scope s.heap.objs.size f cd::outer):=fun b o q hb z=>by
  rcases List.mem_cons.mp (I.stkSub b z) with r|r
  ·exact (ne b o q).2.2 r
  ·exact hb r
 have off:Off (a::(T0.toList++frs (envOfC qual scope s.heap.objs.size f cd::outer))) s'.heap h':=fun b o hb q=>by
  simp only [List.mem_cons,List.mem_append,not_or] at hb
  exact k1 b o hb.1 (fun z=>hb.2.1 (by rw [← z];simp)) hb.2.2 q
 refine⟨a,C,H',rfl,I.os,I.bare,⟨fun b o q n hb hx=>?_,fun b o q n hb hx=>?_,fun b o q n hx=>I.base.free b o q n hx,fun b o q hx=>?_,I.base.tups,I.base.frzs,I.base.tbls⟩,I.hok.off (fun b hb=>?_) off,?_,hE⟩
 ·exact k1 b o (ne b o q).1 (ne b o q).2.1 (nfr b o q hb) (I.base.keep b o q n hb hx)
 ·obtain ⟨sl,q1⟩:=I.base.slot b o q n hb hx
  obtain ⟨sl',q2⟩:=k2 b _ (ne b o q).1 (ne b o q).2.1 q1
  exact⟨sl',q2⟩
 ·obtain ⟨o',q1⟩:=I.base.there b o q hx
  obtain ⟨sl',q2⟩:=k2 b _ (ne b o q).1 (ne b o q).2.1 q1
  exact⟨_,q2⟩
 ·simp only [List.mem_cons,List.mem_append] at hb
  rcases hb with rfl|hb|hb
  ·exact hHa
  ·cases T0 with
   | none=>simp at hb
   | some T1 =>
    simp only [Option.toList_some,List.mem_singleton] at hb
    rw [hb];exact (hT' T1 rfl).1
  ·exact I.stkFree b hb
 ·refine⟨_,_,some T,k5,(Obj.cls_mapFields _ _).trans hc,(mapFields_dict _ _).trans hdi,Obj.data_mapFields hd _,by simpa using hsz,⟨by simp [hsz],k4,k6⟩,hHa,⟨h0a',fun _ z=>nomatch z⟩,fun T' e=>?_⟩
  cases e
  refine⟨I.hok.free k3,?_,fun _ z=>nomatch z⟩
  cases q:s.heap.get? T with
  | none=>rfl
  | some o =>
   obtain ⟨o',q1⟩:=I.base.there T o q (by show T∉([]:List Addr);simp)
   rw [k3] at q1;cases q1
theorem PSs.xe {X:Cx} {E:Value→Shared→Prop} {st:List Stmt} {t:TS} (h:PSs (X.wish E) st t) (k:∀ e s,E e s→X.xe e s):PSs X st t:=fun pins s σ H D I hw =>
 wpAny_mono (h pins s σ H D (I.wish _) hw) (fun _ _ z=>z.unwish) k
end L2
namespace L2
open PySem PySem.Spec PyProof.Rows PySem.W
section
variable {X:Cx} {pins:List (Addr×Obj)} {σ:List (Option V)} {H H':Hp} {s:Shared} {h':Heap}
theorem Inv.step2 {t':Nat} {ch:List Addr} (I:Inv X pins σ H s)
  (hch:∀ b∈ch,X.s₀.heap.get? b=none∧b≠X.env.locals∧(∀ x c,X.env.cells.lookup x=some c→c≠b)∧∀ p∈X.pn++pins,p.1≠b)
  (keep:∀ b o,b≠X.env.locals→b∉X.fs→b∉ch→s.heap.get? b=some o→H b=none→h'.get? b=some o)
  (slot:∀ b o,b≠X.env.locals→b∈X.fs→b∉ch→s.heap.get? b=some o→H b=none→∃ sl,h'.get? b=some { o with slots:=sl }) (free:∀ b o,b∉ch→s.heap.get? b=some o→H b=none→H' b=none)
  (there:∀ b o,b∉ch→s.heap.get? b=some o→∃ o',h'.get? b=some o')
  (tups:∀ b xs,H b=some (.tup xs)→H' b=some (.tup xs)) (frzs:∀ b o u,H b=some (.frz o u)→H' b=some (.frz o u)) (tbls:∀ b ps,H b=some (.tbl ps)→∃ more,H' b=some (.tbl (ps++more)))
  (ns:∀ m,s.heap.Ns X.env.locals m→h'.Ns X.env.locals m) (hok:HOk X.prog X.w H' h') :
  Inv X pins σ H' { s with heap:=h',toks:=t' }:=by
 have neL:∀ b o,X.s₀.heap.get? b=some o→b≠X.env.locals:=fun b o e=>Nat.ne_of_lt (Nat.lt_of_lt_of_le (Heap.lt_size e) I.ok.above)
 have neC:∀ b o,X.s₀.heap.get? b=some o→b∉ch:=fun b o e hb=>by rw [(hch b hb).1] at e;cases e
 have cellK:∀ x c,X.env.cells.lookup x=some c→∀ v,s.heap.IsCell c v→h'.IsCell c v:=fun x c e v ⟨o,ho,hd⟩=>by
  have nch:c∉ch:=fun z=>(hch c z).2.2.1 x c e rfl
  by_cases hc:c∈X.fs
  ·obtain ⟨sl,q⟩:=slot c o (I.cne x c e) hc nch ho (I.freeC x c e)
   exact⟨_,q,hd⟩
  ·exact⟨o,keep c o (I.cne x c e) hc nch ho (I.freeC x c e),hd⟩
 refine⟨I.ok,I.os,I.bare,⟨fun b o e n hb hx=>?_,fun b o e n hb hx=>?_,fun b o e n hx=>?_,fun b o e hx=>?_,fun b xs e=>tups b xs (I.base.tups b xs e),fun b o xs e=>frzs b o xs (I.base.frzs b o xs e),fun b ps e=>?_⟩,?_,fun x c e=>?_,?_,fun x c e=>?_,fun p hp=>?_,hok,I.len⟩
 ·exact keep b o (neL b o e) hb (neC b o e) (I.base.keep b o e n hb hx) (I.base.free b o e n hx)
 ·obtain ⟨sl,e1⟩:=I.base.slot b o e n hb hx
  obtain ⟨sl',e2⟩:=slot b _ (neL b o e) hb (neC b o e) e1 (I.base.free b o e n hx)
  exact⟨sl',e2⟩
 ·obtain ⟨o',e1⟩:=I.base.there b o e hx
  exact free b o' (neC b o e) e1 (I.base.free b o e n hx)
 ·obtain ⟨o',e1⟩:=I.base.there b o e hx
  exact there b o' (neC b o e) e1
 ·obtain ⟨m1,e1⟩:=I.base.tbls b ps e
  obtain ⟨m2,e2⟩:=tbls b _ e1
  exact⟨m1++m2,by rw [e2,Array.append_assoc]⟩
 ·obtain ⟨m,hn,hl⟩:=I.loc
  refine⟨m,ns m hn,fun i x v e1 e2 e3=>?_⟩
  obtain ⟨u,r,l⟩:=hl i x v e1 e2 e3
  refine⟨u,r,?_⟩
  rcases l with l|⟨k,c,e,z⟩
  ·exact .inl l
  ·exact .inr ⟨k,c,e,cellK x c e _ z⟩
 ·obtain ⟨v,z⟩:=I.cell x c e
  exact⟨v,cellK x c e v z⟩
 ·obtain ⟨m,⟨o,_,_,ho,_⟩,_⟩:=I.loc
  exact free _ o (fun z=>(hch _ z).2.1 rfl) ho I.free
 ·obtain ⟨v,o,ho,hd⟩:=I.cell x c e
  exact free c o (fun z=>(hch c z).2.2.1 x c e rfl) ho (I.freeC x c e)
 ·obtain ⟨e,n,ne,nf,d⟩:=I.pin p hp
  have nch:p.1∉ch:=fun z=>(hch p.1 z).2.2.2 p hp rfl
  exact⟨keep p.1 p.2 ne nf nch e n,free p.1 p.2 nch e n,ne,nf,d⟩
end
theorem own_obj {K:Frag} {h:Heap} {C:Addr} {bmB:List Value} {newId:String} (X:K.In h) (q:excIn K C bmB newId=true) :
  ∃ bm N nm q bs hdct sn sub ab col dd k0 k1 k2 k3 k5 mN,h.get? C=some (excClassObj nm q C N bs bm hdct sn sub ab col dd k0 k1 k2 k3 k5 newId)∧h.Ns N mN∧mN "__init__"=none∧OwnTail h bmB bm:=by
 unfold excIn at q
 split at q
 ·rename_i dd cd sl ho
  split at q
  ·rename_i C' bm k0 k1 k2 k3 n k5 hm hs
   simp only [Bool.and_eq_true,beq_iff_eq,Bool.not_eq_true'] at q
   obtain ⟨⟨⟨⟨⟨rfl,rfl⟩,hdel⟩,ht⟩,hok⟩,hni⟩:=q
   obtain ⟨nm,bs,mro,ns,qn,hd,sn,sub,ab,col,del⟩:=cd
   dsimp only at hm hdel hok hni
   subst hm hdel
   have hsl:sl=#[k0,k1,k2,k3,some (.builtin n),k5]:=by
    obtain ⟨l⟩:=sl
    simp only at hs
    rw [hs]
   subst hsl
   exact⟨bm,ns,nm,qn,bs,hd,sn,sub,ab,col,dd,k0,k1,k2,k3,k5,_,X _ _ ho,.of_isNs (isNs_of_in X hok),nsMap_none_of_in X hok hni,tail_of_in X ht⟩
  ·cases q
 ·cases q
section
variable {X:Cx} {EX:EXT}
noncomputable def tRaise (EX:EXT) (C:Addr) (ta:TA):TS:=fun _ σ H=>ta σ H fun vs H1=>vs.length≤1000∧EX C σ H1
theorem ps_raise {x:Str} {np cpos pos:Pos} {e0:Expr} {rest:List Expr} {C:Addr} {B Bn newId nid initId inN:String} {bm bmN:List Value} {ta:TA} (q:excIn X.K C bm newId=true) (Fn:ExcBaseFacts Bn newId inN bmN) (hBn:bm.contains (.type Bn)=true)
  (FB:ExcBaseFacts B nid initId bm) (hc:X.calm=true) (hX:∀ e s',XW X EX e s'→X.xe e s') (hex:X.ex=[]) (hg:Gl X x) (hm:X.mg x=some (.ref C)) (ha:PA X (e0::rest) ta)
  (he:starEach (e0::rest) X.env=(false,eval e0 X.env)::starEach rest X.env:=by rfl) (hpl:(backTo cpos (starEach rest X.env)).any (·.1)=false:=by rfl) (hdb:(x == ("__debug__":Str))=false:=by decide) :
  PS X (.Raise (some (.Call (.Name x np) (e0::rest) [] cpos)) none pos) (tRaise EX C ta):=by
 intro pins s σ H D I h
 obtain ⟨bm',N,nm,qn,bs,hdct,sn,sub,ab,col,dd,k0,k1,k2,k3,k5,mN,hC,hN,hni,T⟩:=own_obj I.ok.mod.kin q
 refine wpAny_Raise_call_subU (C:=C) (nm:=nm) (q:=qn) (N:=N) (bs:=bs) (bm:=bm') (hdct:=hdct) (sn:=sn) (sub:=sub) (ab:=ab) (col:=col) (dd:=dd) (k0:=k0) (k1:=k1) (k2:=k2) (k3:=k3) (k5:=k5)
  Fn hBn FB (mN:=mN) (T.hasType FB.hasBase) (I.ok.hd hc) (by rw [he];show (false || (backTo cpos (starEach rest X.env)).any (·.1))=false;rw [hpl];rfl) hni (ld_glob I hg hm ⟨rfl,?_⟩ hdb)
 have hh:=ha cpos pins s σ H _ I h
 rw [he] at hh ⊢
 refine Calls.evalArgs_plain (wpAny_mono hh (fun us s2 z=>?_) fun _ _ y=>y)
 obtain ⟨vs,H1,I1,r,hl,hE⟩:=z
 refine⟨rfl,by rw [← r.length];exact Nat.le_of_lt (small1000 hl),I1.bk _ _ hC,hN.keeps I1.bk,T.keeps I1.bk,fun h' e hm'=>hX _ _ ?_⟩
 obtain ⟨t,het,htn,htt⟩:=hm'.there
 have nw:X.s₀.heap.get? e=none:=by
  cases q:X.s₀.heap.get? e with
  | none=>rfl
  | some o =>
   obtain ⟨o',q1⟩:=I1.base.there e o q (by rw [hex];simp)
   rw [hm'.new] at q1;cases q1
 have np:∀ p∈X.pn,p.1≠e:=fun p hp z=>by
  have:=(I1.pin p (List.mem_append_left _ hp)).1
  rw [z,hm'.new] at this;cases this
 exact⟨e,C,σ,H1,rfl,((I1.kept (t':=s2.toks) hm'.keeps).pins_of fun p hp=>absurd hp (by simp)).wish _,⟨_,_,none,het,rfl,rfl,rfl,by simp,rfl,I1.hok.free hm'.new,⟨nw,np⟩,fun T z=>nomatch z⟩,hE⟩
end
end L2
namespace L2
open PySem PySem.Spec PyProof.Rows PySem.W
structure HCls (K:Frag) (D:Addr):Prop where
 ty:typeIn K (.ref D)=some (.type "type")
 cl:(clsIn K D).isSome=true
 be:subIn K (.ref D) (.type "BaseException")=some true
end L2
namespace L2
open PySem PySem.Spec PyProof.Rows PySem.W
section
variable {K:Frag} {D:Ends} {σ:St} {H:Hp} {Q:VK} {EX:EXT}
theorem r_raise {C:Addr} {ts:TA} (h:ts σ H fun vs H1=>vs.length≤1000∧EX C σ H1):tRaise EX C ts D σ H:=h
end
end L2
namespace L2
open PySem PySem.Spec PyProof.Rows PySem.W
section
variable {K:Frag} {C D:Addr} {cd:ClassData}
theorem XCls.mk' (q1:findIn K (.ref C) "__getattribute__"=some (some (.builtin "BaseException.__getattribute__"))) (q2:findIn K (.ref C) "__getattr__"=some none) (q3:clsIn K C=some cd)
  (q4:findIn K (.ref C) "__class__"=some (some (.builtin "object.__class__"))) (q5:specialIn K (.builtin "object.__class__") "__get__"=some (some (.builtin "getset_descriptor.__get__"))) (q6:takesIn K (.builtin "object.__class__")=some true)
  (q7:mroIn K C (.type "object")=some true) (q8:subIn K (.ref C) (.type "BaseException")=some true):XCls K C :=
 ⟨q1,q2,by unfold findObj;rw [q3,Option.bind_some,q4,Option.bind_some];simp [q5,q6],q7,q8,by rw [q3];rfl⟩
theorem HCls.mk' (q1:typeIn K (.ref D)=some (.type "type")) (q2:clsIn K D=some cd) (q3:subIn K (.ref D) (.type "BaseException")=some true):HCls K D:=⟨q1,by rw [q2];rfl,q3⟩
end
end L2
namespace L2
open PySem PySem.Spec PyProof.Rows
section
variable {X:Cx}
theorem ps_setC {y:Str} {py spos:Pos} {k:Nat} {tg iter elt:Expr} {ifs:List Expr} {scope:Scope} {pos:Pos} {N:List Str} {ix:List (Option Nat)} {wi:TI} {g:TG} {tt:TT} {te:TE}
  (hN:X.N.Nodup) (hk0:X.N[k]?=some y) (hy:Loc X.env.scope y) (hc:X.calm=true) (hi:PI X tg iter wi)
  (hg:∀ pins C s H fp,PG (compCx X pins N scope C s H fp) tg g)
  (ht:∀ pins C s H fp,PTs (compCx X pins N scope C s H fp) ifs tt)
  (he:∀ pins C s H fp,PE (compCx X pins N scope C s H fp) elt te)
  (hk:scope.kind=.function) (hcell:∀ y∈scope.names,y.2≠.cell) (hnames:∀ y∈scope.names,y.2=.local→scope.names.lookup y.1=some .local)
  (hfr0:(scope.names.all fun y=>!(y.2 == NameKind.free) || (X.env.cells.lookup y.1).isSome)=true) (hix:IxOk X scope N ix)
  (hs:∀ x,foldedSetIterable iter X.env x=pure x:=by intro _;rfl)
  (hsw:swapsWith (.ListComp elt [⟨tg,iter,ifs,0⟩] scope pos) (some (.Name y py)) spos.line X.env=pure true:=by rfl)
  (hf:X.fn y=true∨X.env.scope.names.lookup y=some .local:=by first|exact .inl rfl|exact .inr rfl|assumption) :
  PS X (.Assign [.Name y py] (.ListComp elt [⟨tg,iter,ifs,0⟩] scope pos) spos) (tAsg (tComp ix wi g tt te) (gName k)):=by
 intro pins s σ H D I h
 replace h:wi σ H fun J H1=>CompGoal ix g tt te σ (fun x H1=>D.nx (σ.set k (some x)) H1) J H1:=h
 have hfr:∀ y∈scope.names,y.2=.free→(X.env.cells.lookup y.1).isSome=true:=fun y hy e=>by
  have z:=List.all_eq_true.mp hfr0 y hy
  rw [e] at z
  simpa using z
 have hfr':∀ p∈scope.names,p.2=.free→∃ c,X.env.cells.lookup p.1=some c:=fun p hp e=>Option.isSome_iff_exists.mp (hfr p hp e)
 have clsub:∀ x c,(clOf X.env.cells scope.names []).lookup x=some c→X.env.cells.lookup x=some c:=clOf_sub (fun x c q=>by simp at q)
 have clhas:∀ x,scope.names.lookup x=some .free→∃ c,(clOf X.env.cells scope.names []).lookup x=some c:=fun x hx=>by
  have hm:=PySem.mem_of_lookup hx
  exact Option.isSome_iff_exists.mp (clOf_has (.inr ⟨hm,hfr _ hm rfl⟩))
 rw [exec_Assign_Name_used _ _ _ _ hsw]
 refine wpAny_bind (wpAny_standAt (wpAny_bind ?_))
 show wpAny _ X.A (do let _ ← comprehension (.ListComp elt [⟨tg,iter,ifs,0⟩] scope pos) scope X.env _ (newList []) false (eval iter X.env) (some (assign (.Name y py) X.env))) _ _ s
 refine wpAny_bind (wpAny_mono (wpAny_comprehension_free (use:=some (assign (.Name y py) X.env)) (Q:=fun _ s'=>SP X pins D .next s') rfl hs (closure_eq hfr') hk hnames (thn (hi pins s σ H _ I h) fun v s1 h1=>thn h1 fun itv s2 h2=>?_)) (fun _ s' hq=>wpAny_pure (wpAny_pure hq)) fun _ _ e=>e)
 obtain ⟨it,fp,tn,J,H2,e,I2,T,st2,f2,hW⟩:=h2
 subst e
 have hfree2:H2 s2.heap.objs.size=none:=I2.hok.fresh (Nat.le_refl _)
 obtain ⟨W,⟨m0,w0⟩,turn⟩:=hW s2.heap.objs.size hfree2
 refine wpAny_newObj_type ?_
 have I3:Inv X pins σ (upd H2 s2.heap.objs.size (.lst [])) { s2 with heap:=s2.heap.push { cls:=.type "list",data:=.seq ([]:List Value).toArray } }:=I2.lnew (its:=[]) (t':=s2.toks) .nil (Nat.zero_le _)
 have f3:∀ b∈fp,FpOk X pins (upd H2 s2.heap.objs.size (.lst [])) b:=fun b hb=>by
  refine⟨?_,(f2 b hb).2⟩
  obtain ⟨o,eo,_⟩:=T.obj _ _ st2 b hb
  rw [upd_ne (Nat.ne_of_lt (Heap.lt_size eo))]
  exact (f2 b hb).1
 have st3:tn 0 (s2.heap.push { cls:=.type "list",data:=.seq ([]:List Value).toArray }):=T.keep _ _ _ st2 fun b _ o e=>Heap.get?_push_of_some _ e
 generalize hs3:({ s2 with heap:=s2.heap.push { cls:=.type "list",data:=.seq ([]:List Value).toArray } }:Shared)=s3 at I3
 have st3:tn 0 s3.heap:=by rw [← hs3];exact st3
 generalize hH3:upd H2 s2.heap.objs.size (.lst [])=H3 at I3 f3 w0
 generalize hacc:s2.heap.objs.size=acc at *
 refine wpAny_newFunctionEnv hcell (by intro y hy;simp at hy) (fun h₁ hns₁ hsb₁=>?_) hk
 have old:∀ b o,s3.heap.get? b=some o→h₁.get? b=some o:=fun b o q=>hsb₁.extBut b o (Nat.ne_of_lt (Heap.lt_size q)) (Heap.get?_push_of_some _ q)
 have hCfree:H3 s3.heap.objs.size=none:=I3.hok.fresh (Nat.le_refl _)
 have fpl:∀ b∈fp,b<s3.heap.objs.size:=fun b hb=>by
  obtain ⟨o,eo,_⟩:=T.obj _ _ st3 b hb
  exact Heap.lt_size eo
 have nstk:∀ b,b≠X.env.locals→b∉X.fs→b∉frs X.stack:=fun b h1 h2 z=>by
  rcases List.mem_cons.mp (I3.stkSub b z) with q|q
  ·exact h1 q
  ·exact h2 q
 have clt:∀ x c,X.env.cells.lookup x=some c→c<s3.heap.objs.size:=fun x c q=>by
  obtain ⟨v,z⟩:=I3.cell x c q
  exact z.lt
 have YI:∀ (h':Heap) (m:Str→Option Value),(∀ b o,s3.heap.get? b=some o→h'.get? b=some o)→h'.Ns s3.heap.objs.size m →
   Inv (compCx X pins N scope s3.heap.objs.size s3 H3 fp) [] (pick ix σ) H3 { s3 with heap:=h',toks:=s3.toks+([]:List (Str×Value)).length }:=by
  intro h' m hk' hn
  refine⟨⟨I3.ok.mod,hk,I3.ok.glob,I3.ok.blt,Nat.le_refl _,fun x y c q1 q2=>I3.ok.inj x y c (clsub x c q1) (clsub y c q2),fun x hx=>clhas x (relabel_not_local hcell hx),fun x c hf _=>absurd hf Bool.false_ne_true,
   I3.ok.hd,I3.ok.frames,.inl rfl,fun b hb=>⟨Nat.ne_of_lt (fpl b hb),fun x c q=>(f3 b hb).2.2.2.2.1 x c (clsub x c q)⟩,I3.bs,Nat.le_trans I3.ok.bsz I3.sz,fun b o e hb=>?_,fun b hb=>nstk b (f3 b hb).2.1 (f3 b hb).2.2.1,I3.stack,I3.stkFree⟩,
   rfl,I3.bare,Un.kept hk',⟨m,hn,fun i x v h1 h2 h3=>?_⟩,fun x c q=>?_,hCfree,fun x c q=>I3.freeC x c (clsub x c q),fun p hp=>?_,I3.hok.kept hk',?_⟩
  ·have q:=(I3.bs b o e).2
   rcases (f3 b hb).2.2.2.1 with z|z
   ·exact I3.ok.noex b o e z
   ·exact absurd (Nat.lt_of_lt_of_le (Heap.lt_size e) (Nat.le_trans I3.ok.bsz z)) (Nat.lt_irrefl _)
  ·obtain ⟨j,e1,e2⟩:=pick_get h2
   obtain ⟨a1,a2,a3,a4⟩:=hix.get h1 e1
   obtain ⟨mX,hnX,hlX⟩:=I3.loc
   obtain ⟨u,ru,l⟩:=hlX j x v a1 e2 a2
   refine⟨u,ru,?_⟩
   rcases l with ⟨l1,_⟩|⟨_,c,lc,z⟩
   ·have l1':X.env.scope.names.lookup x=some .local:=l1
    rw [l1'] at a3
    exact absurd a3 (by decide)
   ·obtain ⟨c',hc'⟩:=clhas x a4
    have ec:=clsub x c' hc'
    rw [lc] at ec
    have ec':c=c':=Option.some.inj ec
    subst ec'
    exact .inr ⟨relabel_free a4,c,hc',z.keeps hk'⟩
  ·obtain ⟨v,z⟩:=I3.cell x c (clsub x c q)
   exact⟨v,z.keeps hk'⟩
  ·have hp':p∈X.pn++pins:=by simpa using hp
   obtain ⟨a1,a2,a3,a4,a5⟩:=I3.pin p hp'
   exact⟨hk' _ _ a1,a2,Nat.ne_of_lt (Heap.lt_size a1),nstk p.1 a3 a4,a5⟩
  ·show (pick ix σ).length=N.length
   unfold pick
   rw [List.length_map]
   exact hix.len
 have fpY:∀ {pl:List (Addr×Obj)} {H':Hp},pl=[]→(∀ b∈fp,H' b=none)→∀ b∈fp,FpOk (compCx X pins N scope s3.heap.objs.size s3 H3 fp) pl H' b:=fun {pl H'} epl hn b hb=>by
  obtain ⟨f0,f1,f2',f3',f4,f5⟩:=f3 b hb
  subst epl
  exact⟨hn b hb,Nat.ne_of_lt (fpl b hb),nstk b f1 f2',.inl hb,fun x c q=>f4 x c (clsub x c q),fun p hp=>f5 p (by simpa using hp)⟩
 have loop:∀ s4:Shared,(∃ m,s4={ s3 with heap:=h₁,toks:=s3.toks+([]:List (Str×Value)).length }∧h₁.Ns s3.heap.objs.size m) →
   codeAny (model X.prog X.w) X.A (.compLoop (.ListComp elt [⟨tg,iter,ifs,0⟩] scope pos) 0 (.ref it) (.ref acc) (compEnvC scope (clOf X.env.cells scope.names []) s3.heap.objs.size X.env))
    (compPost (model X.prog X.w) X.A X.xe (some (assign (.Name y py) X.env)) (fun _ s'=>SP X pins D .next s') (.ref acc) s3.heap.objs.size) s4:=by
  rintro s4 ⟨m4,rfl,hn4⟩
  refine comp_loop (E:=fun _ _=>False) (fun _ _ z=>z.elim)
   (fun n s'=>∃ i σ' ys H',Inv (compCx X pins N scope s3.heap.objs.size s3 H3 fp) [] σ' H' s'∧tn i s'.heap∧(∀ b∈fp,H' b=none)∧W i n σ' ys H') ?_ m0
   ⟨0,pick ix σ,[],H3,YI h₁ m4 old hn4,T.keep _ _ _ st3 fun b _ o q=>old b o q,fun b hb=>(f3 b hb).1,w0⟩
  rintro n s5 ⟨i,σ5,ys,H5,I5,st5,fr5,w5⟩
  obtain ⟨hl5,hstep⟩:=turn i n σ5 ys H5 w5
  rcases hstep with ⟨stop,q⟩|⟨go,m',hm',step⟩
  ·refine thn (T.done (compCx X pins N scope s3.heap.objs.size s3 H3 fp) rfl rfl rfl hc i [] s5 σ5 H5 (fun _ _=>False) I5 (fpY rfl fr5) st5 stop) fun r s6 ⟨hr,I6⟩=>?_
   subst hr
   obtain ⟨m6,hn6,_⟩:=I6.loc
   have I6X:Inv X pins σ H5 s6:=I3.call' (ch:=fp) I6.os I6.base I6.hok I6.bare fun b hb=>by
    obtain ⟨f0,f1,f2',f3',f4,f5⟩:=f3 b hb
    exact⟨f3',f1,f4,f5⟩
   have neL:X.env.locals≠s3.heap.objs.size:=fun z=>by
    obtain ⟨m,⟨o,_,_,ho,_⟩,_⟩:=I3.loc
    exact Nat.lt_irrefl _ (z ▸ Heap.lt_size ho)
   have neCl:∀ x c,X.env.cells.lookup x=some c→c≠s3.heap.objs.size:=fun x c e=>Nat.ne_of_lt (clt x c e)
   refine wpAny_assign_Name (store_ok2 (u:=.ref acc) (v:=.ref acc) I6X hN hk0 hy rfl (fun s7 I7 ⟨a7,sb7,ha7⟩=>?_) hf)
   have na7:s3.heap.objs.size≠a7:=by
    rcases ha7 with z|z
    ·exact fun w=>neL (z ▸ w.symm)
    ·exact fun w=>neCl _ _ z w.symm
   refine⟨m6,hn6.sameBut sb7 na7,fun h' sb=>?_⟩
   refine⟨σ.set k (some (.ref acc)),H5,Inv.step2 (ch:=[s3.heap.objs.size]) I7 (fun b hb=>?_) (fun b o _ _ nb e _=>(sb.2 b (fun z=>nb (by rw [z];exact List.mem_singleton.mpr rfl))).trans e) (fun b o _ _ nb e _=>⟨o.slots,(sb.2 b (fun z=>nb (by rw [z];exact List.mem_singleton.mpr rfl))).trans e⟩)
    (fun _ _ _ _ e=>e) (fun b o nb e=>⟨o,(sb.2 b (fun z=>nb (by rw [z];exact List.mem_singleton.mpr rfl))).trans e⟩) (fun _ _ e=>e) (fun _ _ _ e=>e) (fun b ps e=>⟨#[],by simpa using e⟩) (fun m hm=>hm.sameBut sb neL) (I7.hok.letGo I6.free sb),q⟩
   have eb:b=s3.heap.objs.size:=List.mem_singleton.mp hb
   subst eb
   refine⟨?_,Ne.symm neL,neCl,fun p hp=>Nat.ne_of_lt (Heap.lt_size (I3.pin p hp).1)⟩
   cases q9:X.s₀.heap.get? s3.heap.objs.size with
   | none=>rfl
   | some o=>exact absurd (Nat.lt_of_lt_of_le (Heap.lt_size q9) I3.sz) (Nat.lt_irrefl _)
  ·refine thn (T.item (compCx X pins N scope s3.heap.objs.size s3 H3 fp) rfl rfl rfl hc i [] s5 σ5 H5 (fun _ _=>False) I5 (fpY rfl fr5) st5 go) fun r s6 ⟨u,hr,h6⟩=>?_
   subst hr
   refine thn h6 fun _ s7 ⟨x,H7,I7,r7,y7,st7,fr7⟩=>?_
   have I7':=I7.pinned (fpY rfl fr7) (T.obj _ _ st7)
   refine thn (hg pins s3.heap.objs.size s3 H3 fp _ s7 σ5 H7 x u _ I7' r7 (step x H7 y7)) fun _ s8 ⟨σ8,H8,I8,q8⟩=>?_
   refine thn (wp_tests (ht pins s3.heap.objs.size s3 H3 fp) I8 q8) fun b s9 ⟨H9,I9,q9⟩=>?_
   have back:∀ {σz:St} {Hz:Hp} {sz:Shared} {yz:List V},Inv (compCx X pins N scope s3.heap.objs.size s3 H3 fp) ([]++pinsAt fp s7.heap) σz Hz sz→W (i+1) m' σz yz Hz →
     ∃ m,m<n∧∃ i σ' ys H',Inv (compCx X pins N scope s3.heap.objs.size s3 H3 fp) [] σ' H' sz∧tn i sz.heap∧(∀ b∈fp,H' b=none)∧W i m σ' ys H':=fun {σz Hz sz yz} Iz wz=>by
    refine⟨m',hm',i+1,σz,yz,Hz,Iz.unpinned,T.keep _ _ _ st7 fun b hb o e=>(Iz.pin (b,o) (List.mem_append_right _ (List.mem_append_right _ (mem_pinsAt hb e)))).1,fun b hb=>?_,wz⟩
    obtain ⟨o,e,d⟩:=T.obj _ _ st7 b hb
    exact (Iz.pin (b,o) (List.mem_append_right _ (List.mem_append_right _ (mem_pinsAt hb e)))).2.1
   cases b with
   | false=>exact back I9 q9
   | true =>
    refine thn (he pins s3.heap.objs.size s3 H3 fp _ s9 σ8 H9 _ I9 q9) fun v s10 ⟨y,H10,I10,r10,hl10,hz10,w10⟩=>?_
    refine thn (mt_append _ s10 σ8 H10 (.ref acc) [y] (.ref acc) [v] (fun _ H'=>H'=upd H10 acc (.lst (ys++[y]))) I10 rfl (.cons r10 .nil) ⟨acc,ys,y,rfl,rfl,hl10,hz10,rfl⟩) fun _ s11 ⟨_,H11,I11,_,e11⟩=>?_
    subst e11
    exact back I11 w10
 have hn4:∃ m,h₁.Ns s3.heap.objs.size m:=⟨_,hns₁⟩
 obtain ⟨m4,hn4⟩:=hn4
 have L:=loop _ ⟨m4,rfl,hn4⟩
 exact codeAny_compStart_list L (T.self _ 0 _ _ _ (T.keep _ _ _ st3 fun b _ o q=>old b o q) L)
end
end L2
namespace L2
open PySem PySem.Spec PyProof.Rows
section
variable {K:PySem.W.Frag} {H:Hp} {Q:VK} {D:Ends} {σ:St}
theorem join {t:TS} {u:St→Hp→Prop} (P:St→Hp→Prop) (h1:∀ nx:St→Hp→Prop,(∀ σ' H',P σ' H'→nx σ' H')→t { D with nx:=nx } σ H) (h2:∀ σ' H',P σ' H'→u σ' H'):t { D with nx:=u } σ H:=h1 u h2
end
end L2
namespace L2
open PySem PySem.Spec PyProof.Rows
section
variable {K:PySem.W.Frag} {H:Hp} {Q:VK} {σ:St}
theorem r_isiS {x:Str} {n:String} {b:Bool} (k:PySem.W.kitOne K (.type "str") (.type n)=some b) (h:Q (.bl b) H):rIsInst K [.str x,.ty n] H Q:=⟨_,n,_,b,rfl,.inl (.str _),k,h⟩
theorem r_gsub {to ti:TE} {t:TSet} {v:V} {R:St→Hp→Prop} (h:to σ H fun o H1=>ti σ H1 fun i H2=>t o i v H2 fun H3=>R σ H3):gSub to ti t v σ H R:=h
theorem r_setL {p:Addr} {xs:List V} {k:Int} {j:Nat} {v:V} {R:Hp→Prop} (e:H p=some (.lst xs)) (hj:ixN xs.length k=some j) (h:R (upd H p (.lst (xs.set j v)))):rSetL (.ref p) (.int k) v H R:=⟨p,xs,k,j,rfl,rfl,e,hj,h⟩
end
end L2
namespace L2
open PySem PySem.Spec PyProof.Rows
section
variable {X:Cx} {pins:List (Addr×Obj)} {σ:St} {H:Hp} {s:Shared}
theorem Inv.wrote {a:Addr} {o o':Obj} {h':Heap} {t':Nat} (I:Inv X (pins++[(a,o)]) σ H s) (h0:X.s₀.heap.get? a=none) (hc:∀ x c,X.env.cells.lookup x=some c→c≠a) (hp:∀ p∈X.pn++pins,p.1≠a)
  (sb:Heap.SameBut a s.heap h') (e:h'.get? a=some o') (d:∀ v,o'.data≠.cell v):Inv X (pins++[(a,o')]) σ H { s with heap:=h',toks:=t' }:=by
 obtain ⟨g1,g2,g3,g4,g5⟩:=I.pin (a,o) (List.mem_append_right _ (List.mem_append_right _ (List.mem_singleton.mpr rfl)))
 have I1:Inv X pins σ H s:=I.unpinned
 have nm:∀ {b:Addr},b∉[a]→b≠a:=fun nb z=>nb (List.mem_singleton.mpr z)
 have I2:Inv X pins σ H { s with heap:=h',toks:=t' }:=Inv.step2 (ch:=[a]) I1 (fun b hb=>by
   have eb:b=a:=List.mem_singleton.mp hb
   subst eb
   exact⟨h0,g3,hc,hp⟩) (fun b ob _ _ nb q _=>(sb.2 b (nm nb)).trans q) (fun b ob _ _ nb q _=>⟨ob.slots,(sb.2 b (nm nb)).trans q⟩)
   (fun _ _ _ _ q=>q) (fun b ob nb q=>⟨ob,(sb.2 b (nm nb)).trans q⟩) (fun _ _ q=>q) (fun _ _ _ q=>q) (fun b ps q=>⟨#[],by simpa using q⟩) (fun m hm=>hm.sameBut sb (Ne.symm g3)) (I1.hok.letGo g2 sb)
 exact I2.pins_of fun p hp=>(List.mem_append.mp hp).elim (fun z=>I2.pin p (List.mem_append_right _ z)) fun z=>by
  rw [List.mem_singleton.mp z]
  exact⟨e,g2,g3,g4,d⟩
end
end L2
namespace L2
open PySem PySem.Spec PyProof.Rows
inductive PV:List (Int×V)→List (Int×Value)→Prop where
 | nil:PV [] []
 | cons {k:Int} {x:V} {u:Value} {qs ps} (r:RelV x u) (t:PV qs ps):PV ((k,x)::qs) ((k,u)::ps)
theorem PV.zip:∀ {kz:List Int} {xs:List V} {vs:List Value},Vals xs vs→PV (kz.zip xs) (kz.zip vs)
 | [],_,_,_=>.nil
 | _::_,_,_,.nil=>.nil
 | _::_,_,_,.cons r t=>.cons r (PV.zip t)
theorem PV.perm {ps ps':List (Int×Value)} (h:ps'.Perm ps):∀ {qs:List (Int×V)},PV qs ps→∃ qs':List (Int×V),qs'.Perm qs∧PV qs' ps':=by
 induction h with
 | nil=>intro qs h;exact⟨qs,.refl _,h⟩
 | cons x _ ih =>
  intro qs h
  cases h with
  | cons r t =>
   obtain ⟨qs',p,z⟩:=ih t
   exact⟨_::qs',p.cons _,.cons r z⟩
 | swap x y l =>
  intro qs h
  cases h with
  | cons r t =>
   cases t with
   | cons r2 t2=>exact⟨_::_::_,.swap _ _ _,.cons r2 (.cons r t2)⟩
 | trans _ _ ih1 ih2 =>
  intro qs h
  obtain ⟨q1,p1,z1⟩:=ih2 h
  obtain ⟨q2,p2,z2⟩:=ih1 z1
  exact⟨q2,p2.trans p1,z2⟩
theorem PV.vals:∀ {qs:List (Int×V)} {ps:List (Int×Value)},PV qs ps→Vals (qs.map Prod.snd) (ps.map Prod.snd)∧qs.map Prod.fst=ps.map Prod.fst
 | _,_,.nil=>⟨.nil,rfl⟩
 | _,_,.cons r t=>⟨.cons r t.vals.1,by rw [List.map_cons,List.map_cons,t.vals.2]⟩
section
variable {X:Cx} {pins:List (Addr×Obj)} {σ:St} {H:Hp} {s:Shared}
theorem top_pin {p:Addr×Obj} (I:Inv X (pins++[p]) σ H s):s.heap.get? p.1=some p.2:=(I.pin p (List.mem_append_right _ (List.mem_append_right _ (List.mem_singleton.mpr rfl)))).1
theorem took {kA:Array Value} {kz:List Int} {j:Nat} {n:Int} {t:Tok} (hk:IntsAre kA.toList (kz.take j)) (hn:kz[j]?=some n):IntsAre (kA.push (.int n t)).toList (kz.take (j+1)):=by
 rw [Array.toList_push,List.take_add_one,hn]
 exact ksk_snoc hk
end
end L2
namespace L2
open PySem PySem.Spec PyProof.Rows
theorem ns_uniq {h:Heap} {a:Addr} {m m':Str→Option Value} (x:h.Ns a m) (y:h.Ns a m'):m=m':=by
 obtain ⟨o1,es1,ep1,ho1,hd1,_,hf1⟩:=x
 obtain ⟨o2,es2,ep2,ho2,hd2,_,hf2⟩:=y
 rw [ho1] at ho2;cases ho2;rw [hd1] at hd2;cases hd2
 funext z
 rw [← hf1,← hf2]
noncomputable def SortedBy (b:Bool) (kz:List Int) (xs ys:List V):Prop:=∃ qs:List (Int×V),qs.Perm (kz.zip xs)∧ys=qs.map Prod.snd∧qs.Pairwise (fun p q=>if b then q.1≤p.1 else p.1≤q.1)
theorem pair_fst {b:Bool}:∀ {qs:List (Int×V)} {ps:List (Int×Value)},PV qs ps→ps.Pairwise (fun p q=>if b then q.1≤p.1 else p.1≤q.1)→qs.Pairwise (fun p q=>if b then q.1≤p.1 else p.1≤q.1)
 | _,_,.nil,_=>.nil
 | _,_,.cons (k:=k) (qs:=qs) (ps:=ps) r t,h=>by
  obtain ⟨h1,h2⟩:=List.pairwise_cons.mp h
  refine List.pairwise_cons.mpr ⟨fun q hq=>?_,pair_fst t h2⟩
  have hm:q.1∈ps.map Prod.fst:=by rw [← t.vals.2];exact List.mem_map.mpr ⟨q,hq,rfl⟩
  obtain ⟨p,hp,e⟩:=List.mem_map.mp hm
  have:=h1 p hp
  rw [e] at this
  exact this
theorem sorted_of {b:Bool} {kz:List Int} {xs:List V} {vs out:List Value} (hv:Vals xs vs) (h:KskOut b kz vs out):∃ ys,Vals ys out∧SortedBy b kz xs ys:=by
 obtain ⟨ps,hp,rfl,hw⟩:=h
 obtain ⟨qs,h1,h2⟩:=PV.perm hp (PV.zip hv)
 exact⟨qs.map Prod.snd,h2.vals.1,qs,h1,rfl,pair_fst h2 hw⟩
theorem SortedBy.length {b:Bool} {kz:List Int} {xs ys:List V} (h:SortedBy b kz xs ys) (hl:kz.length=xs.length):ys.length=xs.length:=by
 obtain ⟨qs,p,rfl,_⟩:=h
 rw [List.length_map,p.length_eq,List.length_zip,hl,Nat.min_self]
section
variable {X:Cx} {pins:List (Addr×Obj)} {σ:St} {H:Hp} {s:Shared}
noncomputable def others (h:Heap) (L k a:Addr):List (Addr×Obj):=(List.range h.objs.size).filterMap fun b=>if b=L∨b=k∨b=a then none else (h.get? b).map fun o=>(b,o)
theorem mem_others {h:Heap} {L k a b:Addr} {o:Obj} (e:h.get? b=some o) (n1:b≠L) (n2:b≠k) (n3:b≠a):(b,o)∈others h L k a :=
 List.mem_filterMap.mpr ⟨b,List.mem_range.mpr (Heap.lt_size e),by rw [if_neg (by simp [n1,n2,n3]),e];rfl⟩
theorem of_others {h:Heap} {L k a:Addr} {p:Addr×Obj} (hp:p∈others h L k a):h.get? p.1=some p.2∧p.1≠L∧p.1≠k∧p.1≠a:=by
 obtain ⟨b,_,e⟩:=List.mem_filterMap.mp hp
 by_cases hb:b=L∨b=k∨b=a
 ·rw [if_pos hb] at e;cases e
 ·rw [if_neg hb] at e
  cases q:h.get? b with
  | none=>rw [q] at e;cases e
  | some o =>
   rw [q] at e
   cases e
   exact⟨q,fun z=>hb (.inl z),fun z=>hb (.inr (.inl z)),fun z=>hb (.inr (.inr z))⟩
theorem sort_end {a kS:Addr} {e1 e:Nat} {kA:Array Value} {b:Bool} {vs:List Value} {xs:List V} {kz:List Int} {P:PySem.Fin→Shared→Prop} {E:Value→Shared→Prop}
  (I:Inv X ((pins++[(a,seqObj "list" #[] e1)])++[(kS,seqObj "list" kA e)]) σ H s)
  (ha:X.s₀.heap.get? a=none∧(∀ x c,X.env.cells.lookup x=some c→c≠a)∧∀ p∈X.pn++pins,p.1≠a)
  (hkS:X.s₀.heap.get? kS=none∧(∀ x c,X.env.cells.lookup x=some c→c≠kS)∧∀ p∈X.pn++(pins++[(a,seqObj "list" #[] e1)]),p.1≠kS)
  (hk:IntsAre kA.toList kz) (hv:Vals xs vs) (hlen:kz.length=vs.length) (h64:vs.length<64)
  (hP:∀ h' tk ys,Inv X pins σ (upd H a (.lst ys)) { s with heap:=h',toks:=tk }→SortedBy b kz xs ys→P (.done (.ret .none)) { s with heap:=h',toks:=tk }) :
  wpAny (model X.prog X.w) X.A.in1.in1 (ksk_end a b vs.toArray e1 (.ref kS) kA) P E s:=by
 obtain ⟨k1,k2,k3,k4,_⟩:=I.pin (kS,seqObj "list" kA e) (List.mem_append_right _ (List.mem_append_right _ (List.mem_singleton.mpr rfl)))
 obtain ⟨a1,a2,a3,a4,_⟩:=I.pin (a,seqObj "list" #[] e1) (List.mem_append_right _ (List.mem_append_left _ (List.mem_append_right _ (List.mem_singleton.mpr rfl))))
 have hka:kS≠a:=fun z=>hkS.2.2 (a,seqObj "list" #[] e1) (List.mem_append_right _ (List.mem_append_right _ (List.mem_singleton.mpr rfl))) z.symm
 have I1:Inv X pins σ H s:=I.unpinned.unpinned
 obtain ⟨m,hn,_⟩:=id I1.loc
 have em:∀ b:Addr,({}:Heap).get? b=none:=fun b=>Heap.get?_none_of_le (Nat.zero_le _)
 refine ksk_end_ (h₀:=({}:Heap)) (L:=X.env.locals) (m:=m) (news:=others s.heap X.env.locals kS a) (e:=e) ⟨hn,fun b o q=>(by rw [em b] at q;cases q),Nat.zero_le _⟩ (fun p hp=>?_) hka (fun p hp=>(of_others hp).2.2.1) (fun p hp=>(of_others hp).2.2.2) hk hlen h64 (fun h' tk out c F' N' ko=>?_)
 ·rcases List.mem_append.mp hp with z|z
  ·exact⟨(of_others z).1,(of_others z).2.1,em _⟩
  ·rcases List.mem_cons.mp z with rfl|z
   ·exact⟨k1,k3,em _⟩
   ·rw [List.mem_singleton.mp z]
    exact⟨a1,a3,em _⟩
 ·obtain ⟨ys,ry,so⟩:=sorted_of hv ko
  have kp:∀ b o,s.heap.get? b=some o→b≠X.env.locals→b≠kS→b≠a→h'.get? b=some o:=fun b o q n1 n2 n3=>(N' (b,o) (.tail _ (mem_others q n1 n2 n3))).1
  have na:h'.get? a=some (seqObj "list" out c):=(N' (a,seqObj "list" out c) (.head _)).1
  have nm:∀ {b:Addr},b∉[a,kS]→b≠a∧b≠kS:=fun nb=>⟨fun z=>nb (by rw [z];exact .head _),fun z=>nb (by rw [z];exact .tail _ (.head _))⟩
  refine hP h' tk ys (Inv.step2 (ch:=[a,kS]) I1 (fun b hb=>?_) (fun b o nL _ nb q _=>kp b o q nL (nm nb).2 (nm nb).1) (fun b o nL _ nb q _=>⟨o.slots,kp b o q nL (nm nb).2 (nm nb).1⟩)
   (fun b o nb _ q=>by rw [upd_ne (nm nb).1];exact q) (fun b o nb q=>?_) (fun b ys q=>by rw [upd_ne (ne_of_none q a2)];exact q) (fun b o u q=>by rw [upd_ne (ne_of_none q a2)];exact q) (fun b ps q=>⟨#[],by rw [upd_ne (ne_of_none q a2)];simpa using q⟩)
   (fun m0 h0=>ns_uniq hn h0 ▸ F'.ns) (fun b o q=>?_)) so
  ·rcases List.mem_cons.mp hb with rfl|hb
   ·exact⟨ha.1,a3,ha.2.1,ha.2.2⟩
   ·have eb:b=kS:=List.mem_singleton.mp hb
    subst eb
    exact⟨hkS.1,k3,hkS.2.1,fun p hp=>hkS.2.2 p ((List.mem_append.mp hp).elim (fun z=>List.mem_append_left _ z) fun z=>List.mem_append_right _ (List.mem_append_left _ z))⟩
  ·by_cases nL:b=X.env.locals
   ·subst nL
    obtain ⟨oL,_,_,hoL,_⟩:=F'.ns
    exact⟨oL,hoL⟩
   ·exact⟨o,kp b o q nL (nm nb).2 (nm nb).1⟩
  ·by_cases hb:b=a
   ·subst hb
    rw [upd_same] at q
    cases q
    refine⟨?_,out.toList,c,ry,by simpa using na⟩
    have:=so.length (hlen.trans hv.length.symm)
    rw [this,hv.length,sizeLine_eq]
    lia
   ·rw [upd_ne hb] at q
    have tr:∀ d u,H d=some u→d≠X.env.locals∧d≠kS∧d≠a:=fun d u z=>⟨fun w=>(by rw [w,I1.free] at z;cases z),fun w=>(by rw [w,k2] at z;cases z),fun w=>(by rw [w,a2] at z;cases z)⟩
    refine (I1.hok b o q).stay (fun d u hd z=>?_) (fun d z=>by rw [upd_ne (ne_of_none z a2)];exact z) fun d xs z=>by rw [upd_ne (ne_of_none z a2)];exact z
    have td:d≠X.env.locals∧d≠kS∧d≠a:=by
     rcases hd with rfl|hd
     ·exact tr _ _ q
     ·exact tr _ _ hd
    exact kp d u z td.1 td.2.1 td.2.2
end
end L2
namespace L2
open PySem PySem.Spec PyProof.Rows
mutual
inductive Tell (K:PySem.W.Frag) (H:Hp):V→PyData→Prop where
 | non:Tell K H .non .none
 | bl (b:Bool):Tell K H (.bl b) (.bool b)
 | int (i:Int):Tell K H (.int i) (.int i)
 | str (x:Str):Tell K H (.str x) (.str x)
 | tup {a:Addr} {xs:List V} {ds:List PyData} (h:SqT K H a xs) (t:Tells K H xs ds):Tell K H (.ref a) (.tuple ds)
 | lst {a:Addr} {xs:List V} {ds:List PyData} (h:SqL K H a xs) (t:Tells K H xs ds):Tell K H (.ref a) (.list ds)
inductive Tells (K:PySem.W.Frag) (H:Hp):List V→List PyData→Prop where
 | nil:Tells K H [] []
 | cons {x:V} {d:PyData} {xs:List V} {ds:List PyData} (h:Tell K H x d) (t:Tells K H xs ds):Tells K H (x::xs) (d::ds)
end
section
variable {K:PySem.W.Frag} {H:Hp} {Q:VK}
noncomputable def Rows (K:PySem.W.Frag) (H:Hp) (xs:List V) (rs:List (List Int)):Prop:=Tells K H xs (rs.map fun r=>.tuple (r.map PyData.int))
end
end L2
namespace L2
open PySem PySem.Spec PyProof.Rows
section
variable {K:PySem.W.Frag} {g:TG} {D:Ends} {σ:St} {H:Hp}
theorem f_inv {J:It} {tb:TS} (n:Nat) (Pv:Nat→St→Hp→Prop) (h0:Pv 0 σ H) (hgo:∀ i σ H2,i<n→Pv i σ H2→J.go i H2) (hstop:∀ σ H2,Pv n σ H2→J.stop n H2)
  (hs:∀ i x σ H2 H3,i<n→Pv i σ H2→J.yld i H2 x H3→g x σ H3 fun σ2 H4=>tb { D with nx:=Pv (i+1),ct:=Pv (i+1),bk:=D.nx } σ2 H4) (hd:∀ σ H2,Pv n σ H2→D.nx σ H2):ForGoal g tb D J σ H:=by
 refine⟨fun i m σ2 H2=>m=n - i∧i≤n∧Pv i σ2 H2,⟨n,by simp,Nat.zero_le _,h0⟩,?_⟩
 rintro i m σ2 H2 ⟨rfl,hi,p⟩
 by_cases hlt:i<n
 ·exact .inr ⟨hgo i σ2 H2 hlt p,Pv (i+1),fun σ' H' p'=>⟨n - (i+1),by lia,rfl,hlt,p'⟩,fun x H' y=>hs i x σ2 H2 H' hlt p y⟩
 ·have e:i=n:=by lia
  subst e
  exact .inl ⟨hstop σ2 H2 p,hd σ2 H2 p⟩
theorem f_invR {lo:Int} {n:Nat} {tb:TS} (Pv:Nat→St→Hp→Prop) (h0:Pv 0 σ H) (hs:∀ i σ H2,i<n→Pv i σ H2→g (.int (lo+i)) σ H2 fun σ2 H4=>tb { D with nx:=Pv (i+1),ct:=Pv (i+1),bk:=D.nx } σ2 H4) (hd:∀ σ H2,Pv n σ H2→D.nx σ H2):ForGoal g tb D (Itr lo n) σ H:=by
 refine f_inv n Pv h0 (fun i σ H2 hi _=>hi) (fun σ H2 _=>Nat.le_refl _) (fun i x σ H2 H3 hi p y=>?_) hd
 obtain ⟨rfl,rfl⟩:=y
 exact hs i σ _ hi p
theorem f_invL {a:Addr} {xs:List V} {tb:TS} (Pv:Nat→St→Hp→Prop) (h0:Pv 0 σ H) (ha:∀ i σ H2,Pv i σ H2→SqL K H2 a xs) (hs:∀ i x σ H2,xs[i]?=some x→Pv i σ H2→g x σ H2 fun σ2 H4=>tb { D with nx:=Pv (i+1),ct:=Pv (i+1),bk:=D.nx } σ2 H4) (hd:∀ σ H2,Pv xs.length σ H2→D.nx σ H2):ForGoal g tb D (Itl K a) σ H:=by
 refine f_inv xs.length Pv h0 (fun i σ H2 hi p=>⟨xs,xs[i],ha i σ H2 p,List.getElem?_eq_getElem hi⟩) (fun σ H2 p=>⟨xs,ha _ σ H2 p,Nat.le_refl _⟩) (fun i x σ H2 H3 hi p y=>?_) hd
 obtain ⟨rfl,e⟩:=y
 exact hs i x σ _ (e xs (ha i σ _ p)) p
end
end L2
namespace L2
open PySem PySem.Spec PyProof.Rows
noncomputable def rSum (K:PySem.W.Frag):List V→Hp→VK→Prop:=fun xs H Q=>∃ (a:Addr) (ns:List Int),xs=[.ref a]∧SqL K H a (ns.map V.int)∧Q (.int ns.sum) H
noncomputable def rMaxL (K:PySem.W.Frag):List V→Hp→VK→Prop:=fun xs H Q=>∃ (a:Addr) (ns:List Int),xs=[.ref a]∧SqL K H a (ns.map V.int)∧ns≠[]∧∀ m,m∈ns→(∀ x∈ns,x≤m)→Q (.int m) H
section
variable {X:Cx}
theorem call_sumL (hc:X.calm=true):CallR X (.builtin "sum") (rSum X.K):=by
 intro pins s σ H xs us Q I r h
 obtain ⟨a,ns,rfl,hs,q⟩:=h
 obtain ⟨u,rfl,ru⟩:=vals1 r
 cases ru
 obtain ⟨its,rv,p,_⟩:=I.list hs
 have hl:s.heap.IsList a its.toArray:=by
  obtain ⟨o,n,h1,h2,h3⟩:=p
  exact⟨o,h1,h2,n,h3.2⟩
 have hh:X.A.handled=none:=I.ok.hd hc
 have hi:IntsAre its ns:=intsAre_of rv
 obtain ⟨zs,hx⟩:=hi.allInts.items
 have hn:numsOf its.toArray.toList=ns:=by rw [show its.toArray.toList=its from rfl,hi.numsOf]
 rw [hx] at hl hn
 rw [nums_intItems] at hn
 refine sum_intListG hh hl fun h' tk t' hk=>?_
 rw [preSum_eq,List.take_of_length_le (by simp),hn]
 exact⟨.int ns.sum,H,I.kept (t':=tk) hk,⟨t',rfl⟩,q⟩
theorem call_maxL (hc:X.calm=true):CallR X (.builtin "max") (rMaxL X.K):=by
 intro pins s σ H xs us Q I r h
 obtain ⟨a,ns,rfl,hs,hne,q⟩:=h
 obtain ⟨u,rfl,ru⟩:=vals1 r
 cases ru
 obtain ⟨its,rv,p,_⟩:=I.list hs
 have hl:s.heap.IsList a its.toArray:=by
  obtain ⟨o,n,h1,h2,h3⟩:=p
  exact⟨o,h1,h2,n,h3.2⟩
 have hh:X.A.handled=none:=I.ok.hd hc
 have hi:IntsAre its ns:=intsAre_of rv
 obtain ⟨zs,hx⟩:=hi.allInts.items
 have hn:numsOf its.toArray.toList=ns:=by rw [show its.toArray.toList=its from rfl,hi.numsOf]
 rw [hx] at hl hn
 rw [nums_intItems] at hn
 have hsz:0<zs.size:=by
  rcases Nat.eq_zero_or_pos zs.size with z|z
  ·exfalso;apply hne;rw [← hn];apply List.eq_nil_of_length_eq_zero;rw [List.length_map,Array.length_toList,z]
  ·exact z
 refine max_intList hh hl hsz fun v h' tk hv hk=>?_
 obtain ⟨t,rfl⟩:=intItems_at hv
 obtain ⟨h1,h2⟩:=argBest_gt (numAt zs) (zs.size - 1)
 refine⟨.int _,H,I.kept (t':=tk) hk,⟨t,rfl⟩,q _ ?_ fun b hb=>?_⟩
 ·rw [← hn,numAt_eq];exact getD_mem (by rw [List.length_map,Array.length_toList];lia)
 ·rw [← hn] at hb
  obtain ⟨j,hj,rfl⟩:=mem_getD hb
  rw [List.length_map,Array.length_toList] at hj
  rw [← numAt_eq];exact h2 j (by lia)
theorem kN_sum (K:PySem.W.Frag) (hK:X.K=K) (hc:X.calm=true):CallR X (.builtin "sum") (rSum K):=hK ▸ call_sumL hc
theorem kN_maxL (K:PySem.W.Frag) (hK:X.K=K) (hc:X.calm=true):CallR X (.builtin "max") (rMaxL K):=hK ▸ call_maxL hc
end
section
variable {K:PySem.W.Frag} {H:Hp} {Q:VK} {σ:St} {ix:List (Option Nat)}
theorem r_sum {a:Addr} {ns:List Int} (e:SqL K H a (ns.map V.int)) (h:Q (.int ns.sum) H):rSum K [.ref a] H Q:=⟨a,ns,rfl,e,h⟩
theorem r_maxL {a:Addr} {ns:List Int} (e:SqL K H a (ns.map V.int)) (n:ns≠[]) (h:∀ m,m∈ns→(∀ x∈ns,x≤m)→Q (.int m) H):rMaxL K [.ref a] H Q:=⟨a,ns,rfl,e,n,h⟩
end
end L2
namespace L2
open PySem
structure En (k:Bool) (n a:Nat) (i:Nat) (h:Heap):Prop where
 ob:∃ last:Value,IsEnum h (n+1) n i last
 src:ItAt k h n a i
section
variable {prog:Program} {w:World} {A:Around} {E:Value→Shared→Prop} {s:Shared}
theorem en_next {k:Bool} {n a:Nat} {i:Nat} {xs:Array Value} {x:Value} {Q:Value→Shared→Prop} (Z:En k n a i s.heap) (ha:a<n) (hs:SrcOf k s.heap a xs) (hx:xs[i]?=some x)
  (hQ:∀ h' t,IsEnumOut h' (n+1) n ((i:Int)+1) x s.heap.objs.size→ItAt k h' n a (i+1)→IsT h' s.heap.objs.size #[.int i t,x]→h'.objs.size=s.heap.objs.size+1→Off [n,n+1] s.heap h'→Q (.ref s.heap.objs.size) { s with heap:=h',toks:=s.toks+1 }) :
  wpAny (model prog w) A (Builtin.«enumerate.__next__» ⟨[.ref (n+1)],[]⟩) (fun fin s'=>∃ v,fin=.done (.ret v)∧Q v s') E s:=by
 obtain ⟨⟨last,ob⟩,src⟩:=Z
 obtain ⟨hp,gg,dd,tt,oo⟩:=s
 have n1:(n+1:Addr)≠n:=nne (by lia)
 show wpAny _ _ (field (.ref (n+1)) 2 >>= _) _ _ _
 refine wpAny_bind (wpAny_field ob rfl (x:=.ref n) rfl (wpAny_bind (sub_item src hs hx fun g1 src1 q1=>?_)))
 replace q1:Heap.SameBut n hp g1:=q1
 have ob1:IsEnum g1 (n+1) n i last:=(q1.2 _ n1).trans ob
 show wpAny _ _ (field (.ref (n+1)) 3 >>= _) _ _ ⟨g1,gg,dd,tt,oo⟩
 refine wpAny_bind (wpAny_field ob1 rfl (x:=rawInt i) rfl ?_)
 show wpAny _ _ (field (.ref (n+1)) 4 >>= _) _ _ ⟨g1,gg,dd,tt,oo⟩
 refine wpAny_bind (wpAny_field ob1 rfl (x:=.none) rfl ?_)
 show wpAny _ _ (mkInt i >>= _) _ _ ⟨g1,gg,dd,tt,oo⟩
 refine wpAny_bind (wpAny_mkInt ?_)
 show wpAny _ _ (setField (.ref (n+1)) 3 (rawInt ((i:Int)+1)) >>= _) _ _ ⟨g1,gg,dd,tt+1,oo⟩
 refine wpAny_bind (wpAny_setField_rec ob1 (by simp) fun g2 ob2 q2=>?_)
 replace q2:Heap.SameBut (n+1) g1 g2:=q2
 replace ob2:IsEnum g2 (n+1) n ((i:Int)+1) last:=ob2
 show wpAny _ _ (setField (.ref (n+1)) 4 .none >>= _) _ _ ⟨g2,gg,dd,tt+1,oo⟩
 refine wpAny_bind (wpAny_setField_rec ob2 (by simp) fun g3 ob3 q3=>?_)
 replace q3:Heap.SameBut (n+1) g2 g3:=q3
 replace ob3:IsEnum g3 (n+1) n ((i:Int)+1) last:=ob3
 show wpAny _ _ (newTuple [.int i tt,x] >>= _) _ _ ⟨g3,gg,dd,tt+1,oo⟩
 refine wpAny_bind (wpAny_newTuple ?_)
 have z3:g3.objs.size=hp.objs.size:=by rw [q3.1,q2.1,q1.1]
 have elt:n+1<hp.objs.size:=Heap.lt_size ob
 obtain ⟨g4,e4⟩:∃ g4,g4=g3.push { cls:=.type "tuple",data:=.seq #[.int i tt,x] }:=⟨_,rfl⟩
 have ob4:IsEnum g4 (n+1) n ((i:Int)+1) last:=by rw [e4];exact Heap.get?_push_of_some _ ob3
 have t4:IsT g4 hp.objs.size #[.int i tt,x]:=by rw [e4,← z3];exact Heap.get?_push_size _ rfl
 have z4:g4.objs.size=hp.objs.size+1:=by rw [e4,Heap.size_push,z3]
 have o4:Off [n,n+1] hp g4:=by
  rw [e4]
  exact (((Off.of q1 (by simp)).trans (Off.of q2 (by simp))).trans (Off.of q3 (by simp))).trans (Off.push _)
 have src4:ItAt k g4 n a (i+1):=src1.keep fun o e=>by
  rw [e4]
  exact Heap.get?_push_of_some _ ((q3.2 _ n1.symm).trans ((q2.2 _ n1.symm).trans e))
 show wpAny _ _ (Builtin.SmallTypes.ownedTupleIsFree (.ref (n+1)) >>= _) _ _ ⟨_,gg,dd,tt+1,oo⟩
 rw [z3,← e4]
 clear e4 ob3 q3 ob2 q2 ob1 q1 src1 z3
 refine wpAny_bind ?_
 unfold Builtin.SmallTypes.ownedTupleIsFree
 refine wpAny_bind (wpAny_field ob4 rfl (x:=.none) rfl (wpAny_pure ?_))
 rw [if_pos rfl]
 refine wpAny_bind (wpAny_rule (wpAny_bind (wpAny_field ob4 rfl (x:=last) rfl (wpAny_bind (wpAny_setField_rec ob4 (by simp) fun g5 ob5 q5=>?_)))))
 replace q5:Heap.SameBut (n+1) g4 g5:=q5
 replace ob5:IsEnum g5 (n+1) n ((i:Int)+1) x:=ob5
 show wpAny _ _ (Builtin.SmallTypes.ownedTupleHandOut (.ref (n+1)) (.ref hp.objs.size) >>= _) _ _ ⟨g5,gg,dd,tt+1,oo⟩
 refine wpAny_bind ?_
 unfold Builtin.SmallTypes.ownedTupleHandOut
 refine wpAny_bind (wpAny_setField_rec ob5 (by simp) fun g6 ob6 q6=>?_)
 replace q6:Heap.SameBut (n+1) g5 g6:=q6
 replace ob6:IsEnumOut g6 (n+1) n ((i:Int)+1) x hp.objs.size:=ob6
 refine wpAny_setField_rec ob6 (by simp) fun g7 ob7 q7=>?_
 replace q7:Heap.SameBut (n+1) g6 g7:=q7
 replace ob7:IsEnumOut g7 (n+1) n ((i:Int)+1) x hp.objs.size:=ob7
 have up:∀ c o,c≠n+1→g4.get? c=some o→g7.get? c=some o:=fun c o hc e=>(q7.2 _ hc).trans ((q6.2 _ hc).trans ((q5.2 _ hc).trans e))
 refine wpAny_bind (wpAny_letGo (wpAny_pure ⟨_,rfl,hQ g7 tt ob7 (src4.keep fun o e=>up _ o n1.symm e) (up _ _ (Nat.ne_of_gt elt) t4) (by rw [q7.1,q6.1,q5.1,z4]) fun c o hc e=>?_⟩))
 exact up c o (fun z=>hc (by simp [z])) (o4 c o hc e)
theorem pyNext_en {k:Bool} {n a:Nat} {i:Nat} {xs:Array Value} {x:Value} {Q:Option Value→Shared→Prop} (Z:En k n a i s.heap) (ha:a<n) (hs:SrcOf k s.heap a xs) (hx:xs[i]?=some x)
  (hQ:∀ h' t,IsEnumOut h' (n+1) n ((i:Int)+1) x s.heap.objs.size→ItAt k h' n a (i+1)→IsT h' s.heap.objs.size #[.int i t,x]→h'.objs.size=s.heap.objs.size+1→Off [n,n+1] s.heap h'→Q (some (.ref s.heap.objs.size)) { s with heap:=h',toks:=s.toks+1 }) :
  wpAny (model prog w) A (pyNext (.ref (n+1))) Q E s:=by
 have ty:s.TypeIs (.ref (n+1)) "enumerate":=by obtain ⟨last,ob⟩:=Z.ob;exact⟨_,ob,rfl⟩
 unfold pyNext
 exact wpAny_bind (wpAny_attempt (wpAny_callSpecial?_slot (name:=Str.ofString "__next__") ty F.slot_enumerate_next (wpAny_call_entry F.slot_enumerate_next ty F.entry_enumerate_next
  (en_next Z ha hs hx fun h' t b1 b2 b3 b4 b5=>wpAny_pure (hQ h' t b1 b2 b3 b4 b5)) (F.args_enumerate_next_1 _))))
theorem pyNext_en_end {k:Bool} {n a:Nat} {i:Nat} {xs:Array Value} {Q:Option Value→Shared→Prop} (hh:A.handled=none) (Z:En k n a i s.heap) (hs:SrcOf k s.heap a xs) (hx:xs[i]?=none)
  (hQ:∀ h',Off [n,n+1] s.heap h'→Q none { s with heap:=h' }):wpAny (model prog w) A (pyNext (.ref (n+1))) Q E s:=by
 obtain ⟨⟨last,ob⟩,src⟩:=Z
 have ty:s.TypeIs (.ref (n+1)) "enumerate":=⟨_,ob,rfl⟩
 unfold pyNext
 refine wpAny_bind (wpAny_attempt (wpAny_callSpecial?_slot (name:=Str.ofString "__next__") ty F.slot_enumerate_next (wpAny_call_entry F.slot_enumerate_next ty F.entry_enumerate_next ?_ (F.args_enumerate_next_1 _))))
 show wpAny _ _ (field (.ref (n+1)) 2 >>= _) _ _ _
 refine wpAny_bind (wpAny_field ob rfl (x:=.ref n) rfl (wpAny_bind (sub_end hh src hs hx fun h' e off ⟨o,ho,hc⟩=>?_)))
 exact wpAny_bind (wpAny_isInstance (T:="StopIteration") (b:=true) ⟨o,ho,hc⟩ isSubtype_stop (wpAny_pure (hQ _ fun c u hc e=>off c u (fun z=>hc (by simp [z])) e)))
noncomputable abbrev eh2 (k:Bool) (h:Heap) (a:Addr):Heap:=(h.push (itObj k a)).push { cls:=.type "enumerate",data:=.fields #[.none,.bool false,.ref h.objs.size,rawInt 0,.none,.none] }
end
end L2
namespace L2
open PySem
open AutoSeq1 (wpAny_loadPart')
theorem en_made (k:Bool) (a:Addr) (xs:Array Value) :
  Meets (Builtin.«enumerate.__new__» ⟨[.type "enumerate",.ref a],[]⟩) (fun _ R s=>SrcOf k s.heap a xs∧R (.ok (.ret (.ref (s.heap.objs.size+1)))) { s with heap:=eh2 k s.heap a }) :=
 .of_wp fun prog w A R s h=>by
  obtain ⟨hp,gg,dd,tt,oo⟩:=s
  obtain ⟨src,r⟩:=h
  have sub:=sub_enumerate
  have S:SrcOf k (Shared.heap ⟨hp,gg,dd,tt,oo⟩) a xs:=src
  obtain ⟨ob,e⟩:∃ ob,hp.get? a=some ob:=by
   cases k
   ·obtain ⟨ob,e,_⟩:=src;exact⟨ob,e⟩
   ·obtain ⟨ob,e,_⟩:=src;exact⟨ob,e⟩
  obtain ⟨oc,od,ot,os⟩:=ob
  have last:(hp.push (itObj k a)).objs.size=hp.objs.size+1:=Heap.size_push ..
  have r':R (.ok (.ret (.ref (hp.push (itObj k a)).objs.size))) ⟨eh2 k hp a,gg,dd,tt,oo⟩:=by rw [last];exact r
  wp_walk using wpAny_loadPart' e
  refine wpAny_stack_any fun st=>wpAny_pure ?_
  split
  ·rename_i c _ _ _ _ _
   cases (c == Value.type "enumerate") <;> (wp_walk using wpAny_loadPart' e,src_iter S;exact⟨_,rfl,r'⟩)
  ·wp_walk using wpAny_loadPart' e,src_iter S
   exact⟨_,rfl,r'⟩
end L2
namespace L2
open PySem PySem.Spec PyProof.Rows
noncomputable def Itn (K : PySem.W.Frag) (k : Bool) (a : Addr) : It :=
  ⟨fun i H => ∃ xs x, Sq k K H a xs ∧ xs[i]?=some x,
   fun i H v H' => ∃ p x, v=.ref p ∧ H p=none ∧ (∀ xs, Sq k K H a xs → xs[i]?=some x) ∧ H'=upd H p (.tup [.int i, x]),
   fun i H => ∃ xs, Sq k K H a xs ∧ xs.length ≤ i⟩
theorem turn_en {P:Program} {w:World} {K:PySem.W.Frag} {es:List Expr} {kk:Nat} {pos:Pos} {k:Bool} (n a:Nat) (ha:a<n) :
  Turn P w K (.Tuple es kk pos) (Itn K k a) [n+1,n] (n+1) (fun i h=>En k n a i h) where
 mem:=by simp
 obj:=fun i h st c hc=>by
  obtain ⟨⟨last,ob⟩,src⟩:=st
  simp only [List.mem_cons,List.not_mem_nil,or_false] at hc
  rcases hc with rfl|rfl
  ·exact⟨_,ob,fun v z=>nomatch z⟩
  ·exact src.obj
 keep:=fun i h h' st k=>by
  obtain ⟨⟨last,ob⟩,src⟩:=st
  exact⟨⟨last,k _ (by simp) _ ob⟩,src.keep fun o e=>k _ (by simp) o e⟩
 item:=by
  intro X hP hw hK hc i pins s σ H E I hf st hg
  subst hP hw hK
  obtain ⟨xs,x,qx,ex⟩:=hg
  obtain ⟨is1,r1,s1,_⟩:=I.sq qx
  obtain ⟨u,hu,ru⟩:=r1.get ex
  refine pyNext_en st ha s1 (x:=u) (by simpa using hu) fun h' t ob src hT hsz off=>⟨_,rfl,?_⟩
  have hTn:H s.heap.objs.size=none:=I.hok.fresh (Nat.le_refl _)
  have zlt:n+1<s.heap.objs.size:=by obtain ⟨last,b⟩:=st.ob;exact Heap.lt_size b
  refine wpAny_letOwnedTupleGo_enum ob fun h2 ob2 hs2=>?_
  have off2:Off [n+1,n] s.heap h2:=fun c o hc e=>(hs2.2 c fun z=>hc (by simp [z])).trans (off c o (fun z=>hc (by simp only [List.mem_cons,List.not_mem_nil,or_false] at z ⊢;exact z.symm)) e)
  have hT2:IsT h2 s.heap.objs.size #[.int i t,u]:=(hs2.2 _ (Nat.ne_of_gt zlt)).trans hT
  refine⟨.ref s.heap.objs.size,upd H s.heap.objs.size (.tup [.int i,x]),?_,rfl,⟨_,x,rfl,hTn,fun zs hzs=>by rw [I.sq_inj hzs qx];exact ex,rfl⟩,?_,fun c hc=>?_⟩
  ·refine Inv.off (s:=s) (h':=h2) (t':=s.toks+1) (ch:=[n+1,n]) I hf off2 (I.hok.offNew (fun c hc=>(hf c hc).1) off2 (Nat.le_refl _) ?_) (fun c o _ e hn=>?_) fun c o e=>?_
   ·exact⟨by show 2≤sizeLine;decide,[.int i t,u],.cons ⟨t,rfl⟩ (.cons ru .nil),⟨_,hT2,rfl,_,rfl⟩⟩
   ·rw [upd_ne (Nat.ne_of_lt (Heap.lt_size e))];exact hn
   ·rw [upd_ne (ne_of_none e hTn)];exact e
  ·exact⟨⟨_,ob2⟩,src.keep fun o e=>(hs2.2 _ (nne (by lia))).trans e⟩
  ·have cn:c≠s.heap.objs.size:=by
    simp only [List.mem_cons,List.not_mem_nil,or_false] at hc
    rcases hc with rfl|rfl <;> exact nne (by lia)
   rw [upd_ne cn];exact (hf c hc).1
 done:=by
  intro X hP hw hK hc i pins s σ H E I hf st hg
  subst hP hw hK
  obtain ⟨xs,qx,hend⟩:=hg
  obtain ⟨is1,r1,s1,_⟩:=I.sq qx
  have e1:=r1.length
  refine pyNext_en_end (I.ok.hd hc) st s1 (by simp;lia) fun h' off=>⟨rfl,?_⟩
  have off2:Off [n+1,n] s.heap h':=fun c o hc e=>off c o (fun z=>hc (by simp only [List.mem_cons,List.not_mem_nil,or_false] at z ⊢;exact z.symm)) e
  exact Inv.off (s:=s) (t':=s.toks) I hf off2 (I.hok.off (fun c hc=>(hf c hc).1) off2) (fun _ _ _ _ q=>q) fun _ _ q=>q
 self:=fun _ _ _ _ _ st h=>by
  obtain ⟨last,ob⟩:=st.ob
  exact wpAny_pyIter_enum ob h
section
variable {X:Cx}
noncomputable def iEnum (K:PySem.W.Frag) (k:Bool) (ta:TA):TI:=fun σ H R=>ta σ H fun vs H1=>∃ a,vs=[.ref a]∧(∃ xs,Sq k K H1 a xs)∧R (Itn K k a) H1
theorem pi_enum (k:Bool) {es:List Expr} {kk:Nat} {tpos:Pos} {a:Expr} {ta:TA} {p pos:Pos} (hg:Gl X "enumerate") (hm:X.mg "enumerate"=none) (ha:PA X [a] ta) (hs:starEach [a] X.env=[(false,eval a X.env)]:=by rfl) :
  PI X (.Tuple es kk tpos) (.Call (.Name "enumerate" p) [a] [] pos) (iEnum X.K k ta):=by
 intro pins s σ H R I h
 refine Call_ (ld_blt I hg hm boot_enumerate (PyProof.Rows.callWith_type1 (thn (ha pos pins s σ H _ I h) fun us s1 ⟨vs,H1,I1,r1,q1⟩=>?_) (by rw [hs];rfl) (by rfl)))
 obtain ⟨a',e,⟨xs,qx⟩,q⟩:=q1
 subst e
 obtain ⟨u,rfl,ru⟩:=vals1 r1
 cases ru
 obtain ⟨is1,r1,s1',_⟩:=I1.sq qx
 refine callType_new PySem.F.called_enumerate (by decide) (PySem.F.typeCall_enumerate_1 _) (PySem.F.newCall_enumerate_1 _) (fun obj=>PySem.F.args_object_init_2 obj _) PySem.F.entry_enumerate_new (en_made k a' is1.toArray) ⟨s1',?_⟩
 have z1:(s1.heap.push (itObj k a')).objs.size=s1.heap.objs.size+1:=Heap.size_push ..
 have g2:(eh2 k s1.heap a').get? (s1.heap.objs.size+1)=some { cls:=.type "enumerate",data:=.fields #[.none,.bool false,.ref s1.heap.objs.size,rawInt 0,.none,.none] }:=by rw [← z1];exact Heap.get?_push_size _ rfl
 have g1:(eh2 k s1.heap a').get? s1.heap.objs.size=some (itObj k a'):=Heap.get?_push_of_some _ (Heap.get?_push_size _ (by cases k <;> rfl))
 have old:∀ c o,s1.heap.get? c=some o→(eh2 k s1.heap a').get? c=some o:=fun c o x=>Heap.get?_push_of_some _ (Heap.get?_push_of_some _ x)
 have Z:En k s1.heap.objs.size a' 0 (eh2 k s1.heap a'):=⟨⟨_,g2⟩,itObj_at g1⟩
 show _∧_
 refine⟨⟨_,g2,rfl⟩,wpAny_pyIter_enum g2 ?_⟩
 refine⟨_,_,_,_,H1,rfl,I1.kept (t':=s1.toks) old,turn_en s1.heap.objs.size a' s1'.lt,Z,fun c hc=>?_,q⟩
 have hcl:s1.heap.objs.size≤c:=by
  simp only [List.mem_cons,List.not_mem_nil,or_false] at hc
  rcases hc with rfl|rfl <;> first|exact Nat.le_add_right _ _|exact Nat.le_refl _
 exact I1.fpOk hcl (I1.hok.fresh hcl)
theorem kpi_enum (K:PySem.W.Frag) (hK:X.K=K) (k:Bool) {es:List Expr} {kk:Nat} {tpos:Pos} {a:Expr} {ta:TA} {p pos:Pos} (hg:Gl X "enumerate") (hm:X.mg "enumerate"=none) (ha:PA X [a] ta) (hs:starEach [a] X.env=[(false,eval a X.env)]:=by rfl) :
  PI X (.Tuple es kk tpos) (.Call (.Name "enumerate" p) [a] [] pos) (iEnum K k ta):=hK ▸ pi_enum k hg hm ha hs
end
section
variable {K:PySem.W.Frag} {H:Hp} {σ:St} {D:Ends}
noncomputable def rItN (K:PySem.W.Frag) (k:Bool):List V→Hp→(It→Hp→Prop)→Prop:=fun vs H R=>∃ a,vs=[.ref a]∧(∃ xs,Sq k K H a xs)∧R (Itn K k a) H
theorem r_ienum {k:Bool} {ts:TA} {R:It→Hp→Prop} (h:ts σ H fun vs H1=>rItN K k vs H1 R):iEnum K k ts σ H R:=h
theorem r_isn {k:Bool} {a:Addr} {xs:List V} {R:It→Hp→Prop} (e:Sq k K H a xs) (h:R (Itn K k a) H):rItN K k [.ref a] H R:=⟨a,rfl,⟨_,e⟩,h⟩
end
end L2
namespace L2
open PySem PySem.Spec PyProof.Rows
inductive RowsL (K:PySem.W.Frag) (H:Hp):List V→List (List Int)→Prop where
 | nil:RowsL K H [] []
 | cons {a:Addr} {r:List Int} {xs:List V} {rs:List (List Int)} (h:SqT K H a (r.map V.int)) (t:RowsL K H xs rs):RowsL K H (.ref a::xs) (r::rs)
namespace RowsL
variable {K:PySem.W.Frag} {H H':Hp}
theorem length:∀ {xs:List V} {rs:List (List Int)},RowsL K H xs rs→rs.length=xs.length
 | _,_,.nil=>rfl
 | _,_,.cons _ t=>by rw [List.length_cons,List.length_cons,t.length]
theorem get:∀ {xs:List V} {rs:List (List Int)} {i:Nat} {x:V},RowsL K H xs rs→xs[i]?=some x→∃ a r,x=.ref a∧SqT K H a (r.map V.int)∧rs[i]?=some r
 | _,_,_,_,.nil,h=>by simp at h
 | _,_,0,_,.cons (a:=a) (r:=r) h _,e=>by
  simp at e
  exact⟨a,r,e.symm,h,rfl⟩
 | _,_,i+1,_,.cons _ t,e=>by
  obtain ⟨a,r,h1,h2,h3⟩:=get (i:=i) t (by simpa using e)
  exact⟨a,r,h1,h2,by simpa using h3⟩
theorem same:∀ {xs:List V} {rs:List (List Int)},RowsL K H xs rs→Same H H'→RowsL K H' xs rs
 | _,_,.nil,_=>.nil
 | _,_,.cons h t,s=>.cons (s.at h) (t.same s)
theorem append:∀ {xs ys:List V} {rs qs:List (List Int)},RowsL K H xs rs→RowsL K H ys qs→RowsL K H (xs++ys) (rs++qs)
 | _,_,_,_,.nil,u=>u
 | _,_,_,_,.cons h t,u=>.cons h (t.append u)
theorem snoc {xs:List V} {rs:List (List Int)} {a:Addr} {r:List Int} (t:RowsL K H xs rs) (h:SqT K H a (r.map V.int)):RowsL K H (xs++[.ref a]) (rs++[r]):=t.append (.cons h .nil)
theorem off {l:Addr} {ys zs:List V}:∀ {xs:List V} {rs:List (List Int)},RowsL K H xs rs→H l=some (.lst ys)→RowsL K (upd H l (.lst zs)) xs rs
 | _,_,.nil,_=>.nil
 | _,_,.cons h t,e=>.cons ((rm_sqT h e).imp (fun q=>q.imp (fun q=>by rw [upd_ne (fun z=>by rw [z,rm_at] at q;cases q)];exact rm_same _ _ q) fun ⟨o,q⟩=>⟨o,by rw [upd_ne (fun z=>by rw [z,rm_at] at q;cases q)];exact rm_same _ _ q⟩) id) (t.off e)
end RowsL
theorem upd_sqT {K:PySem.W.Frag} {H:Hp} {l a:Addr} {xs ys zs:List V} (h:SqT K H a xs) (e:H l=some (.lst ys)):SqT K (upd H l (.lst zs)) a xs :=
 (rm_sqT h e).imp (fun q=>q.imp (fun q=>by rw [upd_ne (fun z=>by rw [z,rm_at] at q;cases q)];exact rm_same _ _ q) fun ⟨o,q⟩=>⟨o,by rw [upd_ne (fun z=>by rw [z,rm_at] at q;cases q)];exact rm_same _ _ q⟩) id
section
variable {K:PySem.W.Frag} {H:Hp} {σ:St} {Q:VK} {ix:List (Option Nat)}
theorem comp_rows {J:It} {g:TG} {tt:TT} {te:TE} (t:Nat) (fr:St) (n:Nat) (rs:Nat→List (List Int)) (hpk:pick ix σ=List.replicate t none++fr) (h0:rs 0=[]) (hn:∀ i,(rs i).length≤1000)
  (hstop:∀ H',Same H H'→J.stop n H') (hgo:∀ i H',i<n→Same H H'→J.go i H')
  (step:∀ i x H' H2 own,own.length=t→i<n→Same H H'→J.yld i H' x H2→∀ (Qy:St→VK) (Qn:St→Hp→Prop),
   (∀ own2 a r H5,own2.length=t→Same H' H5→SqT K H5 a (r.map V.int)→rs (i+1)=rs i++[r]→Qy (own2++fr) (.ref a) H5)→(∀ own2 H4,own2.length=t→Same H' H4→rs (i+1)=rs i→Qn (own2++fr) H4) →
   g x (own++fr) H2 fun σ2 H3=>tt σ2 H3 fun b H4=>if b=true then te σ2 H4 (Qy σ2) else Qn σ2 H4)
  (hQ:∀ l H' ys,H l=none→Same H H'→H' l=some (.lst ys)→RowsL K H' ys (rs n)→Q (.ref l) H'):CompGoal ix g tt te σ Q J H:=by
 intro l hl
 refine⟨fun i m σ1 ys H'=>m=n - i∧i≤n∧(∃ own:St,own.length=t∧σ1=own++fr)∧Same H H'∧H' l=some (.lst ys)∧RowsL K H' ys (rs i),⟨n,by simp,Nat.zero_le _,⟨_,List.length_replicate,hpk⟩,Same.upd_new hl,upd_same,by rw [h0];exact .nil⟩,?_⟩
 rintro i m σ1 ys H' ⟨rfl,hi,⟨own,ho,rfl⟩,hs,hl',hr⟩
 refine⟨hl',?_⟩
 by_cases hlt:i<n
 ·refine .inr ⟨hgo i H' hlt hs,n - (i+1),by lia,fun x H2 hy=>step i x H' H2 own ho hlt hs hy _ _ (fun own2 a r H5 ho2 s5 ha er=>?_) fun own2 H4 ho2 s4 er=>?_⟩
  ·have l5:=s5 _ _ hl'
   refine⟨l5,Nat.lt_of_le_of_lt (by rw [← hr.length];exact hn i) (small1000 (Nat.le_refl 1000)),rfl,hlt,⟨own2,ho2,rfl⟩,fun b o e=>?_,upd_same,?_⟩
   ·rw [upd_ne (ne_of_none e hl)]
    exact s5 _ _ (hs _ _ e)
   ·rw [er]
    exact ((hr.same s5).off l5).snoc (upd_sqT ha l5)
  ·exact⟨rfl,hlt,⟨own2,ho2,rfl⟩,hs.trans s4,s4 _ _ hl',by rw [er];exact hr.same s4⟩
 ·obtain rfl:i=n:=by lia
  exact .inl ⟨hstop H' hs,hQ l H' ys hl hs hl' hr⟩
end
end L2
namespace L2
open PySem PySem.Spec PyProof.Rows PySem.W
noncomputable def ExcM (h:Heap) (H:Hp) (h0:Heap) (ps:List (Addr×Obj)) (L a C:Addr):Prop:=∃ oe vs T oT ts,h.get? a=some oe∧oe.cls=.ref C∧oe.dict=none∧oe.data=.fields vs∧1<vs.size∧vs[1]?=some (.ref T)∧T≠a∧h.get? T=some oT∧oT.data=.fields ts∧ts[3]?=some (rawInt L) ∧
 H a=none∧(h0.get? a=none∧∀ p∈ps,p.1≠a)∧H T=none∧h0.get? T=none∧∀ p∈ps,p.1≠T
noncomputable def XM (X:Cx) (EX:EXT):Value→Shared→Prop:=fun e s'=>∃ a C σ' H',e=.ref a∧Inv X.nox [] σ' H' s'∧ExcM s'.heap H' X.s₀.heap X.pn X.env.locals a C∧EX C σ' H'
noncomputable def XP (X:Cx) (EX:EXT):Value→Shared→Prop:=fun e s'=>XW X EX e s'∨XM X EX e s'
end L2
set_option maxRecDepth 100000
namespace L2
open PySem PySem.Spec PyProof.Rows
section
variable {K:PySem.W.Frag} {H:Hp} {Q:VK} {σ:St}
theorem cutV_hi {xs:List V} {j:Nat}:cutV xs none (some (j:Int))=xs.take j:=by
 unfold cutV
 rw [HT.sIx_none,HT.sIx_nat,Nat.sub_zero,List.drop_zero]
 by_cases h:j≤xs.length
 ·rw [Nat.min_eq_left h]
 ·rw [Nat.min_eq_right (by lia),List.take_of_length_le (by lia),List.take_of_length_le (by lia)]
theorem r_slHi {a:Addr} {xs:List V} {j:Nat} (e:SqL K H a xs) (h:∀ p H2,H p=none→Same H H2→H2 p=some (.lst (xs.take j))→Q (.ref p) H2):rSlL K (.ref a) none (some (j:Int)) H Q :=
 r_slL e fun p H2 n s m=>h p H2 n s (by rw [cutV_hi] at m;exact m)
end
end L2
set_option maxRecDepth 100000
set_option maxRecDepth 100000
set_option maxRecDepth 100000
namespace L2
open PySem PySem.Spec PyProof.Rows
section
variable {K:PySem.W.Frag} {H H':Hp}
theorem rows_of_pairs:∀ {zs:List (List Int×V)},(∀ p∈zs,∃ a,p.2=.ref a∧SqT K H a (p.1.map V.int))→RowsL K H (zs.map Prod.snd) (zs.map Prod.fst)
 | [],_=>.nil
 | p::zs,h=>by
  obtain ⟨a,e,q⟩:=h p (List.mem_cons_self ..)
  rw [List.map_cons,List.map_cons,e]
  exact .cons q (rows_of_pairs fun z hz=>h z (List.mem_cons_of_mem _ hz))
theorem RowsL.pair:∀ {xs:List V} {rs:List (List Int)},RowsL K H xs rs→∀ p∈rs.zip xs,∃ a,p.2=.ref a∧SqT K H a (p.1.map V.int)
 | _,_,.nil=>fun p hp=>by cases hp
 | _,_,.cons h t=>fun p hp=>by
  rcases List.mem_cons.mp hp with rfl|hp
  ·exact⟨_,rfl,h⟩
  ·exact t.pair p hp
theorem sorted_rows {xs ys:List V} {rs:List (List Int)} (f:List Int→Int) (hr:RowsL K H xs rs) (so:SortedBy false (rs.map f) xs ys) (s:Same H H'):∃ qs,RowsL K H' ys qs∧qs.Perm rs∧qs.Pairwise fun a b=>f a≤f b:=by
 obtain ⟨ps,hp,rfl,hw⟩:=so
 have ez:(rs.map f).zip xs=(rs.zip xs).map fun p=>(f p.1,p.2):=by rw [List.zip_map_left];rfl
 obtain ⟨zs,pz,rfl⟩:=Mth.perm_of_map hp ez
 refine⟨zs.map Prod.fst,?_,?_,?_⟩
 ·rw [List.map_map]
  exact (rows_of_pairs (zs:=zs) fun p h=>hr.pair p (pz.mem_iff.mp h)).same s
 ·have:=pz.map Prod.fst
  rw [List.map_fst_zip (by rw [hr.length];exact Nat.le_refl _)] at this
  exact this
 ·rw [List.pairwise_map] at hw ⊢
  exact hw.imp fun h=>h
end
end L2
set_option maxRecDepth 100000
set_option maxRecDepth 100000
namespace L2
open PySem PySem.Spec PyProof.Rows
inductive KeysL (K:PySem.W.Frag) (H:Hp):List V→List (List Int×Int)→Prop where
 | nil:KeysL K H [] []
 | cons {a w:Addr} {r:List Int} {m:Int} {xs:List V} {ks:List (List Int×Int)} (h:SqT K H a [.ref w,.int m]) (hw:SqT K H w (r.map V.int)) (t:KeysL K H xs ks):KeysL K H (.ref a::xs) ((r,m)::ks)
namespace KeysL
variable {K:PySem.W.Frag} {H H':Hp}
theorem length:∀ {xs:List V} {ks:List (List Int×Int)},KeysL K H xs ks→ks.length=xs.length
 | _,_,.nil=>rfl
 | _,_,.cons _ _ t=>by rw [List.length_cons,List.length_cons,t.length]
theorem get:∀ {xs:List V} {ks:List (List Int×Int)} {i:Nat} {x:V},KeysL K H xs ks→xs[i]?=some x→∃ a w k,x=.ref a∧SqT K H a [.ref w,.int k.2]∧SqT K H w (k.1.map V.int)∧ks[i]?=some k
 | _,_,_,_,.nil,h=>by simp at h
 | _,_,0,_,.cons (a:=a) (w:=w) (r:=r) (m:=m) h hw _,e=>by
  simp at e
  exact⟨a,w,(r,m),e.symm,h,hw,rfl⟩
 | _,_,i+1,_,.cons _ _ t,e=>by
  obtain ⟨a,w,k,h1,h2,h3,h4⟩:=get (i:=i) t (by simpa using e)
  exact⟨a,w,k,h1,h2,h3,by simpa using h4⟩
theorem same:∀ {xs:List V} {ks:List (List Int×Int)},KeysL K H xs ks→Same H H'→KeysL K H' xs ks
 | _,_,.nil,_=>.nil
 | _,_,.cons h hw t,s=>.cons (s.at h) (s.at hw) (t.same s)
theorem append:∀ {xs ys:List V} {ks js:List (List Int×Int)},KeysL K H xs ks→KeysL K H ys js→KeysL K H (xs++ys) (ks++js)
 | _,_,_,_,.nil,u=>u
 | _,_,_,_,.cons h hw t,u=>.cons h hw (t.append u)
theorem snoc {xs:List V} {ks:List (List Int×Int)} {a w:Addr} {r:List Int} {m:Int} (t:KeysL K H xs ks) (h:SqT K H a [.ref w,.int m]) (hw:SqT K H w (r.map V.int)):KeysL K H (xs++[.ref a]) (ks++[(r,m)]):=t.append (.cons h hw .nil)
theorem off {l:Addr} {ys zs:List V}:∀ {xs:List V} {ks:List (List Int×Int)},KeysL K H xs ks→H l=some (.lst ys)→KeysL K (upd H l (.lst zs)) xs ks
 | _,_,.nil,_=>.nil
 | _,_,.cons h hw t,e=>.cons (upd_sqT h e) (upd_sqT hw e) (t.off e)
end KeysL
theorem rd_compL {K:PySem.W.Frag} {a:Addr} {xs:List V} {H1:Hp} {ix:List (Option Nat)} {σ:St} {te:TE} {Q:VK} (fr:St) (f:Nat→V) (hpk:pick ix σ=none::fr) (ha:SqL K H1 a xs) (hn:xs.length≤1000000)
  (step:∀ (i:Nat) x H' (Qc:VK),xs[i]?=some x→Same H1 H'→(∀ H5,Same H' H5→Qc (f i) H5)→te (some x::fr) H' Qc)
  (hQ:∀ l H',H1 l=none→Same H1 H'→H' l=some (.lst ((List.range xs.length).map f))→Q (.ref l) H'):CompGoal ix (gName 0) (fun _ H Q=>Q true H) te σ Q (Itl K a) H1:=by
 refine rd_comp1 fr xs.length f hpk hn (fun H' s=>⟨xs,s.seq ha,Nat.le_refl _⟩) (fun i H' hi s=>⟨xs,xs[i],s.seq ha,List.getElem?_eq_getElem hi⟩) (fun i x H' H2 Qc hi s hy kc=>?_) hQ
 obtain ⟨rfl,e⟩:=hy
 exact step i x _ Qc (e xs (s.seq ha)) s kc
end L2
set_option maxRecDepth 100000
namespace L2
open PySem PySem.Spec PyProof.Rows
section
variable {X:Cx} {pins:List (Addr×Obj)} {σ:St} {H:Hp} {s:Shared}
theorem sort_restC {a kS f:Addr} {e1:Nat} {b:Bool} {vs:List Value} {xs:List V} {kz:List Int} {P:PySem.Fin→Shared→Prop} {E:Value→Shared→Prop}
  (KC:∀ (pins':List (Addr×Obj)) (H':Hp) (s':Shared) (i:Nat) (x:V) (u:Value) (n:Int),(∀ p∈pins,p∈pins')→xs[i]?=some x→kz[i]?=some n→Same H H'→RelV x u→Inv X pins' σ H' s'→wpAny (model X.prog X.w) X.A.in1.in1 (call (.ref f) [u]) (EP X pins' σ fun v H''=>v=.int n∧Same H' H'') (fun _ _=>False) s')
  (I:Inv X ((pins++[(a,seqObj "list" #[] e1)])++[(kS,seqObj "list" #[] 0)]) σ H s) (h0:X.s₀.heap.get? kS=none) (hc:∀ x c,X.env.cells.lookup x=some c→c≠kS) (hp:∀ p∈X.pn++(pins++[(a,seqObj "list" #[] e1)]),p.1≠kS)
  (hv:Vals xs vs) (hlen:kz.length=vs.length) (h64:vs.length<64)
  (done:∀ H' s' kA e,Inv X ((pins++[(a,seqObj "list" #[] e1)])++[(kS,seqObj "list" kA e)]) σ H' s'→Same H H'→IntsAre kA.toList kz→wpAny (model X.prog X.w) X.A.in1.in1 (ksk_end a b vs.toArray e1 (.ref kS) kA) P E s') :
  wpAny (model X.prog X.w) X.A.in1.in1 (ksk_rest a (.ref f) b vs.toArray e1 (.ref kS)) P E s:=by
 have lens:xs.length=vs.length:=hv.length
 let Wk:Nat→Shared→Prop:=fun i s'=>∃ H' kA e,Inv X ((pins++[(a,seqObj "list" #[] e1)])++[(kS,seqObj "list" kA e)]) σ H' s'∧Same H H'∧IntsAre kA.toList (kz.take i)
 have start:Wk 0 s:=⟨H,#[],0,I,Same.refl _,by rw [List.take_zero];exact .nil⟩
 have last:∀ s',Wk (0+vs.length) s'→wpAny (model X.prog X.w) X.A.in1.in1 (do let keys ← Builtin.List.listItems (.ref kS);ksk_end a b vs.toArray e1 (.ref kS) keys) P E s':=by
  rintro s' ⟨H',kA,e,I',sm,hk⟩
  rw [Nat.zero_add,List.take_of_length_le (Nat.le_of_eq hlen)] at hk
  exact wpAny_bind (listItems_at (top_pin I') rfl (done H' s' kA e I' sm hk))
 rw [ksk_rest]
 refine wpAny_bind (wpAny_rule ?_)
 rw [List.forIn_toArray]
 refine wpAny_bind (ksk_fold Wk vs 0 s start (fun j u s' hu w=>?_) last)
 rw [Nat.zero_add] at w ⊢
 obtain ⟨H',kA,e,I',sm,hk⟩:=w
 have hj:=(List.getElem?_eq_some_iff.mp hu).1
 have few:kA.size+1≤64:=by
  have q:=hk.length
  rw [Array.length_toList,List.length_take] at q
  lia
 obtain ⟨u',eu,ru⟩:=hv.get (List.getElem?_eq_getElem (lens.symm ▸ hj:j<xs.length))
 cases hu.symm.trans eu
 have hn:kz[j]?=some (kz[j]'(hlen.symm ▸ hj)):=List.getElem?_eq_getElem _
 refine wpAny_bind (wpAny_attempt (wpAny_mono (KC _ H' s' j _ _ _ (fun p hp=>List.mem_append_left _ (List.mem_append_left _ hp)) (List.getElem?_eq_getElem _) hn sm ru I') ?_ fun _ _ no=>no.elim))
 rintro _ s2 ⟨y,H2,I2,ry,rfl,sm2⟩
 obtain ⟨t2,rfl⟩:=ry
 have at2:=top_pin I2
 refine wpAny_bind (listUpdate_at at2 rfl ?_ (by rw [sizeLine_eq];lia) (by rw [Array.size_push,sizeLine_eq];lia))
 exact wpAny_pure ⟨rfl,H2,_,_,I2.wrote h0 hc hp (Heap.SameBut.update _ _ _) (get?_update_seq at2 _) (fun _ z=>nomatch z),sm.trans sm2,took hk hn⟩
theorem sort_treeC {a f:Addr} {n:Nat} {b:Bool} {vs:List Value} {xs:List V} {kz:List Int} {P:PySem.Fin→Shared→Prop} {E:Value→Shared→Prop}
  (KC:∀ (pins':List (Addr×Obj)) (H':Hp) (s':Shared) (i:Nat) (x:V) (u:Value) (n:Int),(∀ p∈pins,p∈pins')→xs[i]?=some x→kz[i]?=some n→Same H H'→RelV x u→Inv X pins' σ H' s'→wpAny (model X.prog X.w) X.A.in1.in1 (call (.ref f) [u]) (EP X pins' σ fun v H''=>v=.int n∧Same H' H'') (fun _ _=>False) s') (I:Inv X pins σ H s) (ho:s.heap.get? a=some (seqObj "list" vs.toArray n)) (hfp:FpOk X pins H a) (hs0:X.s₀.heap.objs.size≤a)
  (hv:Vals xs vs) (hlen:kz.length=vs.length) (h64:vs.length<64)
  (hP:∀ s' H' ys,Same H H'→H' a=none→Inv X pins σ (upd H' a (.lst ys)) s'→SortedBy b kz xs ys→P (.done (.ret .none)) s') :
  wpAny (model X.prog X.w) X.A.in1.in1 (ksk_tree a (.ref f) b) P E s:=by
 obtain ⟨g0,g1,g2,_,g4,g5⟩:=hfp
 have a0:X.s₀.heap.get? a=none:=Heap.get?_none_of_le hs0
 have s1:=Heap.SameBut.update s.heap a (Obj.mapSeq fun _=>(#[]:Array Value))
 obtain ⟨e1,ho1⟩:∃ e1,(s.heap.update a (Obj.mapSeq fun _=>(#[]:Array Value))).get? a=some (seqObj "list" #[] e1):=⟨_,get?_update_seq ho fun _=>#[]⟩
 have I0:Inv X (pins++[(a,seqObj "list" vs.toArray n)]) σ H s:=I.pins_of fun p hp=>(List.mem_append.mp hp).elim (fun z=>I.pin p (List.mem_append_right _ z)) fun z=>by
  rw [List.mem_singleton.mp z]
  exact⟨ho,g0,g1,g2,fun v z=>nomatch z⟩
 have I1:Inv X (pins++[(a,seqObj "list" #[] e1)]) σ H { s with heap:=s.heap.update a (Obj.mapSeq fun _=>(#[]:Array Value)),toks:=s.toks }:=I0.wrote a0 g4 g5 s1 ho1 fun v z=>nomatch z
 unfold ksk_tree
 refine wpAny_bind (listItems_at ho rfl ?_)
 refine wpAny_bind (listUpdate_at ho rfl ?_ (by rw [List.size_toArray,sizeLine_eq];lia) (Nat.zero_le _))
 refine wpAny_bind (seqEpoch_at ho1 rfl ?_)
 refine wpAny_bind (wpAny_newTuple ?_ (by show vs.length≤_;rw [sizeLine_eq];lia))
 refine wpAny_bind (wpAny_newList ?_ (Nat.zero_le _))
 refine wpAny_holding ?_
 generalize hh1:s.heap.update a (Obj.mapSeq fun _=>(#[]:Array Value))=h1 at I1
 have lk:h1.objs.size≤(h1.push (seqObj "tuple" vs.toArray 0)).objs.size:=by rw [size_push'];exact Nat.le_succ _
 have I2:Inv X (pins++[(a,seqObj "list" #[] e1)]) σ H { s with heap:=(h1.push (seqObj "tuple" vs.toArray 0)).push (seqObj "list" #[] 0),toks:=s.toks } :=
  I1.kept (t':=s.toks) fun b o q=>Heap.get?_push_of_some _ (Heap.get?_push_of_some _ q)
 have hkn:H (h1.push (seqObj "tuple" vs.toArray 0)).objs.size=none:=I1.hok.fresh lk
 obtain ⟨_,q1,q2,_,q4,q5⟩:FpOk X (pins++[(a,seqObj "list" #[] e1)]) H (h1.push (seqObj "tuple" vs.toArray 0)).objs.size:=I1.fpOk lk hkn
 have k0:X.s₀.heap.get? (h1.push (seqObj "tuple" vs.toArray 0)).objs.size=none:=Heap.get?_none_of_le (Nat.le_trans I1.sz lk)
 have I3:Inv X ((pins++[(a,seqObj "list" #[] e1)])++[((h1.push (seqObj "tuple" vs.toArray 0)).objs.size,seqObj "list" #[] 0)]) σ H { s with heap:=(h1.push (seqObj "tuple" vs.toArray 0)).push (seqObj "list" #[] 0),toks:=s.toks } :=
  I2.pins_of fun p hp=>(List.mem_append.mp hp).elim (fun z=>I2.pin p (List.mem_append_right _ z)) fun z=>by
   rw [List.mem_singleton.mp z]
   exact⟨Heap.get?_push_size _ rfl,hkn,q1,q2,fun v z=>nomatch z⟩
 refine sort_restC KC I3 k0 q4 q5 hv hlen h64 fun H' s' kA e I' sm hk=>?_
 obtain ⟨_,an,_⟩:=I'.pin (a,seqObj "list" #[] e1) (List.mem_append_right _ (List.mem_append_left _ (List.mem_append_right _ (List.mem_singleton.mpr rfl))))
 exact sort_end I' ⟨a0,g4,g5⟩ ⟨k0,q4,q5⟩ hk hv hlen h64 fun h' tk ys J so=>hP _ H' ys sm an J so
theorem call_sortedKC {l f:Addr} {xs:List V} {kz:List Int} {Q:VK}
  (KC:∀ (pins':List (Addr×Obj)) (H':Hp) (s':Shared) (i:Nat) (x:V) (u:Value) (n:Int),(∀ p∈pins,p∈pins')→xs[i]?=some x→kz[i]?=some n→Same H H'→RelV x u→Inv X pins' σ H' s'→wpAny (model X.prog X.w) X.A.in1.in1 (call (.ref f) [u]) (EP X pins' σ fun v H''=>v=.int n∧Same H' H'') (fun _ _=>False) s') (I:Inv X pins σ H s) (hs:SqL X.K H l xs) (hlen:kz.length=xs.length) (h64:xs.length<64)
  (hQ:∀ p H' ys,Same H H'→H' p=some (.lst ys)→SortedBy false kz xs ys→Q (.ref p) H') :
  wpAny (model X.prog X.w) X.A (call (.builtin "sorted") [.ref l] [(Str.ofString "key",.ref f)]) (EP X pins σ Q) X.xe s:=by
 obtain ⟨vs,hv,pl,_⟩:=I.list hs
 have hl:s.heap.IsList l vs.toArray:=by
  obtain ⟨o,n,h1,h2,h3⟩:=pl
  exact⟨o,h1,h2,n,h3.2⟩
 have hvl:vs.length<64:=by rw [← hv.length];exact h64
 have few:vs.length≤sizeLine:=by rw [sizeLine_eq];lia
 refine call_function_entry_kw kind_sorted plain_sorted entry_sorted (ksk_s1 _ _) ?_
 rw [Builtin.«sorted»]
 refine wpAny_bind (m:=checkCount "sorted" 1 1 _) (wpAny_pure (wpAny_bind (collect_list hl ?_ few)))
 generalize hc:(s.heap.push (seqObj "list" #[] 0)).update s.heap.objs.size (Obj.mapSeq (·++vs.toArray))=hcol
 have ecol:hcol.objs.size=s.heap.objs.size+1:=by rw [← hc,Heap.size_update,size_push']
 have kcol:∀ b o,s.heap.get? b=some o→hcol.get? b=some o:=fun b o q=>by
  rw [← hc,(Heap.SameBut.update _ _ _).2 b (Nat.ne_of_lt (Heap.lt_size q))]
  exact Heap.get?_push_of_some _ q
 have low:s.heap.objs.size≤hcol.objs.size:=by lia
 have I2:Inv X pins σ H { s with heap:=hcol.push (seqObj "list" vs.toArray 0),toks:=s.toks }:=I.kept fun b o q=>Heap.get?_push_of_some _ (kcol b o q)
 have own:(hcol.push (seqObj "list" vs.toArray 0)).get? hcol.objs.size=some (seqObj "list" vs.toArray 0):=Heap.get?_push_size _ rfl
 refine wpAny_bind (wpAny_newList ?_ few)
 refine wpAny_bind (wpAny_holding (wpAny_call_entry_kw (s:={ s with heap:=hcol.push (seqObj "list" vs.toArray 0) }) slot_list_sort ⟨_,own,rfl⟩ entry_list_sort ?_ (ksk_l1 _ _)))
 show wpAny (model X.prog X.w) X.A.in1.in1 (Builtin.«list.sort» ⟨[.ref hcol.objs.size],[(Str.ofString "key",.ref f)]⟩) _ _ _
 rw [ksk_t1]
 refine sort_treeC KC I2 own (I.fpOk low (I.hok.fresh low)) (Nat.le_trans I.sz low) hv (hlen.trans hv.length) hvl fun s' H' ys sm hn J so=>⟨_,rfl,?_⟩
 exact wpAny_pure ⟨_,rfl,.ref hcol.objs.size,_,J,rfl,hQ _ _ ys (sm.trans (Same.upd_new hn)) upd_same so⟩
end
end L2
set_option maxRecDepth 100000
namespace L2
open PySem PySem.Spec PyProof.Rows PySem.W
noncomputable abbrev lamCx (X:Cx) (A:Around) (N:List Str) (qual:Str) (scope:Scope) (f:Addr) (cd:Value) (s:Shared) (H:Hp):Cx :=
 { X with A:=A.deeper (envX qual scope s.heap.objs.size f cd (clOf X.env.cells scope.names [])),N:=N,s₀:=s,H₀:=H,env:=envX qual scope s.heap.objs.size f cd (clOf X.env.cells scope.names []),outer:=X.stack,stack:=envX qual scope s.heap.objs.size f cd (clOf X.env.cells scope.names [])::X.stack,ex:=[],fn:=fun _=>false,calm:=true,pn:=[],xe:=fun _ _=>False }
section
variable {X:Cx} {pins:List (Addr×Obj)} {σ:St} {H:Hp} {s:Shared}
theorem lam_call {A:Around} {f c':Addr} {qual p:Str} {fns:List Str} {ixs:List (Option Nat)} {params:Arguments} {body:Expr} {scope:Scope} {pm ctv:Value} {x:V} {u:Value} {te:TE} {Q:VK}
  (I:Inv X pins σ H s) (hd:A.handled=none) (hfrm:A.frames=some X.stack) (hroom:A.depth<recursionLimit)
  (ho:s.heap.get? f=some (kla_obj "<lambda>" qual params body scope (clOf X.env.cells scope.names []) pm c' ctv)) (hcd:s.heap.CodeRec (.ref c') qual)
  (hbind:bindArgs (kla_fn "<lambda>" qual params body scope (clOf X.env.cells scope.names []) pm (.ref c') ctv) ⟨[u],[]⟩=pure [(p,u)])
  (hloc:scope.names.lookup p=some .local) (hco:scope.isCoroutine=false) (hgen:scope.isGenerator=false) (hk:scope.kind=.function) (hcell:∀ y∈scope.names,y.2≠.cell)
  (hfr0:(scope.names.all fun y=>!(y.2 == NameKind.free) || (X.env.cells.lookup y.1).isSome)=true) (hix:IxOk X scope fns ixs)
  (he:PE (lamCx X A (p::fns) qual scope f (.ref c') s H) body te) (r:RelV x u) (h:te (some x::pick ixs σ) H Q) :
  wpAny (model X.prog X.w) A (call (.ref f) [u]) (EP X pins σ Q) (fun _ _=>False) s:=by
 have hfr:∀ y∈scope.names,y.2=.free→(X.env.cells.lookup y.1).isSome=true:=fun y hy e=>by
  have z:=List.all_eq_true.mp hfr0 y hy
  rw [e] at z
  simpa using z
 have clsub:∀ x c,(clOf X.env.cells scope.names []).lookup x=some c→X.env.cells.lookup x=some c:=clOf_sub (fun x c q=>by simp at q)
 have clhas:∀ x,scope.names.lookup x=some .free→∃ c,(clOf X.env.cells scope.names []).lookup x=some c:=fun x hx=>by
  have hm:=PySem.mem_of_lookup hx
  exact Option.isSome_iff_exists.mp (clOf_has (.inr ⟨hm,hfr _ hm rfl⟩))
 refine wpAny_call (codeAny_mono (show codeAny _ _ _ (CR CX0 X.stack X.prog X.w H s Q E0) s from ?_) fun r s' hq=>?_)
 ·refine kla_callFunE hroom ho rfl hco hgen rfl hcd ?_
  rw [hbind]
  refine wpAny_pure (wpAny_newFunctionEnv hcell (fun y hy=>by rw [List.mem_singleton.mp hy];exact hloc) (fun h₁ hns hsb=>⟨I.nolimit.fresh _ hsb,?_⟩) hk)
  show codeAny _ _ (.expr body (envX qual scope s.heap.objs.size f (.ref c') (clOf X.env.cells scope.names []))) _ _
  have old:∀ b o,s.heap.get? b=some o→h₁.get? b=some o:=fun b o e=>hsb.extBut b o (Nat.ne_of_lt (Heap.lt_size e)) (Heap.get?_push_of_some _ e)
  have J:Inv (lamCx X A (p::fns) qual scope f (.ref c') s H) [] (some x::pick ixs σ) H { s with heap:=h₁,toks:=s.toks+[(p,u)].length }:=by
   refine⟨⟨I.ok.mod,hk,rfl,rfl,Nat.le_refl _,fun x y c q1 q2=>I.ok.inj x y c (clsub x c q1) (clsub y c q2),fun x hx=>?_,fun x c hf _=>absurd hf Bool.false_ne_true,fun _=>hd,Around.frames_deeper hfrm,.inr ⟨rfl,rfl⟩,fun b hb=>(nomatch hb),I.bs,Nat.le_trans I.ok.bsz I.sz,fun b _ _ hb=>(nomatch hb),fun b hb=>(nomatch hb),I.stack,I.stkFree⟩,
    rfl,I.bare,Un.kept old,⟨_,hns,fun i y v h1 h2 h3=>?_⟩,fun x c q=>?_,I.hok.fresh (Nat.le_refl _),fun x c q=>I.freeC x c (clsub x c q),fun p hp=>(nomatch hp),I.hok.kept old,?_⟩
   ·rcases hx with hx|hx
    ·exact absurd rfl (hcell _ (PySem.mem_of_lookup hx))
    ·exact clhas x hx
   ·match i with
    | 0 =>
     have e1:p=y:=by simpa using h1
     have e2:x=v:=by simpa using h2
     subst e1
     subst e2
     exact⟨u,r,.inl ⟨hloc,by simp⟩⟩
    | i+1 =>
     obtain ⟨j,e1,e2⟩:=pick_get (show (pick ixs σ)[i]?=some (some v) by simpa using h2)
     obtain ⟨a1,a2,a3,a4⟩:=hix.get (show fns[i]?=some y by simpa using h1) e1
     obtain ⟨mX,hnX,hlX⟩:=I.loc
     obtain ⟨u',ru,l⟩:=hlX j y v a1 e2 a2
     refine⟨u',ru,?_⟩
     rcases l with ⟨l1,_⟩|⟨_,c,lc,z⟩
     ·have l1':X.env.scope.names.lookup y=some .local:=l1
      rw [l1'] at a3
      exact absurd a3 (by decide)
     ·obtain ⟨c',hc'⟩:=clhas y a4
      have ec:=clsub y c' hc'
      rw [lc] at ec
      have ec':c=c':=Option.some.inj ec
      subst ec'
      exact .inr ⟨.inr a4,c,hc',z.keeps old⟩
   ·obtain ⟨v,z⟩:=I.cell x c (clsub x c q)
    exact⟨v,z.keeps old⟩
   ·show (some x::pick ixs σ).length=(p::fns).length
    unfold pick
    rw [List.length_cons,List.length_map,List.length_cons,hix.len]
  refine kla_codeExpr (wpAny_mono (he [] _ _ H Q J h) (fun v s' hv=>?_) fun _ _ no=>no.elim)
  obtain ⟨y,H',J',rv,q⟩:=hv
  exact⟨y,H',J'.os,J'.bare,J'.base,J'.hok,rv,q⟩
 ·cases r with
  | error e=>exact hq
  | ok fl =>
   cases fl with
   | ret u=>exact I.after hq
   | next=>exact False.elim hq
   | brk=>exact False.elim hq
   | cont=>exact False.elim hq
end
end L2
set_option maxRecDepth 100000
namespace L2
open PySem PySem.Spec PyProof.Rows PySem.W
noncomputable def SameT (P:Addr) (H H':Hp):Prop:=∀ b o,b≠P→H b=some o→H' b=some o
noncomputable def codeO (c:Addr) (q:Str):HO:=.ext fun h=>h.CodeRec (.ref c) q
noncomputable def TabH (P:Addr) (lp:Pos) (q:Str) (H:Hp):Prop:=∃ ps:Array Value,H P=some (.tbl ps)∧TriplesOk ps.toList∧(codeAmong lp ps.toList=none∨∃ c,codeAmong lp ps.toList=some (.ref c)∧H c=some (codeO c q))
theorem SameT.trans {P:Addr} {H H1 H2:Hp} (a:SameT P H H1) (b:SameT P H1 H2):SameT P H H2:=fun x o n e=>b x o n (a x o n e)
theorem SameT.of {P:Addr} {H H1:Hp} (a:Same H H1):SameT P H H1:=fun x o _ e=>a x o e
theorem TabH.same {P:Addr} {lp:Pos} {q:Str} {H H':Hp} (t:TabH P lp q H) (s:Same H H'):TabH P lp q H':=by
 obtain ⟨ps,h1,h2,h3⟩:=t
 refine⟨ps,s _ _ h1,h2,h3.imp id fun ⟨c,e,z⟩=>⟨c,e,s _ _ z⟩⟩
noncomputable def lamO (f c:Addr) (qual:Str) (params:Arguments) (body:Expr) (scope:Scope) (cl:List (Str×Addr)):HO :=
 .ext fun h=>∃ pm ctv,h.get? f=some (kla_obj "<lambda>" qual params body scope cl pm c ctv)
section
variable {X:Cx} {pins:List (Addr×Obj)} {σ:St} {H:Hp} {s:Shared}
theorem lam_make {c P:Addr} {params:Arguments} {body:Expr} {scope:Scope} {lp:Pos} {Q:VK} (I:Inv X pins σ H s) (T:TabH P lp (X.env.qual ++ "<lambda>") H)
  (hcode:X.env.code=.ref c) (C:CodeHd X.base c P) (hB:X.base.BuiltinsAt X.mg P) (hdef:defaultsOf params X.env=([],[]))
  (hfr0:(scope.names.all fun y=>!(y.2 == NameKind.free) || (X.env.cells.lookup y.1).isSome)=true)
  (h:∀ f c' H',SameT P H H'→TabH P lp (X.env.qual ++ "<lambda>") H'→H' f=some (lamO f c' (X.env.qual ++ "<lambda>") params body scope (clOf X.env.cells scope.names []))→H' c'=some (codeO c' (X.env.qual ++ "<lambda>"))→Q (.ref f) H') :
  wpAny (model X.prog X.w) X.A (eval (.Lambda params body scope lp) X.env) (EP X pins σ Q) X.xe s:=by
 have hfr':∀ p∈scope.names,p.2=.free→∃ c,X.env.cells.lookup p.1=some c:=fun y hy e=>by
  have z:=List.all_eq_true.mp hfr0 y hy
  rw [e] at z
  exact Option.isSome_iff_exists.mp (by simpa using z)
 have hcl:=closure_eq hfr'
 obtain ⟨ps,hP,ht,hc⟩:=T
 have oP:s.heap.get? P=some (tabObj ps):=I.hok P _ hP
 have hgs:s.heap.Ns mainGlobals X.mg:=I.mod.glob.keeps I.bk
 have hB':s.heap.BuiltinsAt X.mg P:=by
  obtain ⟨bm,ob,b1,b2,b3,b4,b5,b6⟩:=hB
  exact⟨bm,ob,b1,b2,b3,b4,I.bk _ _ b5,b6⟩
 have ext1:∀ {h2:Heap} {f c':Addr} {pm ctv:Value} {sc:Scope} {q:Str} {cl:List (Str×Addr)},h2.get? f=some (kla_obj "<lambda>" q params body sc cl pm c' ctv)→∀ {H2:Hp},ObjOk X.prog X.w H2 h2 f (lamO f c' q params body sc cl):=fun {h2 f c' pm ctv sc q cl} e {H2} =>
  ⟨⟨pm,ctv,e⟩,⟨_,e⟩,fun h1 h3 ⟨pm,ctv,z⟩ k=>⟨pm,ctv,k _ z⟩⟩
 refine kla_eval hdef ?_
 rcases hc with hn|⟨c',hc,hcc⟩
 ·have hgP:mainGlobals≠P:=fun q=>by
   obtain ⟨o,es,ep,e,hd,_⟩:=hgs
   rw [q,oP] at e;cases e;cases hd
  refine kla_makeFunction (mg:=X.mg) hcl I.ok.glob hgs hcode (C.keeps I.bk) oP ht hn hgP hB' fun c' ctv h' tk hx hge hlt hrec htb=>?_
  obtain ⟨ob,eob⟩:∃ ob:Obj,ob=kla_obj "<lambda>" (X.env.qual ++ "<lambda>") params body scope (clOf X.env.cells scope.names []) ((X.mg "__name__").getD .none) c' ctv:=⟨_,rfl⟩
  have hnf:ob.isFreed=false:=by rw [eob];rfl
  have hof:=Heap.get?_push_size h' hnf
  rw [← eob]
  have big:s.heap.objs.size≤h'.objs.size:=Nat.le_trans hge (Nat.le_of_lt hlt)
  have ncP:c'≠P:=Nat.ne_of_gt (Nat.lt_of_lt_of_le (Heap.lt_size oP) hge)
  have nfP:h'.objs.size≠P:=Nat.ne_of_gt (Nat.lt_of_lt_of_le (Heap.lt_size oP) big)
  have ncf:c'≠h'.objs.size:=Nat.ne_of_lt hlt
  have old:∀ b o,b≠P→s.heap.get? b=some o→(h'.push ob).get? b=some o:=fun b o n e=>Heap.get?_push_of_some _ (hx b o n e)
  have fc:H c'=none:=I.hok.fresh hge
  have ff:H h'.objs.size=none:=I.hok.fresh big
  have sP:SameT P H (upd (upd (upd H P (.tbl (ps++#[rawInt lp.line,rawInt lp.col,.ref c']))) c' (codeO c' (X.env.qual ++ "<lambda>"))) h'.objs.size (lamO h'.objs.size c' (X.env.qual ++ "<lambda>") params body scope (clOf X.env.cells scope.names []))):=fun b o n e=>by
   rw [upd_ne (ne_of_none e ff),upd_ne (ne_of_none e fc),upd_ne n]
   exact e
  generalize hH':upd (upd (upd H P (.tbl (ps++#[rawInt lp.line,rawInt lp.col,.ref c']))) c' (codeO c' (X.env.qual ++ "<lambda>"))) h'.objs.size (lamO h'.objs.size c' (X.env.qual ++ "<lambda>") params body scope (clOf X.env.cells scope.names []))=H' at sP
  have eP:H' P=some (.tbl (ps++#[rawInt lp.line,rawInt lp.col,.ref c'])):=by rw [← hH',upd_ne (Ne.symm nfP),upd_ne (Ne.symm ncP),upd_same]
  have ec:H' c'=some (codeO c' (X.env.qual ++ "<lambda>")):=by rw [← hH',upd_ne ncf,upd_same]
  have ef:H' h'.objs.size=some (lamO h'.objs.size c' (X.env.qual ++ "<lambda>") params body scope (clOf X.env.cells scope.names [])):=by rw [← hH',upd_same]
  have no:∀ b,H b=none→b≠h'.objs.size→b≠c'→H' b=none:=fun b n n1 n2=>by
   rw [← hH',upd_ne n1,upd_ne n2,upd_ne (fun z=>by rw [z,hP] at n;cases n)]
   exact n
  have un:Un X.fs [] H H' s.heap (h'.push ob):=by
   refine⟨fun b o e n _ _=>old b o (fun z=>by rw [z,hP] at n;cases n) e,fun b o e n _ _=>⟨o.slots,old b o (fun z=>by rw [z,hP] at n;cases n) e⟩,fun b o e n _=>no b n (fun z=>?_) (fun z=>?_),fun b o e _=>?_,fun b xs e=>sP b _ (fun z=>by rw [z,hP] at e;cases e) e,fun b o u e=>sP b _ (fun z=>by rw [z,hP] at e;cases e) e,fun b qs e=>?_⟩
   ·exact absurd z (Nat.ne_of_lt (Nat.lt_of_lt_of_le (Heap.lt_size e) big))
   ·exact absurd z (Nat.ne_of_lt (Nat.lt_of_lt_of_le (Heap.lt_size e) hge))
   ·by_cases hb:b=P
    ·subst hb
     exact⟨_,Heap.get?_push_of_some _ htb⟩
    ·exact⟨o,old b o hb e⟩
   ·by_cases hb:b=P
    ·subst hb
     rw [hP] at e
     cases e
     exact⟨_,eP⟩
    ·exact⟨#[],by rw [sP b _ hb e];simp⟩
  have hok:HOk X.prog X.w H' (h'.push ob):=fun b o e=>by
   by_cases h1:b=h'.objs.size
   ·subst h1
    rw [ef] at e
    cases e
    exact ext1 (by rw [hof,eob])
   ·by_cases h2:b=c'
    ·subst h2
     rw [ec] at e
     cases e
     obtain ⟨c2,oc,vs,t,e2,hoc,hd,hv⟩:=hrec
     cases e2
     exact⟨⟨_,oc,vs,t,rfl,Heap.get?_push_of_some _ hoc,hd,hv⟩,⟨oc,Heap.get?_push_of_some _ hoc⟩,fun h1 h2 ⟨c3,o3,v3,t3,z1,z2,z3,z4⟩ k=>⟨c3,o3,v3,t3,z1,by cases z1;exact k _ z2,z3,z4⟩⟩
    ·by_cases h3:b=P
     ·subst h3
      rw [eP] at e
      cases e
      exact Heap.get?_push_of_some _ htb
     ·have e0:H b=some o:=by rw [← hH',upd_ne h1,upd_ne h2,upd_ne h3] at e;exact e
      refine (I.hok b o e0).stay (fun d u hd z=>old d u (fun w=>?_) z) (fun d z=>sP d _ (fun w=>by rw [w,hP] at z;cases z) z) fun d xs z=>sP d _ (fun w=>by rw [w,hP] at z;cases z) z
      rcases hd with rfl|hd
      ·exact h3 w
      ·rw [w,hP] at hd;cases hd
  refine⟨.ref h'.objs.size,H',I.un un hok,rfl,h _ c' H' sP ⟨_,eP,?_,.inr ⟨c',?_,ec⟩⟩ ef ec⟩
  ·rw [Array.toList_append]
   exact TriplesOk_snoc _ _ _ _ ht
  ·rw [Array.toList_append]
   exact codeAmong_snoc _ ht hn
 ·refine kla_makeFunctionHit (mg:=X.mg) hcl I.ok.glob hgs hcode (C.keeps I.bk) oP ht hc hB' fun ctv h' tk hk hsz=>?_
  obtain ⟨ob,eob⟩:∃ ob:Obj,ob=kla_obj "<lambda>" (X.env.qual ++ "<lambda>") params body scope (clOf X.env.cells scope.names []) ((X.mg "__name__").getD .none) c' ctv:=⟨_,rfl⟩
  have hnf:ob.isFreed=false:=by rw [eob];rfl
  have hof:=Heap.get?_push_size h' hnf
  have ff:H h'.objs.size=none:=I.hok.fresh hsz
  have sm:Same H (upd H h'.objs.size (lamO h'.objs.size c' (X.env.qual ++ "<lambda>") params body scope (clOf X.env.cells scope.names []))):=Same.upd_new ff
  refine⟨.ref h'.objs.size,upd H h'.objs.size (lamO h'.objs.size c' (X.env.qual ++ "<lambda>") params body scope (clOf X.env.cells scope.names [])),I.laid (fun b u e=>Heap.get?_push_of_some _ (hk b u e)) hsz (ext1 (by rw [eob] at hof;exact hof)),rfl,h _ c' _ (SameT.of sm) (TabH.same ⟨ps,hP,ht,.inr ⟨c',hc,hcc⟩⟩ sm) upd_same (sm _ _ hcc)⟩
end
end L2
set_option maxRecDepth 100000
namespace L2
open PySem PySem.Spec PyProof.Rows PySem.W
section
variable {K:PySem.W.Frag} {H H':Hp} {P a:Addr} {lp:Pos} {q:Str} {xs:List V}
theorem TabH.at (t:TabH P lp q H):∃ ps,H P=some (.tbl ps):=let ⟨ps,h,_⟩:=t;⟨ps,h⟩
theorem SameT.seq (s:SameT P H H') (t:TabH P lp q H) (h:SqL K H a xs):SqL K H' a xs:=by
 obtain ⟨ps,hP⟩:=t.at
 exact h.imp (fun z=>z.imp (fun e=>s _ _ (fun w=>by rw [w,hP] at e;cases e) e) fun ⟨o,e⟩=>⟨o,s _ _ (fun w=>by rw [w,hP] at e;cases e) e⟩) id
end
noncomputable def rSortL (K:PySem.W.Frag) (P:Addr) (lp:Pos) (q:Str) (ixs:List (Option Nat)) (te:TE) (σ:St):V→Hp→VK→Prop:=fun x H Q=>∃ (l:Addr) (xs:List V) (kz:List Int),x=.ref l∧SqL K H l xs∧kz.length=xs.length∧xs.length<64∧TabH P lp q H ∧
 (∀ (i:Nat) (x:V) (n:Int),xs[i]?=some x→kz[i]?=some n→∀ H',SameT P H H'→te (some x::pick ixs σ) H' (fun v H''=>v=.int n∧Same H' H'')) ∧
 ∀ p H' ys,SameT P H H'→TabH P lp q H'→H' p=some (.lst ys)→SortedBy false kz xs ys→Q (.ref p) H'
noncomputable def tSortL (K:PySem.W.Frag) (P:Addr) (lp:Pos) (q:Str) (ixs:List (Option Nat)) (te:TE) (t:TE):TE:=fun σ H Q=>t σ H fun x H1=>rSortL K P lp q ixs te σ x H1 Q
section
variable {X:Cx} {k:Nat} {q y:Str} {fns:List Str} {ixs:List (Option Nat)} {params:Arguments} {body:Expr} {scope:Scope} {p lp kpos pos:Pos} {e:Expr} {t te:TE} {c P:Addr}
theorem pe_sortL (hq:X.env.qual ++ "<lambda>"=q) (hr:Room (k+2) X.A) (ha:PE X e t) (hcode:X.env.code=.ref c) (C:CodeHd X.base c P) (hB:X.base.BuiltinsAt X.mg P)
  (hbind:∀ (cl:List (Str×Addr)) (pm ctv:Value) (c':Addr) (u:Value),bindArgs (kla_fn "<lambda>" q params body scope cl pm (.ref c') ctv) ⟨[u],[]⟩=pure [(y,u)])
  (he:∀ f c' s H,PE (lamCx X X.A.in1.in1 (y::fns) q scope f (.ref c') s H) body te)
  (hloc:scope.names.lookup y=some .local) (hco:scope.isCoroutine=false) (hgen:scope.isGenerator=false) (hk:scope.kind=.function) (hcell:∀ y∈scope.names,y.2≠.cell)
  (hfr0:(scope.names.all fun y=>!(y.2 == NameKind.free) || (X.env.cells.lookup y.1).isSome)=true) (hix:IxOk X scope fns ixs) (hdef:defaultsOf params X.env=([],[]))
  (hg:Gl X (Str.ofString "sorted")) (hm:X.mg "sorted"=none) (hv:bootBuiltins "sorted"=some (.builtin "sorted"))
  (hst:starEach [e] X.env=(false,eval e X.env)::starEach [] X.env:=by rfl) :
  PE X (.Call (.Name "sorted" p) [e] [⟨some (Str.ofString "key"),.Lambda params body scope lp,kpos⟩] pos) (tSortL X.K P lp q ixs te t):=by
 subst hq
 intro pins s σ H Q I h
 refine wpAny_Call_Name_kw (ld_blt I hg hm hv ?_ (by decide) (by decide))
 have hpa:PA X [e] (tCons t tNil):=pa_cons ha pa_nil hst
 have hlam:PE X (.Lambda params body scope lp) (fun _ H Q=>TabH P lp (X.env.qual ++ "<lambda>") H∧∀ f c' H',SameT P H H'→TabH P lp (X.env.qual ++ "<lambda>") H'→H' f=some (lamO f c' (X.env.qual ++ "<lambda>") params body scope (clOf X.env.cells scope.names []))→H' c'=some (codeO c' (X.env.qual ++ "<lambda>"))→Q (.ref f) H') :=
  fun pins s σ H Q I h=>lam_make I h.1 hcode C hB hdef hfr0 h.2
 have hpk:PK X [⟨some (Str.ofString "key"),.Lambda params body scope lp,kpos⟩] (tCons _ tNil):=pk_cons hlam pk_nil
 refine callWith_kw (thn (hpa pos pins s σ H (fun vs H1=>∃ x,vs=[x]∧rSortL X.K P lp (X.env.qual ++ "<lambda>") ixs te σ x H1 Q) I ?_) fun us s1 ⟨vs,H1,I1,r,x,ev,q⟩=>?_) (by rw [hst];rfl) (by rw [hst];rfl) rfl rfl
 ·show t σ H fun x H1=>∃ z,[x]=[z]∧rSortL X.K P lp (X.env.qual ++ "<lambda>") ixs te σ z H1 Q
  have e:(fun (x:V) (H1:Hp)=>∃ z,[x]=[z]∧rSortL X.K P lp (X.env.qual ++ "<lambda>") ixs te σ z H1 Q)=fun x H1=>rSortL X.K P lp (X.env.qual ++ "<lambda>") ixs te σ x H1 Q:=by
   funext x H1
   apply propext
   exact⟨fun ⟨z,e,q⟩=>by cases e;exact q,fun q=>⟨x,rfl,q⟩⟩
  rw [e]
  exact h
 ·subst ev
  obtain ⟨u,rfl,ru⟩:=vals1 r
  obtain ⟨l,xs,kz,rfl,hs,h1,h2,tb,turn,hQ⟩:=q
  refine thn (hpk pos pins s1 σ H1 (fun zs H2=>∃ f c',zs=[V.ref f]∧SameT P H1 H2∧TabH P lp (X.env.qual ++ "<lambda>") H2∧H2 f=some (lamO f c' (X.env.qual ++ "<lambda>") params body scope (clOf X.env.cells scope.names []))∧H2 c'=some (codeO c' (X.env.qual ++ "<lambda>"))) I1 ⟨tb,fun f c' H' a1 a2 a3 a4=>⟨f,c',rfl,a1,a2,a3,a4⟩⟩) fun ws s2 ⟨zs,H2,I2,rz,f,c',ez,sT,tT,ef,ec⟩=>?_
  subst ez
  obtain ⟨w,rfl,rw_⟩:=vals1 rz
  cases rw_
  cases ru
  refine call_sortedKC (kz:=kz) (xs:=xs) (fun pins' H' s' i x u n _ hx hn sm rx I'=>?_) I2 (sT.seq tb hs) h1 h2 fun p H' ys sm hp so=>hQ p H' ys (sT.trans (SameT.of sm)) (tT.same sm) hp so
  obtain ⟨⟨pm,ctv,eo⟩,_⟩:=I'.hok f _ (sm _ _ ef)
  obtain ⟨eco,_⟩:=I'.hok c' _ (sm _ _ ec)
  exact lam_call I' (Room.in1 (Room.in1 hr)).hd I'.ok.frames (by have:=(Room.in1 (Room.in1 hr)).dp;lia) eo eco (hbind _ _ _ _ _) hloc hco hgen hk hcell hfr0 hix (he _ _ _ _) rx (turn i x n hx hn H' (sT.trans (SameT.of sm)))
variable {K:PySem.W.Frag}
theorem kpe_sortL (K:PySem.W.Frag) (hK:X.K=K) (hq:X.env.qual ++ "<lambda>"=q) (hr:Room (k+2) X.A) (ha:PE X e t) (hcode:X.env.code=.ref c) (C:CodeHd X.base c P) (hB:X.base.BuiltinsAt X.mg P)
  (hbind:∀ (cl:List (Str×Addr)) (pm ctv:Value) (c':Addr) (u:Value),bindArgs (kla_fn "<lambda>" q params body scope cl pm (.ref c') ctv) ⟨[u],[]⟩=pure [(y,u)])
  (he:∀ f c' s H,PE (lamCx X X.A.in1.in1 (y::fns) q scope f (.ref c') s H) body te)
  (hloc:scope.names.lookup y=some .local) (hco:scope.isCoroutine=false) (hgen:scope.isGenerator=false) (hk:scope.kind=.function) (hcell:∀ y∈scope.names,y.2≠.cell)
  (hfr0:(scope.names.all fun y=>!(y.2 == NameKind.free) || (X.env.cells.lookup y.1).isSome)=true) (hix:IxOk X scope fns ixs) (hdef:defaultsOf params X.env=([],[]))
  (hg:Gl X (Str.ofString "sorted")) (hm:X.mg "sorted"=none) (hv:bootBuiltins "sorted"=some (.builtin "sorted"))
  (hst:starEach [e] X.env=(false,eval e X.env)::starEach [] X.env:=by rfl) :
  PE X (.Call (.Name "sorted" p) [e] [⟨some (Str.ofString "key"),.Lambda params body scope lp,kpos⟩] pos) (tSortL K P lp q ixs te t):=by
 subst hK
 exact pe_sortL hq hr ha hcode C hB hbind he hloc hco hgen hk hcell hfr0 hix hdef hg hm hv hst
end
section
variable {K:PySem.W.Frag} {H:Hp} {Q:VK} {σ:St} {P:Addr} {lp:Pos} {q:Str} {ixs:List (Option Nat)} {te:TE}
theorem r_sortL {t:TE} (h:t σ H fun x H1=>rSortL K P lp q ixs te σ x H1 Q):tSortL K P lp q ixs te t σ H Q:=h
theorem rd_sortL {l:Addr} {xs:List V} (kz:List Int) (tb:TabH P lp q H) (hs:SqL K H l xs) (h1:kz.length=xs.length) (h2:xs.length<64)
  (turn:∀ (i:Nat) (x:V) (n:Int),xs[i]?=some x→kz[i]?=some n→∀ H',SameT P H H'→te (some x::pick ixs σ) H' (fun v H''=>v=.int n∧Same H' H''))
  (k:∀ p H' ys,SameT P H H'→TabH P lp q H'→H' p=some (.lst ys)→SortedBy false kz xs ys→Q (.ref p) H'):rSortL K P lp q ixs te σ (.ref l) H Q:=⟨l,xs,kz,rfl,hs,h1,h2,tb,turn,k⟩
end
end L2
set_option maxRecDepth 100000
namespace L2
open PySem PySem.Spec PyProof.Rows PySem.W
noncomputable def Tabs0 (tabs:List (Addr×Addr)) (H:Hp):Prop:=∀ q∈tabs,H q.2=some (.tbl #[])
noncomputable def DefT (K:PySem.W.Frag) (mg:Str→Option Value) (x:Str) (st:Stmt) (ps:List Str) (c:Addr):Prop :=
 ∃ (f:Addr) (fd:FuncData) (oc:Value) (od:Option Addr) (kV doc pm:Value) (an:Option Addr) (ct:Value) (osl:Array (Option Value)),fd=PySem.W.fnOf x x (defArgs st) (defBody st) (defScope st) .none kV doc pm an (.ref c) ct∧K.lookup f=some ⟨oc,od,.func fd,osl⟩∧PySem.W.codeIn K (.ref c) x=true∧PySem.W.keepIn K (.ref f)=true∧mg x=some (.ref f)∧Binds K fd ps []
section
variable {Pr:Program} {w:World} {K:PySem.W.Frag} {mg:Str→Option Value} {base:Heap}
theorem DefT.ok {x:Str} {st:Stmt} {N ps:List Str} {k:Nat} {sp:Sp} {c:Addr} (D:DefT K mg x st ps c) (S:FnScope N ps (defScope st)) (len:∀ vs H Q E,sp vs H Q E→vs.length=ps.length)
  (hbody:∀ (f:Addr) (A:Around) (outer:List Env) (s:Shared) (H:Hp) (vs:List V) (Q:VK) (E:XK),Room k (A.deeper (envOfC x (defScope st) s.heap.objs.size f (.ref c)))→sp vs H Q E →
   ∃ t,PSs (cxOf CX0 Pr w K mg base N x (defScope st) f (.ref c) A outer s H E).nox (defBody st) t∧t { nx:=fun _ H'=>Q .non H',rt:=Q } (start N vs) H):Ok Pr w K mg base (k+1) x ps sp:=by
 obtain ⟨f,fd,oc,od,kV,doc,pm,an,ct,osl,rfl,lk,hcd,hkp,hm,hb⟩:=D
 refine⟨f,_,fn_of lk hcd S len fun A outer s H vs Q E hr hsp=>?_,hm,hkp,hb⟩
 obtain ⟨t,h,q⟩:=hbody f A outer s H vs Q E hr hsp
 exact⟨t,h.nox,q⟩
end
end L2
set_option maxRecDepth 100000
namespace L2
open PySem PySem.Spec PyProof.Rows PySem.W
noncomputable def tabP (K:PySem.W.Frag) (y:Str):Addr:=((PySem.W.tabIn K y).getD (0,0)).2
theorem tabP_of {K:PySem.W.Frag} {y:Str} {c P:Addr} (h:PySem.W.tabIn K y=some (c,P)):tabP K y=P:=by unfold tabP;rw [h];rfl
end L2
set_option maxRecDepth 100000
namespace L2
open PySem PySem.Spec PyProof.Rows
noncomputable def Itd (hi:Int) (n:Nat):It:=⟨fun i _=>i<n,fun i H x H'=>H'=H∧x=.int (hi - i),fun i _=>n≤i⟩
theorem turn_down {P:Program} {w:World} {K:PySem.W.Frag} {tg:Expr} (it:Addr) (hi:Int) (n:Nat):Turn P w K tg (Itd hi n) [it] it (fun i h=>IsRangeIter h it (hi+(i:Nat)*(-1)) ((n:Int) - (i:Nat)) (-1)) where
 mem:=by simp
 obj:=fun i h st b hb=>by
  obtain rfl:b=it:=by simpa using hb
  exact⟨_,st,fun v z=>nomatch (show Data.fields _=Data.cell v from z)⟩
 keep:=fun i h h' st k=>k it (by simp) _ st
 item:=by
  intro X hP hw hK hc i pins s σ H E I hf st hg
  subst hP hw hK
  obtain ⟨f0,f1,f2,f3,f4,f5⟩:=hf it (by simp)
  have WD:=Walks.range (prog:=X.prog) (w:=X.w) (I.ok.hd hc) it hi (-1) n
  refine WD.item i s _ _ hg st fun v h' tk hv st' kk=>?_
  obtain ⟨t,rfl⟩:=hv
  have ID:Inv X pins σ H { s with heap:=h',toks:=tk }:=I.turned (fun b o hb e=>kk b o (by simpa using hb) e) f0 f1 f3 f4 f5
  refine⟨_,rfl,go_of (s:={ s with heap:=h',toks:=tk }) (n:="range_iterator") st' rfl rfl (by decide) ⟨.int (hi - i),H,ID,⟨t,?_⟩,⟨rfl,rfl⟩,st',fun b hb=>(hf b hb).1⟩⟩
  rw [show hi+(i:Int)*(-1)=hi - i by lia]
 done:=by
  intro X hP hw hK hc i pins s σ H E I hf st hg
  subst hP hw hK
  obtain ⟨f0,f1,f2,f3,f4,f5⟩:=hf it (by simp)
  exact wpAny_pyNext_range_end (I.ok.hd hc) st (by have hni:n≤i:=hg;lia) fun h' eb=>⟨rfl,I.turned (t':=s.toks) (fun b o hb e=>eb b o hb e) f0 f1 f3 f4 f5⟩
 self:=fun _ _ _ _ _ st h=>wpAny_pyIter_rangeiter st h
theorem size_down (a b:Int):Builtin.Range.rangeSize a b (-1)=if b<a then a - b else 0:=by
 unfold Builtin.Range.rangeSize
 simp only [show ¬ ((-1:Int) > 0) by decide,if_false,Int.neg_neg,Int.ediv_one]
 split <;> lia
theorem small_down {a b:Int} (ha:-1000000≤a∧a≤1000000) (hb:-1000000≤b∧b≤1000000):Builtin.Range.small a b (-1)=true:=by
 unfold Builtin.Range.small
 rw [size_down]
 simp only [Builtin.Range.rangeFitsLong,Bool.and_eq_true,Bool.or_eq_true,decide_eq_true_eq,beq_iff_eq,show ¬ ((-1:Int) > 0) by decide,if_false]
 split <;> lia
section
variable {X:Cx} {tg:Expr}
noncomputable def rItD:List V→Hp→(It→Hp→Prop)→Prop:=fun vs H R=>∃ i j:Int,vs=[.int i,.int j,.int (-1)]∧(-1000000≤i∧i≤1000000)∧(-1000000≤j∧j≤1000000)∧R (Itd i (i - j).toNat) H
noncomputable def iRng3 (ta:TA):TI:=fun σ H R=>ta σ H fun vs H1=>rItD vs H1 R
theorem pi_range3 {a b c:Expr} {ta:TA} {p pos:Pos} (hg:Gl X "range") (hm:X.mg "range"=none) (ha:PA X [a,b,c] ta) (hs:starEach [a,b,c] X.env=[(false,eval a X.env),(false,eval b X.env),(false,eval c X.env)]:=by rfl) (hs2:starEach [b,c] X.env=[(false,eval b X.env),(false,eval c X.env)]:=by rfl) :
  PI X tg (.Call (.Name "range" p) [a,b,c] [] pos) (iRng3 ta):=by
 intro pins s σ H R I h
 refine Call_ (ld_blt I hg hm boot_range (PyProof.Rows.callWith_type1 (thn (ha pos pins s σ H _ I h) fun us s1 ⟨vs,H1,I1,r1,q1⟩=>?_) (by rw [hs,hs2]) (by rw [hs2];rfl)))
 obtain ⟨i,j,e,hi,hj,q⟩:=q1
 subst e
 cases r1 with
 | cons r rr =>
  cases rr with
  | cons r' rr =>
   cases rr with
   | cons r'' rr =>
    cases rr
    obtain ⟨t,rfl⟩:=r
    obtain ⟨t',rfl⟩:=r'
    obtain ⟨t'',rfl⟩:=r''
    refine call_range_3 (by decide) ?_ (Or.inl (PyProof.noPylong_of_log2 (by decide +kernel)))
    refine wpAny_pyIter_range (IsRange.new ..) (small_down hi hj) ?_
    have ID:Inv X pins σ H1 { s1 with heap:=s1.heap.push { cls:=.type "range",data:=.fields #[.int i t,.int j t',.int (-1) t''] },toks:=s1.toks }:=I1.kept fun b o e=>Heap.get?_push_of_some _ e
    refine⟨(s1.heap.push { cls:=.type "range",data:=.fields #[.int i t,.int j t',.int (-1) t''] }).objs.size,[(s1.heap.push { cls:=.type "range",data:=.fields #[.int i t,.int j t',.int (-1) t''] }).objs.size],_,_,H1,rfl,
     ID.kept (t':=s1.toks) fun b o e=>Heap.get?_push_of_some _ e,turn_down _ i (i - j).toNat,?_,fun b hb=>?_,q⟩
    ·have e1:i+((0:Nat):Int)*(-1)=i:=by simp
     have e2:(((i - j).toNat:Nat):Int) - ((0:Nat):Int)=Builtin.Range.rangeSize i j (-1):=by rw [size_down];split <;> lia
     show IsRangeIter _ _ (i+((0:Nat):Int)*(-1)) ((((i - j).toNat:Nat):Int) - ((0:Nat):Int)) (-1)
     rw [e1,e2]
     exact Heap.get?_push_size _ rfl
    ·obtain rfl:b=(s1.heap.push { cls:=.type "range",data:=.fields #[.int i t,.int j t',.int (-1) t''] }).objs.size:=by simpa using hb
     exact ID.fpOk (Nat.le_refl _) (ID.hok.fresh (Nat.le_refl _))
end
section
variable {H:Hp} {σ:St} {R:It→Hp→Prop}
theorem r_irng3 {ts:TA} (h:ts σ H fun vs H1=>rItD vs H1 R):iRng3 ts σ H R:=h
theorem r_isr3 {i j:Int} (h1:-1000000≤i∧i≤1000000) (h2:-1000000≤j∧j≤1000000) (h:R (Itd i (i - j).toNat) H):rItD [.int i,.int j,.int (-1)] H R:=⟨i,j,rfl,h1,h2,h⟩
variable {g:TG} {D:Ends}
theorem f_invD {hi:Int} {n:Nat} {tb:TS} (Pv:Nat→St→Hp→Prop) (h0:Pv 0 σ H) (hs:∀ i σ H2,i<n→Pv i σ H2→g (.int (hi - i)) σ H2 fun σ2 H4=>tb { D with nx:=Pv (i+1),ct:=Pv (i+1),bk:=D.nx } σ2 H4) (hd:∀ σ H2,Pv n σ H2→D.nx σ H2):ForGoal g tb D (Itd hi n) σ H:=by
 refine f_inv n Pv h0 (fun i σ H2 hi _=>hi) (fun σ H2 _=>Nat.le_refl _) (fun i x σ H2 H3 hi p y=>?_) hd
 obtain ⟨rfl,rfl⟩:=y
 exact hs i σ _ hi p
end
end L2
set_option maxRecDepth 100000
namespace L2
open PySem PySem.Spec PyProof.Rows
theorem take_filter {α:Type} {rs:List α} {f:α→Bool} {i:Nat} {r:α} (h:rs[i]?=some r):(rs.take (i+1)).filter f=(rs.take i).filter f++(if f r then [r] else []):=by
 rw [List.take_add_one,h,List.filter_append]
 cases e:f r <;> simp [e]
theorem take_map' {α β:Type} {rs:List α} {g:α→β} {i:Nat} {r:α} (h:rs[i]?=some r):(rs.take (i+1)).map g=(rs.take i).map g++[g r]:=by
 rw [List.take_add_one,h,List.map_append]
 rfl
section
variable {K:PySem.W.Frag} {H:Hp} {σ:St} {Q:VK} {ix:List (Option Nat)} {l:Addr} {xs:List V} {rs:List (List Int)}
theorem rd_filterRows {tt:TT} {te:TE} (fr:St) (f:List Int→Bool) (hpk:pick ix σ=none::fr) (hl:SqL K H l xs) (hr:RowsL K H xs rs) (hn:rs.length≤1000)
  (test:∀ (a:Addr) (r:List Int) (H':Hp) (Qt:Bool→Hp→Prop),r∈rs→Same H H'→SqT K H' a (r.map V.int)→(∀ H5,Same H' H5→Qt (f r) H5)→tt (some (.ref a)::fr) H' Qt)
  (elt:∀ (a:Addr) (H':Hp) (Qc:VK),Same H H'→Qc (.ref a) H'→te (some (.ref a)::fr) H' Qc)
  (hQ:∀ l2 H' ys,H l2=none→Same H H'→H' l2=some (.lst ys)→RowsL K H' ys (rs.filter f)→Q (.ref l2) H'):CompGoal ix (gName 0) tt te σ Q (Itl K l) H:=by
 have hlen:=hr.length
 refine comp_rows (K:=K) 1 fr rs.length (fun i=>(rs.take i).filter f) hpk rfl (fun i=>Nat.le_trans (List.length_filter_le _ _) (Nat.le_trans (List.length_take_le' _ _) hn)) (fun H' s=>⟨xs,s.seq hl,by lia⟩) (fun i H' hi s=>⟨xs,xs[i]'(by lia),s.seq hl,List.getElem?_eq_getElem (by lia)⟩) (fun i x H' H2 own ho hi s hy Qy Qn ky kn=>?_) (fun l2 H' ys a b c d=>hQ l2 H' ys a b c (by rw [List.take_length] at d;exact d))
 obtain ⟨o1,rfl⟩:∃ o1,own=[o1]:=by match own,ho with|[o1],_=>exact⟨o1,rfl⟩
 obtain ⟨rfl,e⟩:=hy
 obtain ⟨a,r,rfl,ha,hi2⟩:=hr.get (e xs (s.seq hl))
 have hmem:r∈rs:=by
  obtain ⟨h1,h2⟩:=List.getElem?_eq_some_iff.mp hi2
  rw [← h2]
  exact List.getElem_mem h1
 have et:=take_filter (f:=f) hi2
 dsimp only [gName]
 refine test a r _ _ hmem s (s.at ha) fun H5 s5=>?_
 cases ef:f r with
 | true =>
  rw [ef] at et
  rw [if_pos rfl]
  exact elt a H5 _ (s.trans s5) (ky [some (.ref a)] a r H5 rfl s5 ((s.trans s5).at ha) et)
 | false =>
  rw [ef] at et
  rw [if_neg (by decide)]
  exact kn [some (.ref a)] H5 rfl s5 (by rw [et];simp)
theorem rd_mapRows {te:TE} (fr:St) (g:List Int→List Int) (hpk:pick ix σ=none::fr) (hl:SqL K H l xs) (hr:RowsL K H xs rs) (hn:rs.length≤1000)
  (elt:∀ (a:Addr) (r:List Int) (H':Hp) (Qc:VK),r∈rs→Same H H'→SqT K H' a (r.map V.int)→(∀ p H5,Same H' H5→SqT K H5 p ((g r).map V.int)→Qc (.ref p) H5)→te (some (.ref a)::fr) H' Qc)
  (hQ:∀ l2 H' ys,H l2=none→Same H H'→H' l2=some (.lst ys)→RowsL K H' ys (rs.map g)→Q (.ref l2) H'):CompGoal ix (gName 0) (fun _ H Q=>Q true H) te σ Q (Itl K l) H:=by
 have hlen:=hr.length
 refine comp_rows (K:=K) 1 fr rs.length (fun i=>(rs.take i).map g) hpk rfl (fun i=>by rw [List.length_map];exact Nat.le_trans (List.length_take_le' _ _) hn) (fun H' s=>⟨xs,s.seq hl,by lia⟩) (fun i H' hi s=>⟨xs,xs[i]'(by lia),s.seq hl,List.getElem?_eq_getElem (by lia)⟩) (fun i x H' H2 own ho hi s hy Qy Qn ky kn=>?_) (fun l2 H' ys a b c d=>hQ l2 H' ys a b c (by rw [List.take_length] at d;exact d))
 obtain ⟨o1,rfl⟩:∃ o1,own=[o1]:=by match own,ho with|[o1],_=>exact⟨o1,rfl⟩
 obtain ⟨rfl,e⟩:=hy
 obtain ⟨a,r,rfl,ha,hi2⟩:=hr.get (e xs (s.seq hl))
 have hmem:r∈rs:=by
  obtain ⟨h1,h2⟩:=List.getElem?_eq_some_iff.mp hi2
  rw [← h2]
  exact List.getElem_mem h1
 dsimp only [gName]
 rw [if_pos rfl]
 exact elt a r _ _ hmem s (s.at ha) fun p H5 s5 hp=>ky [some (.ref a)] p (g r) H5 rfl s5 hp (take_map' hi2)
end
end L2
namespace L2
open PySem PySem.Spec PyProof.Rows PySem.W
theorem RowsL.uncons {K:PySem.W.Frag} {H:Hp} {xs:List V} {r:List Int} {rs:List (List Int)} (h:RowsL K H xs (r::rs)):∃ a ys,xs=.ref a::ys∧SqT K H a (r.map V.int)∧RowsL K H ys rs:=by
 cases h with
 | cons h t=>exact⟨_,_,rfl,h,t⟩
end L2
namespace L2
open PySem PySem.Spec PyProof.Rows
theorem r_par {i j:Nat} {ta:TA} {D:Ends} {σ:St} {H:Hp} (h:ta σ H fun vs H1=>∃ v w,vs=[v,w]∧D.nx ((σ.set i (some v)).set j (some w)) H1):tPar i j ta D σ H:=h
theorem r_two {F:V→V→Prop} {x y:V} (h:F x y):∃ v w,[x,y]=[v,w]∧F v w:=⟨x,y,rfl,h⟩
end L2
namespace L2
open PySem PySem.Spec PyProof.Rows
theorem f_invN {K:PySem.W.Frag} {D:Ends} {σ:St} {H:Hp} {k:Bool} {a:Addr} {xs:List V} {m n:Nat} {tb:TS} (Pv:Nat→St→Hp→Prop) (h0:Pv 0 σ H) (ha:∀ i σ H2,Pv i σ H2→Sq k K H2 a xs)
  (hs:∀ (i:Nat) x σ H2 H3,xs[i]?=some x→Pv i σ H2→Same H2 H3→tb { D with nx:=Pv (i+1),ct:=Pv (i+1),bk:=D.nx } ((σ.set m (some (.int i))).set n (some x)) H3)
  (hd:∀ σ H2,Pv xs.length σ H2→D.nx σ H2):ForGoal (gTup K 2 (gCons (gName m) (gCons (gName n) gNil))) tb D (Itn K k a) σ H:=by
 refine f_inv xs.length Pv h0 (fun i σ H2 hi p=>⟨_,xs[i],ha i σ H2 p,List.getElem?_eq_getElem hi⟩) (fun σ H2 p=>⟨_,ha _ σ H2 p,Nat.le_refl _⟩) (fun i x σ H2 H3 hi p y=>?_) hd
 obtain ⟨q,x',rfl,hp,e1,rfl⟩:=y
 have g1:=e1 _ (ha i σ _ p)
 refine⟨q,_,rfl,SqT.of upd_same,rfl,_,_,rfl,_,_,rfl,rfl,?_⟩
 exact hs i x' σ _ _ g1 p (Same.upd_new hp)
theorem Same.new {a:Addr} {H H':Hp} (s:Same H H') (n:H' a=none):H a=none:=by
 match e:H a with
 | none=>rfl
 | some o =>
  rw [s a o e] at n
  cases n
end L2
namespace L2
open PySem PySem.Spec PyProof.Rows
theorem TabH.off {P l:Addr} {lp:Pos} {q:Str} {H:Hp} {ys zs:List V} (t:TabH P lp q H) (e:H l=some (.lst ys)):TabH P lp q (upd H l (.lst zs)):=by
 obtain ⟨ps,h1,h2,h3⟩:=t
 refine⟨ps,by rw [upd_ne (fun z=>by rw [z,e] at h1;cases h1)];exact h1,h2,h3.imp id fun ⟨c,z,y⟩=>⟨c,z,by rw [upd_ne (fun z=>by rw [z,e] at y;cases y)];exact y⟩⟩
end L2
namespace L2
open PySem PySem.Spec PyProof.Rows
theorem f_invZ {K:PySem.W.Frag} {D:Ends} {σ:St} {H:Hp} {k1 k2:Bool} {a b:Addr} {xs ys:List V} {m n:Nat} {tb:TS} (hlen:xs.length=ys.length) (Pv:Nat→St→Hp→Prop) (h0:Pv 0 σ H) (ha:∀ i σ H2,Pv i σ H2→Sq k1 K H2 a xs∧Sq k2 K H2 b ys)
  (hs:∀ (i:Nat) x y σ H2 H3,xs[i]?=some x→ys[i]?=some y→Pv i σ H2→Same H2 H3→tb { D with nx:=Pv (i+1),ct:=Pv (i+1),bk:=D.nx } ((σ.set m (some x)).set n (some y)) H3)
  (hd:∀ σ H2,Pv xs.length σ H2→D.nx σ H2):ForGoal (gTup K 2 (gCons (gName m) (gCons (gName n) gNil))) tb D (Itz K k1 k2 a b) σ H:=by
 refine f_inv xs.length Pv h0 (fun i σ H2 hi p=>?_) (fun σ H2 p=>?_) (fun i x σ H2 H3 hi p hy=>?_) hd
 ·exact⟨_,_,xs[i],ys[i]'(hlen ▸ hi),(ha i σ H2 p).1,(ha i σ H2 p).2,List.getElem?_eq_getElem hi,List.getElem?_eq_getElem (hlen ▸ hi)⟩
 ·exact⟨_,_,(ha _ σ H2 p).1,(ha _ σ H2 p).2,.inl (Nat.le_refl _)⟩
 ·obtain ⟨q,x',y',rfl,hq,e1,e2,rfl⟩:=hy
  refine⟨q,_,rfl,SqT.of upd_same,rfl,_,_,rfl,_,_,rfl,rfl,?_⟩
  exact hs i x' y' σ _ _ (e1 _ (ha i σ _ p).1) (e2 _ (ha i σ _ p).2) p (Same.upd_new hq)
end L2
namespace L2
open PySem PySem.Spec PyProof.Rows
section
variable {K:PySem.W.Frag} {H:Hp} {σ:St} {Q:VK} {ix:List (Option Nat)}
theorem comp_gen {J:It} {g:TG} {tt:TT} {te:TE} (t:Nat) (fr:St) (n:Nat) (Pv:Addr→Nat→List V→Hp→Prop) (hpk:pick ix σ=List.replicate t none++fr)
  (h0:∀ l H',H l=none→Same H H'→H' l=some (.lst [])→Pv l 0 [] H') (hn:∀ l i ys H',Pv l i ys H'→ys.length≤1000)
  (hstop:∀ H',Same H H'→J.stop n H') (hgo:∀ i H',i<n→Same H H'→J.go i H')
  (step:∀ l i x H' H2 own ys,own.length=t→i<n→H l=none→Same H H'→H' l=some (.lst ys)→Pv l i ys H'→J.yld i H' x H2→∀ (Qy:St→VK) (Qn:St→Hp→Prop),
   (∀ own2 v H5,own2.length=t→Same H' H5→Pv l (i+1) (ys++[v]) (upd H5 l (.lst (ys++[v])))→Qy (own2++fr) v H5)→(∀ own2 H4,own2.length=t→Same H' H4→Pv l (i+1) ys H4→Qn (own2++fr) H4) →
   g x (own++fr) H2 fun σ2 H3=>tt σ2 H3 fun b H4=>if b=true then te σ2 H4 (Qy σ2) else Qn σ2 H4)
  (hQ:∀ l H' ys,H l=none→Same H H'→H' l=some (.lst ys)→Pv l n ys H'→Q (.ref l) H'):CompGoal ix g tt te σ Q J H:=by
 intro l hl
 refine⟨fun i m σ1 ys H'=>m=n - i∧i≤n∧(∃ own:St,own.length=t∧σ1=own++fr)∧Same H H'∧H' l=some (.lst ys)∧Pv l i ys H',⟨n,by simp,Nat.zero_le _,⟨_,List.length_replicate,hpk⟩,Same.upd_new hl,upd_same,h0 l _ hl (Same.upd_new hl) upd_same⟩,?_⟩
 rintro i m σ1 ys H' ⟨rfl,hi,⟨own,ho,rfl⟩,hs,hl',hp⟩
 refine⟨hl',?_⟩
 by_cases hlt:i<n
 ·refine .inr ⟨hgo i H' hlt hs,n - (i+1),by lia,fun x H2 hy=>step l i x H' H2 own ys ho hlt hl hs hl' hp hy _ _ (fun own2 v H5 ho2 s5 hp5=>?_) fun own2 H4 ho2 s4 hp4=>?_⟩
  ·have l5:=s5 _ _ hl'
   refine⟨l5,Nat.lt_of_le_of_lt (hn l i ys H' hp) (small1000 (Nat.le_refl 1000)),rfl,hlt,⟨own2,ho2,rfl⟩,fun b o e=>?_,upd_same,hp5⟩
   rw [upd_ne (ne_of_none e hl)]
   exact s5 _ _ (hs _ _ e)
  ·exact⟨rfl,hlt,⟨own2,ho2,rfl⟩,hs.trans s4,s4 _ _ hl',hp4⟩
 ·obtain rfl:i=n:=by lia
  exact .inl ⟨hstop H' hs,hQ l H' ys hl hs hl' hp⟩
end
inductive LstsL (H:Hp):List V→List (List Int)→Prop where
 | nil:LstsL H [] []
 | cons {a:Addr} {r:List Int} {xs:List V} {rs:List (List Int)} (h:H a=some (.lst (r.map V.int))) (t:LstsL H xs rs):LstsL H (.ref a::xs) (r::rs)
namespace LstsL
variable {H H':Hp}
theorem length:∀ {xs:List V} {rs:List (List Int)},LstsL H xs rs→rs.length=xs.length
 | _,_,.nil=>rfl
 | _,_,.cons _ t=>by rw [List.length_cons,List.length_cons,t.length]
theorem get:∀ {xs:List V} {rs:List (List Int)} {i:Nat} {x:V},LstsL H xs rs→xs[i]?=some x→∃ a r,x=.ref a∧H a=some (.lst (r.map V.int))∧rs[i]?=some r
 | _,_,_,_,.nil,h=>by simp at h
 | _,_,0,_,.cons (a:=a) (r:=r) h _,e=>by
  simp at e
  exact⟨a,r,e.symm,h,rfl⟩
 | _,_,i+1,_,.cons _ t,e=>by
  obtain ⟨a,r,h1,h2,h3⟩:=get (i:=i) t (by simpa using e)
  exact⟨a,r,h1,h2,by simpa using h3⟩
theorem same:∀ {xs:List V} {rs:List (List Int)},LstsL H xs rs→Same H H'→LstsL H' xs rs
 | _,_,.nil,_=>.nil
 | _,_,.cons h t,s=>.cons (s _ _ h) (t.same s)
theorem append:∀ {xs ys:List V} {rs qs:List (List Int)},LstsL H xs rs→LstsL H ys qs→LstsL H (xs++ys) (rs++qs)
 | _,_,_,_,.nil,u=>u
 | _,_,_,_,.cons h t,u=>.cons h (t.append u)
theorem off {l:Addr} {o:HO}:∀ {xs:List V} {rs:List (List Int)},LstsL H xs rs→(∀ x∈xs,x≠.ref l)→LstsL (upd H l o) xs rs
 | _,_,.nil,_=>.nil
 | _,_,.cons (a:=a) h t,n=>.cons (by rw [upd_ne (fun z=>n (.ref a) (.head _) (by rw [z]))];exact h) (t.off fun x hx=>n x (.tail _ hx))
end LstsL
section
variable {K:PySem.W.Frag} {H:Hp} {σ:St} {Q:VK} {ix:List (Option Nat)} {l:Addr} {xs:List V} {rs:List (List Int)}
theorem rd_filterN {tt:TT} {te:TE} {r:List Int} (fr:St) (f:Nat→Bool) (hpk:pick ix σ=none::none::fr) (hl:SqT K H l (r.map V.int)) (hn:r.length≤1000)
  (tst:∀ (i:Nat) (H':Hp) (Qt:Bool→Hp→Prop),i<r.length→Same H H'→Qt (f i) H'→tt (some (.int i)::some (.int (r.getD i 0))::fr) H' Qt)
  (elt:∀ (i:Nat) (H':Hp) (Qc:VK),Same H H'→Qc (.int i) H'→te (some (.int i)::some (.int (r.getD i 0))::fr) H' Qc)
  (hQ:∀ l2 H',H l2=none→Same H H'→H' l2=some (.lst ((((List.range r.length).filter f).map fun (i:Nat)=>(i:Int)).map V.int))→Q (.ref l2) H'):CompGoal ix (gTup K 2 (gCons (gName 0) (gCons (gName 1) gNil))) tt te σ Q (Itn K true l) H:=by
 refine comp_gen 2 fr r.length (fun l i ys H'=>ys=(((List.range i).filter f).map fun (i:Nat)=>(i:Int)).map V.int∧i≤r.length) hpk (fun l H' _ _ _=>⟨rfl,Nat.zero_le _⟩) (fun l i ys H' h=>by rw [h.1,List.length_map,List.length_map];exact Nat.le_trans (List.length_filter_le _ _) (by rw [List.length_range];lia)) (fun H' s=>⟨_,sqt_sq (s.at hl),by simp⟩) (fun i H' hi s=>⟨_,_,sqt_sq (s.at hl),int_at hi⟩) (fun l' i x H' H2 own ys ho hi hl0 s hl' hp hy Qy Qn ky kn=>?_) (fun l2 H' ys a b c d=>hQ l2 H' a b (by rw [c,d.1]))
 obtain ⟨o1,o2,rfl⟩:∃ o1 o2,own=[o1,o2]:=by match own,ho with|[o1,o2],_=>exact⟨o1,o2,rfl⟩
 obtain ⟨q,x',rfl,hq,e1,rfl⟩:=hy
 obtain ⟨rfl,_⟩:=int_get (e1 _ (sqt_sq (s.at hl)))
 have s2:=Same.upd_new (o:=.tup [.int (i:Nat),.int (r.getD i 0)]) hq
 refine⟨q,_,rfl,SqT.of upd_same,rfl,_,_,rfl,_,_,rfl,rfl,?_⟩
 refine tst i _ _ hi (s.trans s2) ?_
 cases ef:f i with
 | true =>
  rw [if_pos rfl]
  refine elt i _ _ (s.trans s2) (ky [some (.int i),some (.int (r.getD i 0))] _ _ rfl s2 ⟨?_,hi⟩)
  rw [List.range_succ,List.filter_append,hp.1]
  simp [ef]
 | false =>
  rw [if_neg (by decide)]
  refine kn [some (.int i),some (.int (r.getD i 0))] _ rfl s2 ⟨?_,hi⟩
  rw [List.range_succ,List.filter_append,hp.1]
  simp [ef]
end
end L2
namespace HT
open PySem PySem.Spec PyProof.Rows
section
variable {prog:Program} {w:World} {A:Around} {E:Value→Shared→Prop} {s:Shared}
theorem getItem_tuple_all {t sl:Addr} {items:Array Value} {vl vu:Value} {lo hi:Option Int} {Q:Value→Shared→Prop} (ht:IsTup s.heap t items) (hsl:s.heap.IsSliceOf sl vl vu .none) (pl:IsPart vl lo) (pu:IsPart vu hi)
  (hw:sIx items.size 0 lo=0∧sIx items.size items.size hi=items.size) (h:Q (.ref t) s):wpAny (model prog w) A (getItem (.ref t) (.ref sl)) Q E s:=by
 obtain ⟨os,hos,hcs,hds⟩:=id hsl
 have hTs:s.TypeIs (.ref sl) "slice":=⟨os,hos,hcs⟩
 unfold getItem
 try with_reducible refine wpAny_holding ?_
 first|refine wpAny_bind (wpAny_pure ?_)|skip
 refine wpAny_bind (wpAny_sequenceKey ht.typeIs (by decide) ?_)
 refine wpAny_bind (wpAny_callSpecial?_slot (name:=Str.ofString "__getitem__") ht.typeIs PyProof.Rows.slot_tuple_getitem
  (wpAny_call_entry PyProof.Rows.slot_tuple_getitem ht.typeIs entry_tuple_getitem ?_ (args_tuple_getitem _ _)))
 show wpAny _ _ (Builtin.Tuple.tupleItemsOf (.ref t) >>= _) _ _ s
 refine wpAny_bind (tupleItemsOf_ ht ?_)
 refine wpAny_bind (wpAny_typeOf hTs ?_)
 rw [if_pos (by decide)]
 refine wpAny_bind (sliceApplied_gen hsl pl pu ?_)
 have hyes:(((sIx items.size 0 lo:Nat):Int) == 0 && (1:Int) == 1 && (sIx items.size items.size hi - sIx items.size 0 lo) == items.size)=true:=by
  rw [hw.1,hw.2]
  simp
 show wpAny _ _ (if (((sIx items.size 0 lo:Nat):Int) == 0 && (1:Int) == 1 && (sIx items.size items.size hi - sIx items.size 0 lo) == items.size)=true then _ else _) _ _ s
 rw [if_pos hyes]
 refine wpAny_bind ?_
 unfold Builtin.Tuple.tupleIsExact
 refine wpAny_bind (wpAny_typeOf ht.typeIs (wpAny_pure ?_))
 rw [if_pos (by decide)]
 refine wpAny_bind (wpAny_rule ?_)
 first
  | exact wpAny_pure ⟨_,rfl,wpAny_pure h⟩
  | exact wpAny_bind (wpAny_pure (wpAny_pure ⟨_,rfl,wpAny_pure h⟩))
end
end HT
namespace L2
open PySem PySem.Spec PyProof.Rows
section
variable {X:Cx} {K:PySem.W.Frag} {H:Hp} {Q:VK}
noncomputable def rSlV (K:PySem.W.Frag):V→Option Int→Option Int→Hp→VK→Prop:=fun x lo hi H Q=>∃ a xs,x=.ref a∧SqT K H a xs∧((HT.sIx xs.length 0 lo=0∧HT.sIx xs.length xs.length hi=xs.length∧Q (.ref a) H)∨rSlT K x lo hi H Q)
theorem sl_tupV:SlR X (rSlV X.K):=by
 intro pins s σ H x v vl vu lo hi sl Q I rx hs pl pu h
 obtain ⟨a,xs,rfl,hx,⟨h1,h2,q⟩|h⟩:=h
 ·cases rx
  obtain ⟨its,r,ht,hz⟩:=I.tuple hx
  have hlen:its.toArray.size=xs.length:=by rw [List.size_toArray];exact r.length.symm
  refine⟨"tuple",_,PyProof.Rows.slot_tuple_getitem.lookup,ht.typeIs,?_⟩
  exact HT.getItem_tuple_all ht hs pl pu (by rw [hlen];exact⟨h1,h2⟩) ⟨.ref a,H,I,rfl,q⟩
 ·exact sl_tup pins s σ H _ v vl vu lo hi sl Q I rx hs pl pu h
theorem ksl_tupV (K:PySem.W.Frag) (hK:X.K=K):SlR X (rSlV K):=hK ▸ sl_tupV
theorem r_slV {a:Addr} {xs:List V} {lo hi:Option Int} (e:SqT K H a xs) (h:∀ p H2,Same H H2→SqT K H2 p (cutV xs lo hi)→Q (.ref p) H2):rSlV K (.ref a) lo hi H Q:=by
 refine⟨a,xs,rfl,e,?_⟩
 by_cases c:HT.sIx xs.length 0 lo=0∧HT.sIx xs.length xs.length hi=xs.length
 ·refine .inl ⟨c.1,c.2,h a H (Same.refl _) ?_⟩
  have:cutV xs lo hi=xs:=by
   unfold cutV
   rw [c.1,c.2,Nat.sub_zero,List.drop_zero,List.take_length]
  rw [this]
  exact e
 ·exact .inr ⟨a,xs,rfl,e,c,fun p hp=>h p _ (Same.upd_new hp) (SqT.of upd_same)⟩
end
end L2
namespace L2
open PySem PySem.Spec PyProof.Rows
section
variable {K:PySem.W.Frag} {H:Hp} {σ:St} {Q:VK} {ix:List (Option Nat)}
theorem r_gtup2 {a:Addr} {x y:V} {m n:Nat} {R:St→Hp→Prop} (h:SqT K H a [x,y]) (k:R ((σ.set m (some x)).set n (some y)) H):gTup K 2 (gCons (gName m) (gCons (gName n) gNil)) (.ref a) σ H R:=⟨a,_,rfl,h,rfl,_,_,rfl,_,_,rfl,rfl,k⟩
end
end L2
namespace L2
open PySem PySem.Spec PyProof.Rows
noncomputable def clsItem:Stmt→Nat→Stmt
 | .ClassDef _ _ _ body _ _ _ _ _ _ _,j=>body.getD j (.Pass ⟨0,0,0,0⟩)
 | s,_=>s
noncomputable def DefM (K:PySem.W.Frag) (f:Addr) (x qual:Str) (st:Stmt) (ps:List Str):Prop:=∃ fd,Fun K x qual st f fd∧Binds K fd ps []
noncomputable def OkM (P:Program) (w:World) (K:PySem.W.Frag) (mg:Str→Option Value) (base:Heap) (k:Nat) (f:Addr) (ps:List Str) (sp:Sp):Prop :=
 ∃ fd,FnOk P w K mg base CX0 k f fd ps sp∧PySem.W.keepIn K (.ref f)=true∧Binds K fd ps []
structure ClsM (K:PySem.W.Frag) (C:Addr) (m:Str) (f:Addr):Prop where
 rd:PySem.W.readsIn K C (.type "type")=true
 at_:PySem.W.findCls K (.ref C) (.type "type") m=some (.val (.ref f))
 sp:PySem.W.specialIn K (.ref C) "__getattribute__"=some (some (.builtin "type.__getattribute__"))
section
variable {P:Program} {w:World} {K:PySem.W.Frag} {mg:Str→Option Value} {base:Heap}
theorem DefM.ok {fa:Addr} {x qual:Str} {st:Stmt} {N ps:List Str} {k:Nat} {sp:Sp} (D:DefM K fa x qual st ps) (S:FnScope N ps (defScope st)) (len:∀ vs H Q E,sp vs H Q E→vs.length=ps.length)
  (hbody:∀ (f:Addr) (cdv:Value) (A:Around) (outer:List Env) (s:Shared) (H:Hp) (vs:List V) (Q:VK) (E:XK),Room k (A.deeper (envOfC qual (defScope st) s.heap.objs.size f cdv))→sp vs H Q E →
   ∃ t,PSs (cxOf CX0 P w K mg base N qual (defScope st) f cdv A outer s H E).nox (defBody st) t∧t { nx:=fun _ H'=>Q .non H',rt:=Q } (start N vs) H):OkM P w K mg base (k+1) fa ps sp:=by
 obtain ⟨fd,F,hb⟩:=D
 exact⟨fd,F.ok S len fun cdv A outer s H vs Q E hr h=>hbody fa cdv A outer s H vs Q E hr h,F.kp,hb⟩
end
section
variable {X:Cx} {k:Nat} {f C:Addr} {x m:Str} {ps:List Str} {sp:Sp} {p pos apos:Pos} {e o:Expr} {es:List Expr} {ta:TE} {t:TA}
theorem pmeth {pl:Sem Bool} (O:OkM X.prog X.w X.K X.mg X.base k f ps sp) (c:Cls X.K C) (hm:Meth X.K C m f) (hr:Room k X.A) (he:PE X o ta) (ha:PA X (e::es) t)
  (hst:starEach (e::es) X.env=(false,eval e X.env)::starEach es X.env:=by rfl) (hpl:(backTo pos (starEach es X.env)).any (·.1)=false:=by rfl)
  (ht:eval (.Call (.Attribute o m apos) (e::es) [] pos) X.env=(do
   let ov ← eval o X.env
   standAt apos.atName
   let (f,first) ← holding [ov] (getMethod ov m pl)
   callWith pos f first (backTo pos (starEach (e::es) X.env)) (backToKw pos (keywordEach [] X.env))):=by rfl) :
  PE X (.Call (.Attribute o m apos) (e::es) [] pos) (tMeth C m sp [] E0 ta t):=by
 obtain ⟨fd,F,_,hb⟩:=O
 exact pe_meth he c hm F hr hb .nil pass0 ha hst hpl ht
theorem pmake (O:OkM X.prog X.w X.K X.mg X.base k f ps sp) (M:Mk X.K C f) (hr:Room (k+1) X.A) (hg:Gl X x) (hm:X.mg x=some (.ref C)) (ha:PA X (e::es) t)
  (hdb:(x == ("__debug__":Str))=false:=by decide) (he:starEach (e::es) X.env=(false,eval e X.env)::starEach es X.env:=by rfl) (hpl:(backTo pos (starEach es X.env)).any (·.1)=false:=by rfl) :
  PE X (.Call (.Name x p) (e::es) [] pos) (tMake C sp [] E0 t):=by
 obtain ⟨fd,F,_,hb⟩:=O
 exact pe_make M F hr hg hm hb .nil pass0 ha hdb he hpl
theorem pcls {pl:Sem Bool} (O:OkM X.prog X.w X.K X.mg X.base k f ps sp) (c:ClsM X.K C m f) (hr:Room k X.A) (hg:Gl X x) (hm:X.mg x=some (.ref C)) (ha:PA X (e::es) t)
  (hdb:(x == ("__debug__":Str))=false:=by decide) (hst:starEach (e::es) X.env=(false,eval e X.env)::starEach es X.env:=by rfl) (hpl:(backTo pos (starEach es X.env)).any (·.1)=false:=by rfl)
  (ht:eval (.Call (.Attribute (.Name x p) m apos) (e::es) [] pos) X.env=(do
   let ov ← eval (.Name x p) X.env
   standAt apos.atName
   let (f,first) ← holding [ov] (getMethod ov m pl)
   callWith pos f first (backTo pos (starEach (e::es) X.env)) (backToKw pos (keywordEach [] X.env))):=by rfl) :
  PE X (.Call (.Attribute (.Name x p) m apos) (e::es) [] pos) (tCall sp [] E0 t):=by
 obtain ⟨fd,F,kp,hb⟩:=O
 intro pins s σ H Q I h
 refine PySem.W.methodCall_KW (pl:=pl) (ld_glob I hg hm ?_ hdb) ht
 refine PySem.W.method_cls I.kIn c.sp (PySem.W.cls_value I.kIn c.rd c.at_ rfl ?_)
 refine PySem.W.callWith_K (first:=[]) (h₀:=X.base) I.ok.mod.kin kp (thn (ha pos pins _ σ H _ (I.tok _) h) fun us s1 ⟨vs,H1,I1,r,q⟩=>⟨I1.kIn,?_⟩) hst hpl
 exact run_fn F hr hb .nil pass0 I1 r q
theorem kpe_fld {f:Str} (K:PySem.W.Frag) (hK:X.K=K) (he:PE X e ta) (hb:attributeBase e f X.env (eval e X.env)=eval e X.env):PE X (.Attribute e f pos) (tFld K ta f):=hK ▸ pe_fld he hb
theorem kps_fld {f:Str} {value:Expr} {pos':Pos} {tv:TE} (K:PySem.W.Frag) (hK:X.K=K) (ha:PE X o ta) (hv:PE X value tv) (hs:swapsWith value (some (.Attribute o f pos')) pos.line X.env=pure false):PS X (.Assign [.Attribute o f pos'] value pos) (sFld K ta tv f):=hK ▸ ps_fld ha hv hs
end
section
variable {K:PySem.W.Frag} {H:Hp} {σ:St} {Q:VK} {D:Ends} {ta tv:TE} {t:TA} {C:Addr} {m f:Str} {sp:Sp} {x:V}
noncomputable def rMeth (C:Addr) (m:Str) (sp:Sp) (t:TA) (σ:St) (Q:VK) (x:V) (H1:Hp):Prop:=∃ a dx fs,x=.ref a∧H1 a=some (.ins C dx fs)∧fs.lookup m=none∧t σ H1 fun vs H2=>sp (x::(vs++[])) H2 Q E0
theorem r_meth (h:ta σ H fun x H1=>rMeth C m sp t σ Q x H1):tMeth C m sp [] E0 ta t σ H Q:=h
theorem r_meth1 {a dx:Addr} {fs:List (Str×V)} (e:H a=some (.ins C dx fs)) (l:fs.lookup m=none) (h:t σ H fun vs H2=>sp (.ref a::(vs++[])) H2 Q E0):rMeth C m sp t σ Q (.ref a) H:=⟨a,dx,fs,rfl,e,l,h⟩
noncomputable def rMake (C:Addr) (sp:Sp) (Q:VK) (vs:List V) (H1:Hp):Prop:=∀ x dx,H1 x=none→H1 dx=none→dx≠x→sp (.ref x::(vs++[])) (upd (upd H1 dx (.own x)) x (.ins C dx [])) (fun v H2=>v=.non∧Q (.ref x) H2) E0
theorem r_make (h:t σ H fun vs H1=>rMake C sp Q vs H1):tMake C sp [] E0 t σ H Q:=h
noncomputable def rFld (K:PySem.W.Frag) (f:Str) (Q:VK) (x:V) (H1:Hp):Prop:=∃ a C dx fs v,x=.ref a∧H1 a=some (.ins C dx fs)∧Cls K C∧NoAttr K C f∧fs.lookup f=some v∧Q v H1
theorem r_fld (h:ta σ H fun x H1=>rFld K f Q x H1):tFld K ta f σ H Q:=h
theorem r_fld1 {a dx:Addr} {fs:List (Str×V)} {v:V} (e:H a=some (.ins C dx fs)) (c:Cls K C) (n:NoAttr K C f) (l:fs.lookup f=some v) (h:Q v H):rFld K f Q (.ref a) H:=⟨a,C,dx,fs,v,rfl,e,c,n,l,h⟩
noncomputable def rSFld (K:PySem.W.Frag) (f:Str) (D:Ends) (σ:St) (y:V) (x:V) (H2:Hp):Prop:=∃ a C dx fs,x=.ref a∧H2 a=some (.ins C dx fs)∧Cls K C∧NoAttr K C f∧fs.length<1000∧D.nx σ (upd H2 a (.ins C dx (putF f y fs)))
theorem r_sfld (h:tv σ H fun y H1=>ta σ H1 fun x H2=>rSFld K f D σ y x H2):sFld K ta tv f D σ H:=h
theorem r_sfld1 {a dx:Addr} {fs:List (Str×V)} {y:V} (e:H a=some (.ins C dx fs)) (c:Cls K C) (n:NoAttr K C f) (l:fs.length<1000) (h:D.nx σ (upd H a (.ins C dx (putF f y fs)))):rSFld K f D σ y (.ref a) H:=⟨a,C,dx,fs,rfl,e,c,n,l,h⟩
end
end L2
namespace L2
open PySem PySem.Spec PyProof.Rows
section
variable {K:PySem.W.Frag} {H:Hp} {σ:St} {Q:VK} {ix:List (Option Nat)}
theorem rd_zipT {k1 k2:Bool} {a b:Addr} {r q:List Int} (hpk:pick ix σ=[none,none]) (ha:Sq k1 K H a (r.map V.int)) (hb:Sq k2 K H b (q.map V.int)) (hlen:q.length≤r.length) (hn:r.length≤1000) (hm:∀ i,i<q.length→CMulB (r.getD i 0) (q.getD i 0))
  (hQ:∀ l H',H l=none→Same H H'→H' l=some (.lst ((List.zipWith (·*·) r q).map V.int))→Q (.ref l) H') :
  CompGoal ix (gTup K 2 (gCons (gName 0) (gCons (gName 1) gNil))) (fun _ H Q=>Q true H) (tOp (rI CMulB fun i j=>.int (i*j)) (tVar 0) (tVar 1)) σ Q (Itz K k1 k2 a b) H:=by
 have lz:(List.zipWith (·*·) r q).length=q.length:=by rw [List.length_zipWith];lia
 refine comp_gen 2 [] q.length (fun l i ys H'=>ys=((List.zipWith (·*·) r q).take i).map V.int∧i≤q.length) hpk (fun l H' _ _ _=>⟨rfl,Nat.zero_le _⟩) (fun l i ys H' h=>by rw [h.1,List.length_map,List.length_take];lia) (fun H' s=>⟨_,_,s.sq ha,s.sq hb,.inr (by simp)⟩) (fun i H' hi s=>⟨_,_,_,_,s.sq ha,s.sq hb,int_at (by lia),int_at hi⟩) (fun l' i x H' H2 own ys ho hi hl0 s hl' hp hy Qy Qn ky kn=>?_) (fun l2 H' ys a b c d=>hQ l2 H' a b (by rw [c,d.1,List.take_of_length_le (by lia)]))
 obtain ⟨o1,o2,rfl⟩:∃ o1 o2,own=[o1,o2]:=by match own,ho with|[o1,o2],_=>exact⟨o1,o2,rfl⟩
 obtain ⟨p,x',y',rfl,hq,e1,e2,rfl⟩:=hy
 obtain ⟨rfl,_⟩:=int_get (e1 _ (s.sq ha))
 obtain ⟨rfl,_⟩:=int_get (e2 _ (s.sq hb))
 have s2:=Same.upd_new (o:=.tup [.int (r.getD i 0),.int (q.getD i 0)]) hq
 refine⟨p,_,rfl,SqT.of upd_same,rfl,_,_,rfl,_,_,rfl,rfl,?_⟩
 show ite (true=true) _ _
 rw [if_pos rfl]
 refine⟨_,rfl,_,rfl,_,_,rfl,rfl,hm i hi,?_⟩
 refine ky [some (.int (r.getD i 0)),some (.int (q.getD i 0))] _ _ rfl s2 ⟨?_,hi⟩
 rw [hp.1,List.take_add_one,List.map_append]
 congr 1
 have:(List.zipWith (·*·) r q)[i]?=some (r.getD i 0*q.getD i 0):=by
  rw [List.getElem?_zipWith,List.getElem?_eq_getElem (show i<r.length by lia),List.getElem?_eq_getElem hi,List.getD,List.getD,List.getElem?_eq_getElem (show i<r.length by lia),List.getElem?_eq_getElem hi]
  rfl
 rw [this]
 rfl
end
end L2
set_option maxRecDepth 100000
namespace L2
open PySem PySem.Spec PyProof.Rows PySem.W
theorem law_callS {Pr:Program} {w:World} {K:PySem.W.Frag} {mg mb:Str→Option Value} {CX:CXT} {k:Nat} {fa a:Addr} {fd:FuncData} {x:Str} {sp:Sp} {s₁:Shared} {vs:List Value} {ns:List Int} {tabs:List (Addr×Addr)}
  (hT:TabsAt tabs s₁.heap) (hKt:∀ q∈tabs,K.lookup q.2=none)
  (hbm:∃ bm ob,mg "__builtins__"=some (.ref bm)∧bm≠builtinsNs∧s₁.heap.get? bm=some ob∧ob.cls=.type "module"∧ob.dict=some builtinsNs∧ob.data=.plain)
  (hse:s₁.heap.NoSeer) (KX:K.In s₁.heap) (hns:s₁.heap.Ns mainGlobals mg) (hb:s₁.heap.Ns builtinsNs mb) (hbb:∀ x:Str,x≠"__name__"→mb x=bootBuiltins x) (hlim:s₁.heap.NoLimit) (hg:s₁.gens=#[])
  (ha:s₁.heap.get? a=some { cls:=.type "list",data:=.seq vs.toArray }) (hi:IntsAre vs ns) (hl:ns.length≤sizeLine) (hr:Room k callerA)
  (F:∀ base:Heap,K.In base→base.Ns mainGlobals mg→(∀ q∈tabs,CodeHd base q.1 q.2∧base.BuiltinsAt mg q.2)→base.NoSeer→FnOk Pr w K mg base CX k fa fd [x] sp) (hbind:∀ (s:Shared) (u:Value),BindsTo s fd ⟨[u],[]⟩ [(x,u)])
  (hsp:∀ H:Hp,Tabs0 tabs H→SqL K H a (ns.map V.int)→sp [.ref a] H (fun v _=>v=.bl true) fun _ _ _=>False)
  (hCX:∀ H e s',CX [] H s₁ (fun _ _ _=>False) e s'→False) :
  codeAny (model Pr w) callerA (.call (.ref fa) ⟨[.ref a],[]⟩) (fun r s'=>r=.ok (.ret (.bool true))∧OldK s₁.heap s'.heap∧s'.os=s₁.os∧AllBare s'.gens) s₁:=by
 have rv:=vals_ints hi
 have lenV:=hi.length
 have naT:∀ q∈tabs,q.2≠a:=fun q hq z=>by
  have e:=(hT q hq).2
  rw [z,ha] at e
  cases e
 have core:∀ H:Hp,(∀ b u,H b=some u→(b=a∧K.lookup a=none∧∃ xs,u=.frz { cls:=.type "list",data:=.seq vs.toArray } (.lst xs))∨∃ q∈tabs,q.2=b∧u=.tbl #[])→Tabs0 tabs H→SqL K H a (ns.map V.int)→HOk Pr w H s₁.heap →
   codeAny (model Pr w) callerA (.call (.ref fa) ⟨[.ref a],[]⟩) (fun r s'=>r=.ok (.ret (.bool true))∧OldK s₁.heap s'.heap∧s'.os=s₁.os∧AllBare s'.gens) s₁:=by
  intro H hA h0 hS hok
  have base_of:∀ {b:Addr} {o:Obj},s₁.heap.get? b=some o→H b=none→(hidT s₁.heap H).get? b=some o:=fun e n=>hidT_get e n
  have noD:∀ {b:Addr} {o:Obj},s₁.heap.get? b=some o→(∀ v n,o.data≠.seq v n)→(∀ v,o.data=.fields v→o.cls≠.none)→H b=none:=fun {b o} e d d2=>by
   cases q:H b with
   | none=>rfl
   | some u =>
    rcases hA b u q with ⟨rfl,_⟩|⟨t,ht,rfl,_⟩
    ·rw [ha] at e
     cases e
     exact absurd rfl (d _ _)
    ·rw [(hT t ht).2] at e
     cases e
     exact absurd rfl (d2 _ rfl)
  have noA:∀ {b:Addr} {o:Obj} {es:Array DictEntry} {ep:Nat},s₁.heap.get? b=some o→o.data=.dict es ep→H b=none:=fun e d=>noD e (fun v n z=>by rw [d] at z;cases z) fun v z=>by rw [d] at z;cases z
  have nsK:∀ {b:Addr} {m:Str→Option Value},s₁.heap.Ns b m→(hidT s₁.heap H).Ns b m:=fun {b m} ⟨o,es,ep,e,d,r⟩=>⟨o,es,ep,base_of e (noA e d),d,r⟩
  have hKb:K.In (hidT s₁.heap H):=fun b o e=>base_of (KX b o e) (by
   cases q:H b with
   | none=>rfl
   | some u =>
    rcases hA b u q with ⟨rfl,z,_⟩|⟨t,ht,rfl,_⟩
    ·rw [z] at e;cases e
    ·rw [hKt t ht] at e;cases e)
  have hM:Mod K mg (hidT s₁.heap H):=⟨hKb,nsK hns,⟨mb,nsK hb,hbb⟩,let ⟨mc,h1,h2⟩:=hlim;⟨mc,nsK h1,h2⟩⟩
  have hTb:∀ q∈tabs,CodeHd (hidT s₁.heap H) q.1 q.2∧(hidT s₁.heap H).BuiltinsAt mg q.2:=fun q hq=>by
   refine⟨?_,?_⟩
   ·obtain ⟨o,vs',file,tf,flags,tg,inF,text,tt,e1,e2,e3,r⟩:=(hT q hq).1
    exact⟨o,vs',file,tf,flags,tg,inF,text,tt,base_of e1 (noD e1 (fun v n z=>by rw [e3] at z;cases z) fun v _ z=>by rw [e2] at z;cases z),e2,e3,r⟩
   ·obtain ⟨bm,ob,b1,b2,b3,b4,b5,b6⟩:=hbm
    refine⟨bm,ob,b1,b2,fun z=>?_,fun z=>?_,base_of b3 (noD b3 (fun v n z=>by rw [b6] at z;cases z) fun v z=>by rw [b6] at z;cases z),b4,b5,b6⟩
    ·obtain ⟨o,es,ep,e,hd,_⟩:=hns
     rw [z,e] at b3;cases b3;rw [hd] at b6;cases b6
    ·rw [z,(hT q hq).2] at b3;cases b3;cases b4
  have hSb:(hidT s₁.heap H).NoSeer:=⟨let ⟨mc,a,b⟩:=hse.statics;⟨mc,nsK a,b⟩,let ⟨mm,a,b⟩:=hse.mods;⟨mm,nsK a,b⟩,⟨mb,nsK hb,hbb⟩,let ⟨bm,ob,b1,b2,b3,b4,b5,b6⟩:=hbm;⟨mg,bm,ob,nsK hns,b1,base_of b3 (noD b3 (fun v n z=>by rw [b6] at z;cases z) fun v z=>by rw [b6] at z;cases z),b4,b5⟩⟩
  have e0:Env0 Pr w K mg (hidT s₁.heap H) callerA [] s₁ H:=⟨rfl,hM,fun b o e=>of_hidT e,Nat.le_of_eq (hidT_size _ _),trivial,fun b hb=>absurd (show b∈([]:List Addr) from hb) (by simp),hok,.of_eq hg⟩
  refine codeAny_mono ((F _ hKb (nsK hns) hTb hSb).run callerA [] s₁ H ⟨[.ref a],[]⟩ [.ref a] [.ref a] _ _ hr e0 (hbind s₁ (.ref a)) (.cons rfl .nil) (hsp H h0 hS)) fun r s' h=>?_
  cases r with
  | error e=>exact (hCX H e s' h).elim
  | ok fl =>
   cases fl with
   | next=>exact False.elim h
   | brk=>exact False.elim h
   | cont=>exact False.elim h
   | ret u =>
    obtain ⟨v,H',os,bare,un,hok',r',q⟩:=h
    have q':v=.bl true:=q
    subst q'
    obtain rfl:u=Value.bool true:=r'
    have was:∀ b o,s₁.heap.get? b=some o→asItWas s₁.heap s'.heap b o∧∃ o',s'.heap.get? b=some o':=fun b o e=>by
     cases q:H b with
     | none =>
      have z:=un.keep b o e q (by intro z;exact absurd (show b∈([]:List Addr) from z) (by simp)) (by simp)
      exact⟨.inl z,_,z⟩
     | some u =>
      rcases hA b u q with ⟨rfl,_,xs,rfl⟩|⟨t,ht,rfl,rfl⟩
      ·have z2:=un.frzs b _ _ q
       obtain ⟨e1,_⟩:=hok b _ q
       obtain ⟨e2,_⟩:=hok' b _ z2
       rw [e] at e1;cases e1
       exact⟨.inl e2,_,e2⟩
      ·obtain ⟨more,z2⟩:=un.tbls t.2 _ q
       have e2:s'.heap.get? t.2=some { cls:=.none,data:=.fields (#[]++more) }:=hok' t.2 _ z2
       have e1:=(hT t ht).2
       rw [e] at e1
       cases e1
       exact⟨.inr (.inl ⟨((hT t ht).1.tab (hT t ht).2).isCodeTable,rfl,#[],more,rfl,e2⟩),_,e2⟩
    exact⟨rfl,⟨fun b o e=>(was b o e).1,fun b o e=>(was b o e).2⟩,os,bare⟩
 have tabOk:∀ (H:Hp) q,q∈tabs→ObjOk Pr w H s₁.heap q.2 (.tbl #[]):=fun H q hq=>(hT q hq).2
 cases hk:K.lookup a with
 | some o =>
  have e:=KX a o hk
  rw [ha] at e
  cases e
  refine core (fun b=>if (tabs.any fun q=>q.2 == b)=true then some (.tbl #[]) else none) (fun b u z=>?_) (fun q hq=>if_pos (List.any_eq_true.mpr ⟨q,hq,by simp⟩)) (.inr ⟨_,vs.toArray,_,hk,rfl,rfl,rfl,by rw [List.size_toArray,lenV];exact hl,by simpa using rv⟩) (fun b u z=>?_)
  ·by_cases hb:(tabs.any fun q=>q.2 == b)=true
   ·have z':=(if_pos hb).symm.trans z
    cases z'
    obtain ⟨q,hq,e⟩:=List.any_eq_true.mp hb
    exact .inr ⟨q,hq,beq_iff_eq.mp e,rfl⟩
   ·have z':=(if_neg hb).symm.trans z
    cases z'
  ·by_cases hb:(tabs.any fun q=>q.2 == b)=true
   ·have z':=(if_pos hb).symm.trans z
    cases z'
    obtain ⟨q,hq,e⟩:=List.any_eq_true.mp hb
    rw [← beq_iff_eq.mp e]
    exact tabOk _ q hq
   ·have z':=(if_neg hb).symm.trans z
    cases z'
 | none =>
  have aT:¬ (tabs.any fun q=>q.2 == a)=true:=fun z=>by
   obtain ⟨q,hq,e⟩:=List.any_eq_true.mp z
   exact naT q hq (beq_iff_eq.mp e)
  obtain ⟨H,hH⟩:∃ H:Hp,H=fun b=>if (tabs.any fun q=>q.2 == b)=true then some (.tbl #[]) else if b=a then some (.frz { cls:=.type "list",data:=.seq vs.toArray } (.lst (ns.map V.int))) else none:=⟨_,rfl⟩
  have hHa:H a=some (.frz { cls:=.type "list",data:=.seq vs.toArray } (.lst (ns.map V.int))):=by
   rw [hH]
   show (if _ then _ else _)=_
   rw [if_neg aT,if_pos rfl]
  have hHt:Tabs0 tabs H:=fun q hq=>by
   rw [hH]
   exact if_pos (List.any_eq_true.mpr ⟨q,hq,by simp⟩)
  have all:∀ b u,H b=some u→(b=a∧u=.frz { cls:=.type "list",data:=.seq vs.toArray } (.lst (ns.map V.int)))∨∃ q∈tabs,q.2=b∧u=.tbl #[]:=fun b u z=>by
   rw [hH] at z
   have z:(if (tabs.any fun q=>q.2 == b)=true then some (HO.tbl #[]) else if b=a then some (.frz { cls:=.type "list",data:=.seq vs.toArray } (.lst (ns.map V.int))) else none)=some u:=z
   by_cases hb:(tabs.any fun q=>q.2 == b)=true
   ·rw [if_pos hb] at z
    cases z
    obtain ⟨q,hq,e⟩:=List.any_eq_true.mp hb
    exact .inr ⟨q,hq,beq_iff_eq.mp e,rfl⟩
   ·rw [if_neg hb] at z
    by_cases h2:b=a
    ·rw [if_pos h2] at z
     cases z
     exact .inl ⟨h2,rfl⟩
    ·rw [if_neg h2] at z
     cases z
  refine core H (fun b u z=>(all b u z).imp (fun ⟨e,eu⟩=>⟨e,hk,_,eu⟩) id) hHt (.inl (.inr ⟨_,hHa⟩)) fun b u z=>?_
  rcases all b u z with ⟨rfl,rfl⟩|⟨q,hq,rfl,rfl⟩
  ·exact⟨ha,by rw [List.length_map];exact hl,vs,_,rv,ha⟩
  ·exact tabOk _ q hq
theorem op_fdivP {X:Cx} {e:Env} {l:List Env} (Y:X.base.NoSeer∧X.prog.given.tree=none) (hst:X.stack=e::l) (h1:e.scope.isGenerator=false) (h2:e.scope.isCoroutine=false) (h3:e.builtins=builtinsNs) (h4:e.globals=mainGlobals) (hr:Room 32 X.A) :
  OpR X (binaryOp .FloorDiv) (rI (fun _ j=>j≠0) fun i j=>.int (i.fdiv j)):=by
 intro pins s σ H x y v u Q I rx ry h
 obtain ⟨i,j,rfl,rfl,hc,q⟩:=h
 obtain ⟨t,rfl⟩:=rx
 obtain ⟨t',rfl⟩:=ry
 have hd:X.A.depth+Builtin.pylongFrames<recursionLimit:=by
  have:=hr.dp
  have e1:Builtin.pylongFrames=100:=rfl
  lia
 exact floordiv_int hc ⟨.int (i.fdiv j),H,I.tok _,⟨_,rfl⟩,q⟩ (.inr (PylongRoom.of I.nolimit hd (SeerAt.of (Y.1.keeps I.bk) Y.2 (by rw [I.ok.frames,hst]) h1 h2 h3 h4)))
end L2
set_option maxRecDepth 100000
namespace L2
open PySem PySem.Spec PyProof.Rows
noncomputable def CMulW (i j:Int):Prop:=bitsI i+bitsI j≤134217728
theorem CMulW.ok {i j:Int} (h:CMulW i j):IntMulOk i j:=by
 unfold IntMulOk
 intro z
 simp only [Bool.and_eq_true,decide_eq_true_eq] at z
 have z2:=z.2
 unfold Builtin.Int.intTooBig at z2
 have h':Builtin.Int.intBits i+Builtin.Int.intBits j≤134217728:=h
 have b:(134217728:Int)≤bitsLine:=by decide
 simp only [decide_eq_true_eq] at z2
 lia
theorem op_mulW {X:Cx}:OpR X (binaryOp .Mult) (rI CMulW fun i j=>.int (i*j)):=opI fun _ _ _ _ _ _ _ hc q=>mul_int q hc.ok
end L2
set_option maxRecDepth 100000
namespace L2
open PySem PySem.Spec PyProof.Rows PySem.Builtin PySem.Builtin.Str
section
variable {X:Cx}
theorem small2000 {n:Nat} (h:n≤2000):n≤sizeLine:=Nat.le_trans h (by decide)
noncomputable def rStr1:List V→Hp→VK→Prop:=fun xs H Q=>∃ i,xs=[.int i]∧i.natAbs.log2<1920∧Q (.str (toString i)) H
theorem callN_str:CallR X (.type "str") rStr1:=call_str_int
noncomputable def rAddS:R2:=fun x y H Q=>∃ i j,x=.str i∧y=.str j∧i.length+j.length≤sizeLine∧Q (.str (i++j)) H
theorem op_addS:OpR X (binaryOp .Add) rAddS:=op_add_str
end
section
variable {D:Ends} {σ:St} {H:Hp} {te:TE} {g:TG} {Q:VK} {z y:Str} {K:PySem.W.Frag}
theorem r_str1 {i:Int} (hi:i.natAbs.log2<1920) (h:Q (.str (toString i)) H):rStr1 [.int i] H Q:=⟨i,rfl,hi,h⟩
theorem r_addS (hz:z.length+y.length≤sizeLine) (h:Q (.str (z++y)) H):rAddS (.str z) (.str y) H Q:=⟨z,y,rfl,rfl,hz,h⟩
theorem r_ixS {i:Int} {c:Nat} (hz:z.length≤sizeLine) (h1:atI z.cps.toList i=some c) (h:Q (.str ⟨#[c]⟩) H):rIxS (.str z) (.int i) H Q:=⟨z,i,c,rfl,rfl,hz,h1,h⟩
end
end L2
namespace L2
open PySem PySem.Spec PyProof.Rows
section
variable {Q:VK} {H:Hp} {z y:Str}
theorem decS:decide (V.str z=V.str y)=decide (z=y):=by
 rw [Bool.eq_iff_iff];simp
theorem r_eqS (h:Q (.bl (decide (z=y))) H):rEq (.str z) (.str y) H Q:=⟨rfl,by rw [decS];exact h⟩
end
noncomputable def cval:Expr→Option V
 | .Constant (.int i) _ _=>some (.int i)
 | .Constant (.str s) _ _=>some (.str s)
 | _=>none
noncomputable def cvals:List Expr→Option (List V)
 | []=>some []
 | e::es=>match cval e,cvals es with
  | some v,some vs=>some (v::vs)
  | _,_=>none
noncomputable def tVals:List V→TA
 | []=>tNil
 | v::vs=>tCons (tC v) (tVals vs)
theorem pa_vals {X:Cx}:∀ {es:List Expr} {vs:List V},cvals es=some vs→PA X es (tVals vs)
 | [],vs,h=>by cases h;exact pa_nil
 | e::es,vs,h=>by
  unfold cvals at h
  split at h
  ·rename_i v ws h1 h2
   cases h
   unfold cval at h1
   split at h1
   ·cases h1;exact pa_cons pe_int (pa_vals h2)
   ·cases h1;exact pa_cons pe_str (pa_vals h2)
   ·cases h1
  ·cases h
theorem pe_lstC {X:Cx} {es:List Expr} {vs:List V} {pos:Pos} (h:cvals es=some vs):PE X (.List es pos) (tLst (tVals vs)):=pe_lst (pa_vals h)
theorem tVals_run {σ:St} {H:Hp}:∀ {vs:List V} {Q:List V→Hp→Prop},Q vs H→tVals vs σ H Q
 | [],_,h=>h
 | v::vs,Q,h=>tVals_run (vs:=vs) (Q:=fun xs H2=>Q (v::xs) H2) h
theorem r_lstC {σ:St} {H:Hp} {Q:VK} {vs:List V} (hl:vs.length≤1000) (h:∀ p H2,H p=none→Same H H2→H2 p=some (.lst vs)→Q (.ref p) H2):tLst (tVals vs) σ H Q :=
 tVals_run (vs:=vs) (r_newL hl h)
theorem noraise {X:Cx}:∀ e s',XW X (fun _ _ _=>False) e s'→X.xe e s':=fun _ _ h=>by
 obtain ⟨_,_,_,_,_,_,_,z⟩:=h
 exact z.elim
end L2
namespace L2
open PySem PySem.Spec PyProof.Rows
section
variable {X:Cx} {a:Addr} {kvs:List (Key×V)}
noncomputable def reps (c:Nat) (n:Nat):Str:=⟨Array.replicate n c⟩
theorem fold_reps (c:Nat):∀ (k:Nat) (b:Array Nat),(List.replicate k #[c]).foldl (·++·) b=b++Array.replicate k c
 | 0,b=>by simp
 | k+1,b=>by
  rw [List.replicate_succ,List.foldl_cons,fold_reps c k,Array.append_assoc]
  congr 1
  apply Array.ext'
  simp [List.replicate_succ]
noncomputable def rMul1:R2:=fun x y H Q=>∃ (c:Nat) (n:Int),x=.str ⟨#[c]⟩∧y=.int n∧(-1000≤n∧n≤1000)∧Q (.str (reps c n.toNat)) H
theorem op_mul1:OpR X (binaryOp .Mult) rMul1:=by
 intro pins s σ H x y v u Q I rx ry h
 obtain ⟨c,n,rfl,rfl,hn,q⟩:=h
 obtain ⟨t,rfl⟩:=rx
 obtain ⟨t',rfl⟩:=ry
 have l1:(⟨#[c]⟩:Str).length=1:=rfl
 refine P.mul_str (by rw [decide_eq_false (by lia),decide_eq_false (by lia)];rfl) (fun h1 _=>?_) (fun h1 _=>?_) ?_
 ·have h1':1≤n:=by lia
  have:(9000000000000:Int)≤(2 ^ 63 - 1) / n:=by
   rw [Int.le_ediv_iff_mul_le (by lia)]
   lia
  rw [l1]
  lia
 ·show decide (_ > sizeLine)=false
  rw [decide_eq_false]
  rw [l1]
  have:=small2000 (show 1*n.toNat≤2000 by lia)
  lia
 ·split
  ·rename_i h1
   have e:reps c n.toNat=Str.empty:=by rw [show n.toNat=0 by lia];rfl
   rw [e] at q
   exact⟨by decide,⟨.str _,H,I.tok _,⟨_,rfl⟩,q⟩⟩
  ·split
   ·rename_i h1 h2
    have e:n=1:=by
     rw [Bool.or_eq_true,beq_iff_eq,beq_iff_eq,l1] at h2
     rcases h2 with h2|h2
     ·exact h2
     ·cases h2
    subst e
    exact⟨.str _,H,I,⟨_,rfl⟩,q⟩
   ·have e:(⟨(List.replicate n.toNat #[c]).foldl (·++·) #[]⟩:Str)=reps c n.toNat:=by
     unfold reps
     rw [fold_reps,Array.empty_append]
    refine⟨?_,⟨.str _,H,I.tok _,⟨_,rfl⟩,?_⟩⟩
    ·show (⟨(List.replicate n.toNat #[c]).foldl (·++·) #[]⟩:Str).length≤sizeLine
     rw [e]
     show (Array.replicate n.toNat c).size≤sizeLine
     rw [Array.size_replicate]
     exact small2000 (by lia)
    ·show Q (.str ⟨(List.replicate n.toNat #[c]).foldl (·++·) #[]⟩) H
     rw [e]
     exact q
end
section
variable {H:Hp} {Q:VK} {a:Addr} {kvs:List (Key×V)} {z y:Str}
theorem r_mul1 {c:Nat} {n:Int} (hn:-1000≤n∧n≤1000) (h:Q (.str (reps c n.toNat)) H):rMul1 (.str ⟨#[c]⟩) (.int n) H Q:=⟨c,n,rfl,rfl,hn,h⟩
end
end L2
set_option maxRecDepth 100000
namespace Srt
open PySem PySem.W PyProof.Rows
section
variable {n:Nat} {key:Nat→Int}
noncomputable def ky (key:Nat→Int) (p:Array Nat) (i:Nat):Int:=key (p.getD i 0)
end
end Srt
namespace L2
open PySem PySem.Spec PySem.W PyProof.Rows
noncomputable def lk (r:List Int):Int:=r.foldl (fun k a=>k*4000001+a) 0
end L2
set_option maxRecDepth 100000
set_option maxRecDepth 100000
set_option maxRecDepth 100000
set_option maxRecDepth 100000
set_option maxRecDepth 100000
set_option maxRecDepth 100000
set_option maxRecDepth 100000
set_option maxRecDepth 100000
set_option maxRecDepth 100000
set_option maxRecDepth 100000
set_option maxRecDepth 100000
namespace L2
namespace Mat
noncomputable def up (ts:List Nat) (a:Int) (u:Nat→Int):Nat→Int:=fun x=>if x∈ts then u x+a else u x
section
variable {n:Nat} {W:Nat→Nat→Int} {u v:Nat→Int} {g c:Nat→Option Nat} {first:Nat} {ts:List Nat} {os:List (Nat×Nat)}
structure Tn (n:Nat) (W:Nat→Nat→Int) (u v:Nat→Int) (g0:Nat→Option Nat) (ts:List Nat) (os:List (Nat×Nat)) (g c:Nat→Option Nat) (f:Nat) (i:Nat):Prop where
 pl:∃ o,os[i]?=some (f,o)
 part:∀ t b,b≠f→(g t=some b↔c b=some t)
 no:∀ t,g t≠some f
 old:∀ k t,k≤i→ts[k]?=some t→g t=g0 t
 tight:∀ t j,g t=some j→u t+v j=W t j
 ran:∀ t j,g t=some j→t<n∧j<n
 dom:∀ t,(g t).isSome=(g0 t).isSome
noncomputable def st (f:Nat→Option Nat) (i:Nat) (x:Option Nat):Nat→Option Nat:=fun k=>if k=i then x else f k
end
end Mat
end L2
set_option maxRecDepth 100000
namespace L2
open PySem PySem.Spec PyProof.Rows PySem.W
section
variable {K:PySem.W.Frag} {H:Hp} {σ:St} {Q:VK} {ix:List (Option Nat)}
theorem rd_rangeFilter {n:Nat} {tt:TT} {te:TE} (fr:St) (f:Nat→Bool) (hpk:pick ix σ=none::fr) (hn:n≤1000)
  (tst:∀ (i:Nat) (H':Hp) (Qc:Bool→Hp→Prop),i<n→Same H H'→(∀ H5,Same H' H5→Qc (f i) H5)→tt (some (.int (i:Int))::fr) H' Qc)
  (elt:∀ (i:Nat) (H':Hp) (Qc:VK),i<n→Same H H'→(∀ H5,Same H' H5→Qc (.int (i:Int)) H5)→te (some (.int (i:Int))::fr) H' Qc)
  (hQ:∀ l H',H l=none→Same H H'→H' l=some (.lst (((List.range n).filter f).map fun k:Nat=>V.int (k:Int)))→Q (.ref l) H'):CompGoal ix (gName 0) tt te σ Q (Itr 0 n) H:=by
 refine comp_gen 1 fr n (fun l i ys H'=>ys=((List.range i).filter f).map (fun k:Nat=>V.int (k:Int))∧i≤n) hpk (fun l H' _ _ _=>⟨rfl,Nat.zero_le _⟩) (fun l i ys H' h=>?_) (fun H' s=>Nat.le_refl _) (fun i H' hi s=>hi) (fun l i x H' H2 own ys ho hi hl0 s hl' hp hy Qy Qn ky kn=>?_) (fun l H' ys a b c d=>hQ l H' a b (by rw [c,d.1]))
 ·rw [h.1,List.length_map]
  have:=List.length_filter_le f (List.range i)
  rw [List.length_range] at this
  lia
 ·obtain ⟨o1,rfl⟩:∃ o1,own=[o1]:=by match own,ho with|[o1],_=>exact⟨o1,rfl⟩
  obtain ⟨rfl,rfl⟩:=hy
  dsimp only [gName]
  rw [Int.zero_add]
  refine tst i _ _ hi s fun H3 s3=>?_
  have e:(List.range (i+1)).filter f=(List.range i).filter f++(if f i=true then [i] else []):=by
   rw [List.range_succ,List.filter_append]
   congr 1
   cases h:f i <;> simp [h]
  cases hf:f i with
  | true =>
   rw [if_pos rfl]
   refine elt i _ _ hi (s.trans s3) fun H5 s5=>ky [some (.int i)] _ H5 rfl (s3.trans s5) ⟨?_,hi⟩
   rw [e,hp.1,hf,List.map_append];rfl
  | false =>
   rw [if_neg (by decide)]
   refine kn [some (.int i)] H3 rfl s3 ⟨?_,hi⟩
   rw [e,hp.1,hf,List.map_append];simp
end
end L2
set_option maxRecDepth 100000
set_option maxRecDepth 100000
namespace L2
open PySem PySem.Spec PyProof.Rows
section
variable {K:PySem.W.Frag} {H:Hp} {σ:St} {Q:VK} {ix:List (Option Nat)}
theorem r_rep {l:Addr} {xs:List V} {n:Nat} (e:H l=some (.lst xs)) (hn:xs.length*n≤1000) (h:∀ p H2,H p=none→Same H H2→H2 p=some (.lst (List.replicate n xs).flatten)→Q (.ref p) H2) (h1:n≤1000):rRep (.ref l) (.int (n:Int)) H Q :=
 ⟨l,(n:Int),xs,rfl,rfl,e,by lia,by lia,Nat.le_trans (by rw [Int.toNat_natCast];exact hn) (by decide),fun p hp=>h p _ hp (Same.upd_new hp) (by rw [Int.toNat_natCast];exact upd_same)⟩
end
end L2
namespace L2
open PySem PySem.Spec PyProof.Rows
inductive PlL (K:PySem.W.Frag) (H:Hp):List V→List (Nat×List Int)→Prop where
 | nil:PlL K H [] []
 | cons {q a:Addr} {p:Nat} {r:List Int} {xs:List V} {ps:List (Nat×List Int)} (h:SqT K H q [.int (p:Int),.ref a]) (hr:SqT K H a (r.map V.int)) (t:PlL K H xs ps):PlL K H (.ref q::xs) ((p,r)::ps)
end L2
namespace L2
open PySem PySem.Spec PyProof.Rows
inductive AsL (K:PySem.W.Frag) (H:Hp):List V→List (List Int×Bool)→Prop where
 | nil:AsL K H [] []
 | cons {q a:Addr} {b:Bool} {r:List Int} {xs:List V} {ps:List (List Int×Bool)} (h:SqT K H q [.ref a,.bl b]) (hr:SqT K H a (r.map V.int)) (t:AsL K H xs ps):AsL K H (.ref q::xs) ((r,b)::ps)
end L2
namespace L2
open PySem PySem.Spec PyProof.Rows
structure OwnX (K:PySem.W.Frag) (C:Addr):Prop where
 ca:PySem.W.findIn K (.ref C) "__class__"=some (some (.builtin "object.__class__"))
 cg:PySem.W.specialIn K (.builtin "object.__class__") "__get__"=some (some (.builtin "getset_descriptor.__get__"))
 ct:PySem.W.takesIn K (.builtin "object.__class__")=some true
 cm:PySem.W.mroIn K C (.type "object")=some true
structure Mk0 (K:PySem.W.Frag) (C:Addr):Prop where
 makes:PySem.W.makesIn K C=true
 init:PySem.W.findIn K (.ref C) "__init__"=some (some (.builtin "object.__init__"))
 kp:PySem.W.keepIn K (.ref C)=true
noncomputable def tMake0 (C:Addr):TE:=fun _ H Q=>∀ x dx,H x=none→H dx=none→dx≠x→Q (.ref x) (upd (upd H dx (.own x)) x (.ins C dx []))
section
variable {X:Cx} {C:Addr} {x:Str} {p pos:Pos}
theorem run_make0 {pins:List (Addr×Obj)} {σ:St} {H:Hp} {s:Shared} {Q:VK} (M:Mk0 X.K C) (I:Inv X pins σ H s) (h:tMake0 C σ H Q):wpAny (model X.prog X.w) X.A (call (.ref C) []) (EP X pins σ Q) X.xe s:=by
 have hq:=h (s.heap.objs.size+1) s.heap.objs.size (I.hok.fresh (Nat.le_succ _)) (I.hok.fresh (Nat.le_refl _)) (Nat.ne_of_lt (Nat.lt_succ_self _))
 have I2:=Inv.made (C:=C) I
 have Y:=PySem.W.makes_of (M:=model X.prog X.w) I.kIn M.makes
 have g1:((s.heap.push PySem.W.emptyDict).push (PySem.W.instObj C s.heap.objs.size)).get? (s.heap.objs.size+1)=some (PySem.W.instObj C s.heap.objs.size):=by
  have:=Heap.get?_push_size (s.heap.push PySem.W.emptyDict) (o:=PySem.W.instObj C s.heap.objs.size) rfl
  rwa [Heap.size_push] at this
 have y1:PySem.W.Looks (model X.prog X.w) ((s.heap.push PySem.W.emptyDict).push (PySem.W.instObj C s.heap.objs.size)) (typeOf (.ref (s.heap.objs.size+1))) (.ref C):=(PySem.W.Looks.ld g1).andThen .now
 have y2:PySem.W.Looks (model X.prog X.w) ((s.heap.push PySem.W.emptyDict).push (PySem.W.instObj C s.heap.objs.size)) (isInstance (.ref (s.heap.objs.size+1)) (.type "object")) true :=
  y1.andThen (Y.top.keeps fun b o e=>Heap.get?_push_of_some _ (Heap.get?_push_of_some _ e))
 refine wpAny_call (make_map0 I.kIn M.makes M.init (fun self=>PySem.W.Looks.of_pure (PySem.W.oi_bind self)) ?_)
 refine codeAny_call_builtin PySem.W.oi_plain PySem.W.entry_oi (@PySem.W.check_slot (model X.prog X.w) _ _ _ "object.__init__" "object" "__init__" (.ref (s.heap.objs.size+1)) [] [] _ PySem.W.oi_kind PySem.W.oi_split y2 (PySem.W.oi_args (.ref (s.heap.objs.size+1))) ?_)
 rw [PySem.W.oi_run]
 exact wpAny_pure ⟨rfl,⟨V.ref (s.heap.objs.size+1),_,I2,rfl,hq⟩⟩
theorem pmake0 (M:Mk0 X.K C) (hg:Gl X x) (hm:X.mg x=some (.ref C)) (hdb:(x == ("__debug__":Str))=false:=by decide):PE X (.Call (.Name x p) [] [] pos) (tMake0 C):=by
 intro pins s σ H Q I h
 refine wpAny_Call_Name_kw (ld_glob I hg hm ?_ hdb)
 exact PySem.W.callWith_K0 I.kIn M.kp (run_make0 M I h)
theorem pe_eith {e:Expr} {t t':TE} (h:PE X e t) (h':PE X e t'):PE X e (fun σ H Q=>t σ H Q∨t' σ H Q):=fun pins s σ H Q I z=>z.elim (h pins s σ H Q I) (h' pins s σ H Q I)
end
section
variable {K:PySem.W.Frag} {H:Hp} {Q:VK}
theorem r_clear {l:Addr} {xs:List V} (e:H l=some (.lst xs)) (h:Q .non (upd H l (.lst []))):rClear (.ref l) [] H Q:=⟨l,xs,rfl,rfl,e,h⟩
end
end L2
namespace L2
open PySem PySem.Spec PyProof.Rows PySem.W
noncomputable def OkMX (P:Program) (w:World) (K:PySem.W.Frag) (mg:Str→Option Value) (base:Heap) (k:Nat) (f:Addr) (ps:List Str) (sp:Sp):Prop :=
 ∃ fd,FnOk P w K mg base (CX1 P w) k f fd ps sp∧PySem.W.keepIn K (.ref f)=true∧Binds K fd ps []
section
variable {P:Program} {w:World} {K:PySem.W.Frag} {mg:Str→Option Value} {base:Heap}
theorem DefM.okX {fa:Addr} {x qual:Str} {st:Stmt} {N ps:List Str} {k:Nat} {sp:Sp} (D:DefM K fa x qual st ps) (S:FnScope N ps (defScope st)) (len:∀ vs H Q E,sp vs H Q E→vs.length=ps.length)
  (hbody:∀ (f:Addr) (cdv:Value) (A:Around) (outer:List Env) (s:Shared) (H:Hp) (vs:List V) (Q:VK) (E:XK),Room k (A.deeper (envOfC qual (defScope st) s.heap.objs.size f cdv))→sp vs H Q E →
   ∃ t,PSs ((cxOf (CX1 P w) P w K mg base N qual (defScope st) f cdv A outer s H E).wish (XW (cxOf (CX1 P w) P w K mg base N qual (defScope st) f cdv A outer s H E) fun C _ H'=>E (.ref C) none H')) (defBody st) t∧t { nx:=fun _ H'=>Q .non H',rt:=Q } (start N vs) H):OkMX P w K mg base (k+1) fa ps sp:=by
 obtain ⟨fd,F,hb⟩:=D
 obtain ⟨oc,od,kV,doc,pm,an,cdv,ct,osl,rfl,lk,hcd⟩:=F.ex
 refine⟨_,fn_of lk hcd S len fun A outer s H vs Q E hr hsp=>?_,F.kp,hb⟩
 obtain ⟨t,h,q⟩:=hbody fa cdv A outer s H vs Q E hr hsp
 exact⟨t,h.xe fun e s z=>leaves z,q⟩
end
noncomputable def tMakeX (C:Addr) (sp:Sp) (EX:EXT) (t:TA):TE:=fun σ H Q=>t σ H fun vs H1=>∀ x dx,H1 x=none→H1 dx=none→dx≠x→sp (.ref x::vs) (upd (upd H1 dx (.own x)) x (.ins C dx [])) (fun v H2=>v=.non∧Q (.ref x) H2) fun D _ H2=>∃ c,D=.ref c∧EX c σ H2
section
variable {X:Cx} {EX:EXT} {k:Nat} {f C:Addr} {x:Str} {ps:List Str} {sp:Sp} {p pos:Pos} {e:Expr} {es:List Expr} {t:TA}
theorem pmakeX (O:OkMX X.prog X.w X.K X.mg X.base k f ps sp) (M:Mk X.K C f) (hr:Room (k+1) X.A) (hX:∀ e s',XW X EX e s'→X.xe e s') (hex:X.ex=[]) (hg:Gl X x) (hm:X.mg x=some (.ref C)) (ha:PA X (e::es) t)
  (hdb:(x == ("__debug__":Str))=false:=by decide) (he:starEach (e::es) X.env=(false,eval e X.env)::starEach es X.env:=by rfl) (hpl:(backTo pos (starEach es X.env)).any (·.1)=false:=by rfl) :
  PE X (.Call (.Name x p) (e::es) [] pos) (tMakeX C sp EX t):=by
 obtain ⟨fd,F,_,hb⟩:=O
 intro pins s σ H Q I h
 refine wpAny_Call_Name_kw (ld_glob I hg hm ?_ hdb)
 refine PySem.W.callWith_K (h₀:=X.base) I.ok.mod.kin M.kp (thn (ha pos pins s σ H _ I h) fun us s1 ⟨vs,H1,I1,r,q⟩=>⟨I1.kIn,?_⟩) he hpl
 have hq:=q (s1.heap.objs.size+1) s1.heap.objs.size (I1.hok.fresh (Nat.le_succ _)) (I1.hok.fresh (Nat.le_refl _)) (Nat.ne_of_lt (Nat.lt_succ_self _))
 have I2:=Inv.made (C:=C) I1
 have r2:Vals (V.ref (s1.heap.objs.size+1)::vs) (Value.ref (s1.heap.objs.size+1)::us):=.cons rfl r
 have hl:(Value.ref (s1.heap.objs.size+1)::us++[]).length=ps.length:=by
  have e:=r2.length
  rw [F.len _ _ _ _ hq] at e
  rw [List.append_nil]
  exact e.symm
 have hbb:=hb _ (Value.ref (s1.heap.objs.size+1)::us) I2.kIn hl
 rw [List.append_nil] at hbb
 refine wpAny_call (make_map (f:=f) I1.kIn M.makes M.init (beq_iff_eq.mp M.fn) (codeAny_mono (F.run _ X.stack _ _ ⟨Value.ref (s1.heap.objs.size+1)::us,[]⟩ (Value.ref (s1.heap.objs.size+1)::us) _ _ _ (hr.make C us [])
  (I2.env0.make C us []) hbb r2 hq) fun rr s' hq'=>?_))
 cases rr with
 | error e =>
  obtain ⟨a,C',H',rfl,ho,hg',un,hok,⟨oe,vs',T0,e1,e2,e3,e4,e5,e6,e7,e8,e9⟩,c,ec,hE⟩:=hq'
  cases ec
  have I3:Inv X pins σ H' s':=I2.call' (ch:=[]) ho un hok hg' fun b z=>absurd z (by simp)
  have nw:∀ b,((s1.heap.push PySem.W.emptyDict).push (PySem.W.instObj C s1.heap.objs.size)).get? b=none→X.s₀.heap.get? b=none:=fun b z=>by
   cases qq:X.s₀.heap.get? b with
   | none=>rfl
   | some o =>
    obtain ⟨o',q1⟩:=I2.base.there b o qq (by rw [hex];simp)
    rw [z] at q1;cases q1
  have np:∀ b,((s1.heap.push PySem.W.emptyDict).push (PySem.W.instObj C s1.heap.objs.size)).get? b=none→∀ p∈X.pn,p.1≠b:=fun b z p hp qq=>by
   have:=(I2.pin p (List.mem_append_left _ hp)).1
   rw [qq,z] at this;cases this
  exact hX _ _ ⟨a,_,σ,H',rfl,(I3.pins_of fun p hp=>absurd hp (by simp)).wish _,⟨oe,vs',T0,e1,e2,e3,e4,e5,e6,e7,⟨nw a e8.1,fun p hp=>np a e8.1 p hp⟩,fun T z=>⟨(e9 T z).1,nw T (e9 T z).2.1,fun p hp=>np T (e9 T z).2.1 p hp⟩⟩,hE⟩
 | ok fl =>
  cases fl with
  | ret u =>
   obtain ⟨v,H',I3,rv,ev,q3⟩:=I2.after hq'
   subst ev
   exact⟨rv,⟨V.ref (s1.heap.objs.size+1),H',I3,rfl,q3⟩⟩
  | next=>exact False.elim hq'
  | brk=>exact False.elim hq'
  | cont=>exact False.elim hq'
end
section
variable {H:Hp} {σ:St} {Q:VK} {t:TA} {C:Addr} {sp:Sp} {EX:EXT}
noncomputable def rMakeX (C:Addr) (sp:Sp) (EX:EXT) (σ:St) (Q:VK) (vs:List V) (H1:Hp):Prop:=∀ x dx,H1 x=none→H1 dx=none→dx≠x→sp (.ref x::vs) (upd (upd H1 dx (.own x)) x (.ins C dx [])) (fun v H2=>v=.non∧Q (.ref x) H2) fun D _ H2=>∃ c,D=.ref c∧EX c σ H2
theorem r_makeX (h:t σ H fun vs H1=>rMakeX C sp EX σ Q vs H1):tMakeX C sp EX t σ H Q:=h
end
end L2
namespace L2
open PySem PySem.Spec PyProof.Rows
noncomputable def del (H:Hp) (c:Addr):Hp:=fun b=>if b=c then none else H b
theorem del_same {H:Hp} {c:Addr}:del H c c=none:=by unfold del;rw [if_pos rfl]
theorem del_ne {H:Hp} {c b:Addr} (h:b≠c):del H c b=H b:=by unfold del;rw [if_neg h]
noncomputable def cellO (c:Addr) (v:V) (ob:Obj):HO:=.ext fun h=>h.get? c=some ob∧∃ u,RelV v u∧ob.data=.cell (some u)
theorem Same.del {H H':Hp} {c:Addr} {o:HO} (h:H c=some o) (s:Same (L2.del H c) H'):Same H (upd H' c o):=fun b u e=>by
 by_cases z:b=c
 ·subst z
  rw [h] at e
  cases e
  exact upd_same
 ·rw [upd_ne z]
  exact s b u (by rw [del_ne z];exact e)
theorem Same.lent {H H':Hp} {c:Addr} {o:HO} (h:H c=none) (s:Same (upd H c o) H'):Same H (L2.del H' c):=fun b u e=>by
 have z:b≠c:=fun z=>by rw [z,h] at e;cases e
 rw [del_ne z]
 exact s b u (by rw [upd_ne z];exact e)
section
variable {P:Program} {w:World}
theorem HOk.lend {H:Hp} {h:Heap} {c:Addr} {v:V} {ob:Obj} (k:HOk P w H h) (n:H c=none) (e:h.get? c=some ob) (hv:∃ u,RelV v u∧ob.data=.cell (some u)):HOk P w (upd H c (cellO c v ob)) h:=fun b o q=>by
 by_cases z:b=c
 ·subst z
  rw [upd_same] at q
  cases q
  exact⟨⟨e,hv⟩,⟨_,e⟩,fun h1 h2 x y=>⟨y _ x.1,x.2⟩⟩
 ·rw [upd_ne z] at q
  refine (k b o q).stay (fun d u _ y=>y) (fun d y=>?_) fun d xs y=>?_
  ·rw [upd_ne (fun z=>by rw [z,n] at y;cases y)];exact y
  ·rw [upd_ne (fun z=>by rw [z,n] at y;cases y)];exact y
theorem HOk.back {H:Hp} {h:Heap} {c:Addr} {φ:Heap→Prop} (k:HOk P w H h) (e:H c=some (.ext φ)):HOk P w (L2.del H c) h:=fun b o q=>by
 have z:b≠c:=fun z=>by rw [z,del_same] at q;cases q
 rw [del_ne z] at q
 refine (k b o q).stay (fun d u _ y=>y) (fun d y=>?_) fun d xs y=>?_
 ·rw [del_ne (fun z=>by rw [z,e] at y;cases y)];exact y
 ·rw [del_ne (fun z=>by rw [z,e] at y;cases y)];exact y
theorem Un.back {fs:List Addr} {H H':Hp} {h h':Heap} {c:Addr} {v:V} {ob:Obj} (u:Un fs [] (upd H c (cellO c v ob)) H' h h') (n:H c=none) (e:h.get? c=some ob) (e':H' c=some (cellO c v ob)) (k:HOk P w H' h'):Un fs [] H (L2.del H' c) h h':=by
 have hc:h'.get? c=some ob:=(k c _ e').1.1
 have up:∀ {b:Addr},b≠c→upd H c (cellO c v ob) b=H b:=fun z=>upd_ne z
 have no:∀ {b:Addr} {o:HO},H b=some o→b≠c:=fun q z=>by rw [z,n] at q;cases q
 refine⟨fun b o q m hb hx=>?_,fun b o q m hb hx=>?_,fun b o q m hx=>?_,fun b o q hx=>u.there b o q hx,fun b xs q=>?_,fun b o x q=>?_,fun b ps q=>?_⟩
 ·by_cases z:b=c
  ·subst z;rw [e] at q;cases q;exact hc
  ·exact u.keep b o q (by rw [up z];exact m) hb hx
 ·by_cases z:b=c
  ·subst z;rw [e] at q;cases q;exact⟨ob.slots,hc⟩
  ·exact u.slot b o q (by rw [up z];exact m) hb hx
 ·by_cases z:b=c
  ·subst z;exact del_same
  ·rw [del_ne z];exact u.free b o q (by rw [up z];exact m) hx
 ·rw [del_ne (no q)];exact u.tups b xs (by rw [up (no q)];exact q)
 ·rw [del_ne (no q)];exact u.frzs b o x (by rw [up (no q)];exact q)
 ·rw [del_ne (no q)];exact u.tbls b ps (by rw [up (no q)];exact q)
end
section
variable {X:Cx} {pins:List (Addr×Obj)} {σ:St} {H:Hp} {s s':Shared}
theorem Inv.lent {y:Str} {c:Addr} {v:V} {u:Value} (I:Inv X pins σ H s) (hc:X.env.cells.lookup y=some c) (hf:X.fn y=true) (hu:s.heap.IsCell c (some u)) (r:RelV v u) :
  ∃ ob,s.heap.get? c=some ob∧H c=none∧Env0 X.prog X.w X.K X.mg X.base X.A X.stack s (upd H c (cellO c v ob)):=by
 obtain ⟨ob,e,d⟩:=hu
 have n:=I.freeC y c hc
 have big:=I.ok.cab y c hf hc
 have E:=I.env0
 refine⟨ob,e,n,E.frames,E.mod,fun b o q=>?_,E.bsz,E.funs,fun b hb=>?_,E.hok.lend n e ⟨u,r,d⟩,E.bare⟩
 ·have z:b≠c:=fun z=>by
   have h1:=Heap.lt_size q
   have h2:=I.ok.bsz
   rw [z] at h1
   exact absurd h1 (Nat.not_lt.mpr (Nat.le_trans h2 big))
  rw [upd_ne z]
  exact E.bs b o q
 ·have z:b≠c:=fun z=>by
   subst z
   rcases List.mem_cons.mp (I.stkSub b hb) with r1|r1
   ·obtain ⟨m,⟨o,es,ep,ho,r2⟩,_⟩:=I.loc
    rw [← r1,e] at ho
    cases ho
    have:=r2.1
    rw [d] at this
    cases this
   ·have h1:=(I.ok.funs.mem r1).2
    obtain ⟨o1,q1,_⟩:=h1
    exact absurd (Heap.lt_size q1) (Nat.not_lt.mpr big)
  rw [upd_ne z]
  exact E.frf b hb
theorem run_fnC {CX:CXT} {k:Nat} {f:Addr} {fd:FuncData} {ps:List Str} {sp:Sp} {Q:VK} {us:List Value} {vs:List V} {y:Str} {c:Addr} {v:V} {u:Value} {E':Obj→XK} (F:FnOk X.prog X.w X.K X.mg X.base CX k f fd ps sp) (hr:Room k X.A) (hb:Binds X.K fd ps [])
  (I:Inv X pins σ H s) (r:Vals vs us) (hc:X.env.cells.lookup y=some c) (hf:X.fn y=true) (hu:s.heap.IsCell c (some u)) (rv:RelV v u)
  (hx:∀ ob,H c=none→s.heap.get? c=some ob→∀ e s',CX X.stack (upd H c (cellO c v ob)) s (E' ob) e s'→X.xe e s')
  (h:∀ ob,sp vs (upd H c (cellO c v ob)) (fun r H'=>H' c=some (cellO c v ob)∧Q r (L2.del H' c)) (E' ob)):wpAny (model X.prog X.w) X.A (call (.ref f) us) (EP X pins σ Q) X.xe s:=by
 obtain ⟨ob,e,n,E0⟩:=I.lent hc hf hu rv
 have hl:(us++[]).length=ps.length:=by rw [List.append_nil,← r.length];exact F.len _ _ _ _ (h ob)
 have hbd:=hb s us I.kIn hl
 rw [List.append_nil] at hbd
 refine wpAny_call (codeAny_mono (F.run X.A X.stack s _ ⟨us,[]⟩ us vs _ (E' ob) hr E0 hbd r (h ob)) fun r s' hq=>?_)
 cases r with
 | error e1=>exact hx ob n e e1 s' hq
 | ok fl =>
  cases fl with
  | ret u1 =>
   obtain ⟨v',H',os,bare,un,hok,rv',q1,q2⟩:=hq
   exact I.after ⟨v',L2.del H' c,os,bare,un.back n e q1 hok,hok.back q1,rv',q2⟩
  | next=>exact False.elim hq
  | brk=>exact False.elim hq
  | cont=>exact False.elim hq
theorem Un.lend {fs:List Addr} {H H':Hp} {h h':Heap} {c:Addr} {v:V} {ob:Obj} (u:Un fs [] (L2.del H c) H' h h') (e:H c=some (cellO c v ob)):Un fs [] H (upd H' c (cellO c v ob)) h h':=by
 have no:∀ {b:Addr},H b=none→b≠c:=fun m z=>by rw [z,e] at m;cases m
 refine⟨fun b o q m hb hx=>u.keep b o q (by rw [del_ne (no m)];exact m) hb hx,fun b o q m hb hx=>u.slot b o q (by rw [del_ne (no m)];exact m) hb hx,fun b o q m hx=>?_,fun b o q hx=>u.there b o q hx,fun b xs q=>?_,fun b o x q=>?_,fun b ps q=>?_⟩
 ·rw [upd_ne (no m)];exact u.free b o q (by rw [del_ne (no m)];exact m) hx
 ·have z:b≠c:=fun z=>by rw [z,e] at q;cases q
  rw [upd_ne z];exact u.tups b xs (by rw [del_ne z];exact q)
 ·have z:b≠c:=fun z=>by rw [z,e] at q;cases q
  rw [upd_ne z];exact u.frzs b o x (by rw [del_ne z];exact q)
 ·have z:b≠c:=fun z=>by rw [z,e] at q;cases q
  rw [upd_ne z];exact u.tbls b ps (by rw [del_ne z];exact q)
end
end L2
set_option maxRecDepth 100000
namespace L2
open PySem PySem.Spec PyProof.Rows PySem.W
section
variable {X:Cx} {pins:List (Addr×Obj)} {σ:St} {H:Hp} {s s':Shared}
noncomputable abbrev lamCxH (X:Cx) (A:Around) (N:List Str) (qual:Str) (scope:Scope) (f:Addr) (cd:Value) (cl:List (Str×Addr)) (s:Shared) (H:Hp) (xe:Value→Shared→Prop):Cx :=
 { X with A:=A.deeper (PySem.W.envX qual scope s.heap.objs.size f cd cl),N:=N,s₀:=s,H₀:=H,env:=PySem.W.envX qual scope s.heap.objs.size f cd cl,outer:=X.stack,stack:=PySem.W.envX qual scope s.heap.objs.size f cd cl::X.stack,ex:=[],fn:=fun _=>false,calm:=true,pn:=[],xe:=xe }
theorem lam_callH {A:Around} {f c' cS:Addr} {qual p y:Str} {params:Arguments} {body:Expr} {scope:Scope} {cl:List (Str×Addr)} {pm ctv:Value} {x v:V} {u:Value} {ob:Obj} {te:TE} {Q:VK}
  (I:Inv X pins σ H s) (hd:A.handled=none) (hfrm:A.frames=some X.stack) (hroom:A.depth<recursionLimit)
  (ho:s.heap.get? f=some (kla_obj "<lambda>" qual params body scope cl pm c' ctv)) (hcd:s.heap.CodeRec (.ref c') qual)
  (hbind:bindArgs (kla_fn "<lambda>" qual params body scope cl pm (.ref c') ctv) ⟨[u],[]⟩=pure [(p,u)])
  (hloc:scope.names.lookup p=some .local) (hco:scope.isCoroutine=false) (hgen:scope.isGenerator=false) (hk:scope.kind=.function) (hcell:∀ y∈scope.names,y.2≠.cell)
  (hfree:∀ z,scope.names.lookup z=some .free→z=y) (hcl:∀ z c,cl.lookup z=some c→z=y∧c=cS) (hhas:cl.lookup y=some cS) (hyf:scope.names.lookup y=some .free) (hcS:H cS=some (cellO cS v ob))
  (he:PE (lamCxH X A [p,y] qual scope f (.ref c') cl s (L2.del H cS) fun _ _=>False) body te) (r:RelV x u) (h:te [some x,some v] (L2.del H cS) fun z H2=>H2 cS=none→Q z (upd H2 cS (cellO cS v ob))) :
  wpAny (model X.prog X.w) A (call (.ref f) [u]) (EP X pins σ Q) (fun _ _=>False) s:=by
 obtain ⟨⟨hob,uv,ruv,hdv⟩,_,_⟩:=I.hok cS _ hcS
 have ncl:∀ b,H b=none→b≠cS:=fun b m z=>by rw [z,hcS] at m;cases m
 refine wpAny_call (codeAny_mono (show codeAny _ _ _ (CR CX0 X.stack X.prog X.w H s Q E0) s from ?_) fun r s' hq=>?_)
 ·refine kla_callFunE hroom ho rfl hco hgen rfl hcd ?_
  rw [hbind]
  refine wpAny_pure (wpAny_newFunctionEnv hcell (fun y hy=>by rw [List.mem_singleton.mp hy];exact hloc) (fun h₁ hns hsb=>⟨I.nolimit.fresh _ hsb,?_⟩) hk)
  show codeAny _ _ (.expr body (envX qual scope s.heap.objs.size f (.ref c') cl)) _ _
  have old:∀ b o,s.heap.get? b=some o→h₁.get? b=some o:=fun b o e=>hsb.extBut b o (Nat.ne_of_lt (Heap.lt_size e)) (Heap.get?_push_of_some _ e)
  have hokd:HOk X.prog X.w (L2.del H cS) s.heap:=I.hok.back hcS
  have dn:∀ {b:Addr},H b=none→L2.del H cS b=none:=fun {b} m=>by rw [del_ne (ncl b m)];exact m
  have J:Inv (lamCxH X A [p,y] qual scope f (.ref c') cl s (L2.del H cS) fun _ _=>False) [] [some x,some v] (L2.del H cS) { s with heap:=h₁,toks:=s.toks+[(p,u)].length }:=by
   refine⟨⟨I.ok.mod,hk,rfl,rfl,Nat.le_refl _,fun a b c q1 q2=>by rw [(hcl a c q1).1,(hcl b c q2).1],fun z hz=>?_,fun x c hf _=>absurd hf Bool.false_ne_true,fun _=>hd,Around.frames_deeper hfrm,.inr ⟨rfl,rfl⟩,fun b hb=>(nomatch hb),fun b o q=>⟨(I.bs b o q).1,dn (I.bs b o q).2⟩,Nat.le_trans I.ok.bsz I.sz,fun b _ _ hb=>(nomatch hb),fun b hb=>(nomatch hb),I.stack,fun b hb=>dn (I.stkFree b hb)⟩,
    rfl,I.bare,Un.kept old,⟨_,hns,fun i z w h1 h2 h3=>?_⟩,fun z c q=>?_,hokd.fresh (Nat.le_refl _),fun z c q=>by rw [(hcl z c q).2];exact del_same,fun p hp=>(nomatch hp),hokd.kept old,rfl⟩
   ·rcases hz with hz|hz
    ·exact absurd rfl (hcell _ (PySem.mem_of_lookup hz))
    ·exact⟨cS,by rw [hfree z hz];exact hhas⟩
   ·match i with
    | 0 =>
     have e1:p=z:=by simpa using h1
     have e2:x=w:=by simpa using h2
     subst e1
     subst e2
     exact⟨u,r,.inl ⟨hloc,by simp⟩⟩
    | 1 =>
     have e1:y=z:=by simpa using h1
     have e2:v=w:=by simpa using h2
     subst e1
     subst e2
     exact⟨uv,ruv,.inr ⟨.inr hyf,cS,hhas,⟨ob,old _ _ hob,hdv⟩⟩⟩
    | i+2=>simp at h1
   ·rw [(hcl z c q).2]
    exact⟨_,⟨ob,old _ _ hob,hdv⟩⟩
  refine kla_codeExpr (wpAny_mono (he [] _ _ (L2.del H cS) _ J h) (fun z s' hv=>?_) fun _ _ no=>no.elim)
  obtain ⟨z',H',J',rv,q⟩:=hv
  have un:Un (frs X.stack) [] (L2.del H cS) H' s.heap s'.heap:=J'.base
  have nfr:cS∉frs X.stack:=fun hb=>by have:=I.stkFree cS hb;rw [hcS] at this;cases this
  have hc1:s'.heap.get? cS=some ob:=un.keep cS ob hob del_same nfr (by simp)
  have hn1:H' cS=none:=un.free cS ob hob del_same (by simp)
  exact⟨z',_,J'.os,J'.bare,un.lend hcS,HOk.lend J'.hok hn1 hc1 ⟨uv,ruv,hdv⟩,rv,q hn1⟩
 ·cases r with
  | error e=>exact hq
  | ok fl =>
   cases fl with
   | ret u=>exact I.after hq
   | next=>exact False.elim hq
   | brk=>exact False.elim hq
   | cont=>exact False.elim hq
end
end L2
set_option maxRecDepth 100000
set_option maxRecDepth 100000
namespace L2
open PySem PySem.Spec PyProof.Rows PySem.W
noncomputable def LamAt (H:Hp) (f cS:Addr) (v:V) (ob:Obj) (q y:Str) (params:Arguments) (body:Expr) (scope:Scope):Prop:=∃ c' cl,H f=some (lamO f c' q params body scope cl)∧H c'=some (codeO c' q)∧(∀ z c,cl.lookup z=some c→z=y∧c=cS)∧cl.lookup y=some cS∧H cS=some (cellO cS v ob)
theorem LamAt.same {H H':Hp} {f cS:Addr} {v:V} {ob:Obj} {q y:Str} {params:Arguments} {body:Expr} {scope:Scope} (h:LamAt H f cS v ob q y params body scope) (s:Same H H'):LamAt H' f cS v ob q y params body scope:=by
 obtain ⟨c',cl,h1,h2,h3,h4,h5⟩:=h
 exact⟨c',cl,s _ _ h1,s _ _ h2,h3,h4,s _ _ h5⟩
noncomputable def tCallL (q y:Str) (params:Arguments) (body:Expr) (scope:Scope) (te:TE) (i:Nat) (t:TE):TE:=fun σ H Q=>∃ f,σ[i]?=some (some (.ref f))∧FnO H f∧t σ H fun x H1=>∃ cS v ob,LamAt H1 f cS v ob q y params body scope∧te [some x,some v] (L2.del H1 cS) fun z H2=>H2 cS=none→Q z (upd H2 cS (cellO cS v ob))
where FnO (H:Hp) (f:Addr):Prop:=∃ c' q params body scope cl,H f=some (lamO f c' q params body scope cl)
section
variable {X:Cx} {k:Nat}
theorem lam_fnAt {P:Program} {w:World} {H:Hp} {h:Heap} {f c':Addr} {q:Str} {params:Arguments} {body:Expr} {scope:Scope} {cl:List (Str×Addr)} (k:HOk P w H h) (e:H f=some (lamO f c' q params body scope cl)):FnAt f h:=by
 obtain ⟨⟨pm,ctv,z⟩,_⟩:=k f _ e
 exact⟨_,_,_,_,z⟩
theorem pe_callL {x p y q:Str} {i:Nat} {p1 pos:Pos} {e:Expr} {t te:TE} {params:Arguments} {body:Expr} {scope:Scope} (hr:Room k X.A) (hN:X.N[i]?=some x) (hv:Vis X.env.scope x) (ha:PE X e t) (hxe:∀ e s,False→X.xe e s)
  (hbind:∀ (cl:List (Str×Addr)) (pm ctv:Value) (c':Addr) (u:Value),bindArgs (kla_fn "<lambda>" q params body scope cl pm (.ref c') ctv) ⟨[u],[]⟩=pure [(p,u)])
  (hloc:scope.names.lookup p=some .local) (hco:scope.isCoroutine=false) (hgen:scope.isGenerator=false) (hk:scope.kind=.function) (hcell:∀ y∈scope.names,y.2≠.cell)
  (hfree:∀ z,scope.names.lookup z=some .free→z=y) (hyf:scope.names.lookup y=some .free)
  (he:∀ f c' cl s H,PE (lamCxH X X.A [p,y] q scope f (.ref c') cl s H fun _ _=>False) body te)
  (hdb:(x == ("__debug__":Str))=false:=by decide) (hcd:(x == ("__classdict__":Str))=false:=by decide)
  (hst:starEach [e] X.env=(false,eval e X.env)::starEach [] X.env:=by rfl) (hpl:(backTo pos (starEach [] X.env)).any (·.1)=false:=by rfl) :
  PE X (.Call (.Name x p1) [e] [] pos) (tCallL q y params body scope te i t):=by
 intro pins s σ H Q I ⟨f,hσ,⟨c0,q0,ps0,b0,s0,cl0,hf0⟩,h⟩
 refine wpAny_Call_Name_kw ?_
 refine thn (pe_var (pos:=p1) hN hv hdb hcd pins s σ H (fun v H'=>v=.ref f∧H'=H) I ⟨.ref f,hσ,rfl,rfl⟩) fun u s1 ⟨v,H',I1,r1,e1,e2⟩=>?_
 subst e1
 subst e2
 obtain rfl:u=.ref f:=r1
 have hpa:PA X [e] (tCons t tNil):=pa_cons ha pa_nil hst
 refine callWith_F (first:=[]) (lam_fnAt I1.hok hf0) (thn (hpa pos pins s1 σ _ (fun vs H1=>match vs with|[x]=>∃ cS v ob,LamAt H1 f cS v ob q y params body scope∧te [some x,some v] (L2.del H1 cS) fun z H2=>H2 cS=none→Q z (upd H2 cS (cellO cS v ob))|_=>False) I1 h) fun us s2 ⟨vs,H2,I2,r2,hq⟩=>?_) hst hpl
 cases r2 with
 | nil=>exact (show False from hq).elim
 | cons ru2 rb =>
  cases rb with
  | cons _ _=>exact (show False from hq).elim
  | nil =>
   obtain ⟨cS,v,ob,⟨c',cl,l1,l2,l3,l4,l5⟩,q2⟩:=(show ∃ cS v ob,LamAt H2 f cS v ob q y params body scope∧te [some _,some v] (L2.del H2 cS) fun z H2=>H2 cS=none→Q z (upd H2 cS (cellO cS v ob)) from hq)
   refine⟨lam_fnAt I2.hok l1,?_⟩
   obtain ⟨⟨pm,ctv,hob⟩,_⟩:=I2.hok f _ l1
   obtain ⟨hcr,_⟩:=I2.hok c' _ l2
   exact wpAny_mono (lam_callH I2 hr.hd I2.ok.frames hr.depth hob hcr (hbind cl pm ctv c' _) hloc hco hgen hk hcell hfree l3 l4 hyf l5 (he f c' cl s2 _) ru2 q2) (fun _ _ z=>z) hxe
end
end L2
set_option maxRecDepth 100000
namespace L2
open PySem PySem.Spec PyProof.Rows PySem.W
noncomputable def tLamE (P:Addr) (lp:Pos) (q:Str) (params:Arguments) (body:Expr) (scope:Scope) (cells:List (Str×Addr)):TE:=fun _ H Q=>TabH P lp q H∧∀ f c' H',SameT P H H'→TabH P lp q H'→H' f=some (lamO f c' q params body scope (clOf cells scope.names []))→H' c'=some (codeO c' q)→Q (.ref f) H'
noncomputable def tCallC (cells:List (Str×Addr)) (y:Str) (j:Nat) (sp:Sp) (t:TA):TE:=fun σ H Q=>t σ H fun vs H1=>∃ v,σ[j]?=some (some v)∧∀ c ob,cells.lookup y=some c→H1 c=none→sp vs (upd H1 c (cellO c v ob)) (fun r H'=>H' c=some (cellO c v ob)∧Q r (L2.del H' c)) E0
section
variable {X:Cx} {k:Nat} {x y:Str} {ps:List Str} {sp:Sp} {p pos:Pos} {e:Expr} {es:List Expr} {t:TA} {j:Nat} {EX:EXT}
theorem pe_lamE {P c:Addr} {lp:Pos} {q:Str} {params:Arguments} {body:Expr} {scope:Scope} (hq:X.env.qual ++ "<lambda>"=q) (hcode:X.env.code=.ref c) (C:CodeHd X.base c P) (hB:X.base.BuiltinsAt X.mg P) (hdef:defaultsOf params X.env=([],[]))
  (hfr0:(scope.names.all fun y=>!(y.2 == NameKind.free) || (X.env.cells.lookup y.1).isSome)=true):PE X (.Lambda params body scope lp) (tLamE P lp q params body scope X.env.cells):=by
 subst hq
 exact fun pins s σ H Q I h=>lam_make I h.1 hcode C hB hdef hfr0 h.2
theorem pcallC (O:Ok X.prog X.w X.K X.mg X.base k x ps sp) (hr:Room k X.A) (ha:PA X (e::es) t) (hN:X.N[j]?=some y) (hv:Vis X.env.scope y) (hky:X.env.kindOf y=some .cell) (hfn:X.fn y=true) (hg:Gl X x:=by rfl)
  (hdb:(x == ("__debug__":Str))=false:=by decide) (he:starEach (e::es) X.env=(false,eval e X.env)::starEach es X.env:=by rfl) (hpl:(backTo pos (starEach es X.env)).any (·.1)=false:=by rfl) :
  PE X (.Call (.Name x p) (e::es) [] pos) (tCallC X.env.cells y j sp t):=by
 obtain ⟨f,fd,F,hm,hk,hb⟩:=O
 intro pins s σ H Q I h
 refine wpAny_Call_Name_kw (ld_glob I hg hm ?_ hdb)
 refine PySem.W.callWith_K (h₀:=X.base) I.ok.mod.kin hk (thn (ha pos pins s σ H _ I h) fun us s1 ⟨vs,H1,I1,r,v,hσ,q⟩=>⟨I1.kIn,?_⟩) he hpl
 obtain ⟨m,hn,hl⟩:=I1.loc
 obtain ⟨u,ru,l⟩:=hl j y v hN hσ hv
 rcases l with ⟨l1,_⟩|⟨_,c,hc,hcell⟩
 ·rw [hky] at l1;cases l1
 ·exact run_fnC (E':=fun _=>E0) F hr hb I1 r hc hfn hcell ru (fun ob n e e' s' z=>(show False from z).elim) fun ob=>q c ob hc (I1.freeC y c hc)
end
end L2
namespace L2
open PySem PySem.Spec PyProof.Rows PySem.W
noncomputable def retE:Stmt→Expr
 | .Return (some e) _=>e
 | _=>.Name "" ⟨0,0,0,0⟩
noncomputable def cArg (i:Nat):Expr→Expr
 | .Call _ as _ _=>as.getD i (.Name "" ⟨0,0,0,0⟩)
 | e=>e
noncomputable def lamP:Expr→Arguments
 | .Lambda p _ _ _=>p
 | _=>⟨[],[],none,[],[],none,[]⟩
noncomputable def lamB:Expr→Expr
 | .Lambda _ b _ _=>b
 | e=>e
noncomputable def lamS:Expr→Scope
 | .Lambda _ _ s _=>s
 | _=>⟨.function,[],false,false,[]⟩
noncomputable def lamL:Expr→Pos
 | .Lambda _ _ _ l=>l
 | _=>⟨0,0,0,0⟩
theorem lam_free1 {y:Str}:∀ {l:List (Str×NameKind)},(l.all fun p=>!(p.2 == NameKind.free) || p.1 == y)=true→∀ z,l.lookup z=some .free→z=y
 | [],_,_,h=>by simp at h
 | (a,b)::l,h,z,e=>by
  rw [List.all_cons,Bool.and_eq_true] at h
  rw [List.lookup_cons] at e
  by_cases c:z == a
  ·rw [c] at e
   have eb:b=.free:=Option.some.inj e
   have:=h.1
   rw [eb] at this
   have ha:a=y:=by simpa using this
   rw [← ha]
   exact eq_of_beq c
  ·rw [Bool.not_eq_true] at c
   rw [c] at e
   exact lam_free1 h.2 z e
end L2
namespace L2
open PySem PySem.Spec PyProof.Rows PySem.W
noncomputable def iEith (t t':TI):TI:=fun σ H R=>t σ H R∨t' σ H R
theorem pi_eith {X:Cx} {tg it:Expr} {t t':TI} (h:PI X tg it t) (h':PI X tg it t'):PI X tg it (iEith t t'):=fun pins s σ H R I z=>z.elim (h pins s σ H R I) (h' pins s σ H R I)
theorem i_left {σ:St} {H:Hp} {R:It→Hp→Prop} {t t':TI} (h:t σ H R):iEith t t' σ H R:=.inl h
theorem i_right {σ:St} {H:Hp} {R:It→Hp→Prop} {t t':TI} (h:t' σ H R):iEith t t' σ H R:=.inr h
theorem f_invZ3 {K:PySem.W.Frag} {D:Ends} {σ:St} {H:Hp} {k1 k2 k3:Bool} {a b c:Addr} {xs ys zs:List V} {m n o:Nat} {tb:TS} (hlen:xs.length=ys.length) (hlen2:xs.length=zs.length) (Pv:Nat→St→Hp→Prop) (h0:Pv 0 σ H) (ha:∀ i σ H2,Pv i σ H2→Sq k1 K H2 a xs∧Sq k2 K H2 b ys∧Sq k3 K H2 c zs)
  (hs:∀ (i:Nat) x y z σ H2 H3,xs[i]?=some x→ys[i]?=some y→zs[i]?=some z→Pv i σ H2→Same H2 H3→tb { D with nx:=Pv (i+1),ct:=Pv (i+1),bk:=D.nx } (((σ.set m (some x)).set n (some y)).set o (some z)) H3)
  (hd:∀ σ H2,Pv xs.length σ H2→D.nx σ H2):ForGoal (gTup K 3 (gCons (gName m) (gCons (gName n) (gCons (gName o) gNil)))) tb D (Itz3 K k1 k2 k3 a b c) σ H:=by
 refine f_inv xs.length Pv h0 (fun i σ H2 hi p=>?_) (fun σ H2 p=>⟨_,(ha _ σ H2 p).1,Nat.le_refl _⟩) (fun i x σ H2 H3 hi p hy=>?_) hd
 ·obtain ⟨a1,a2,a3⟩:=ha i σ H2 p
  exact⟨_,_,_,xs[i],ys[i]'(hlen ▸ hi),zs[i]'(hlen2 ▸ hi),a1,a2,a3,List.getElem?_eq_getElem hi,List.getElem?_eq_getElem (hlen ▸ hi),List.getElem?_eq_getElem (hlen2 ▸ hi)⟩
 ·obtain ⟨a1,a2,a3⟩:=ha i σ H2 p
  obtain ⟨q,x',y',z',rfl,hq,e1,e2,e3,rfl⟩:=hy
  refine⟨q,_,rfl,SqT.of upd_same,rfl,_,_,rfl,_,_,rfl,_,_,rfl,rfl,?_⟩
  exact hs i x' y' z' σ _ _ (e1 _ a1) (e2 _ a2) (e3 _ a3) p (Same.upd_new hq)
end L2
set_option maxRecDepth 100000
namespace L2
open PySem PySem.Spec PyProof.Rows PySem.W
noncomputable abbrev TabR:=Addr×Pos×Str
noncomputable def SameS (Ts:List TabR) (H H':Hp):Prop:=∀ b o,(∀ t∈Ts,b≠t.1)→H b=some o→H' b=some o
noncomputable def TabsH (Ts:List TabR) (H:Hp):Prop:=(Ts.map (·.1)).Nodup∧∀ t∈Ts,TabH t.1 t.2.1 t.2.2 H
section
variable {Ts:List TabR} {H H' H1 H2:Hp} {K:PySem.W.Frag} {a l:Addr} {xs:List V}
theorem SameS.trans (s:SameS Ts H H1) (u:SameS Ts H1 H2):SameS Ts H H2:=fun x o n e=>u x o n (s x o n e)
theorem SameS.of (s:Same H H1):SameS Ts H H1:=fun x o _ e=>s x o e
theorem SameT.s {t:TabR} (s:SameT t.1 H H1) (h:t∈Ts):SameS Ts H H1:=fun b o n e=>s b o (n t h) e
theorem TabsH.same (t:TabsH Ts H) (s:Same H H'):TabsH Ts H':=⟨t.1,fun x hx=>(t.2 x hx).same s⟩
theorem TabsH.no {b:Addr} {o:HO} (t:TabsH Ts H) (e:H b=some o) (h:∀ ps,o≠.tbl ps):∀ x∈Ts,b≠x.1:=fun x hx z=>by
 obtain ⟨ps,hp⟩:=(t.2 x hx).at
 rw [← z,e] at hp
 cases hp
 exact h ps rfl
theorem SameS.get {b:Addr} {o:HO} (s:SameS Ts H H') (t:TabsH Ts H) (e:H b=some o) (h:∀ ps,o≠.tbl ps):H' b=some o:=s b o (t.no e h) e
theorem SameS.at (s:SameS Ts H H') (t:TabsH Ts H) (h:SqT K H a xs):SqT K H' a xs :=
 h.imp (fun z=>z.imp (fun e=>s.get t e fun _ w=>nomatch w) fun ⟨o,e⟩=>⟨o,s.get t e fun _ w=>nomatch w⟩) id
theorem SameS.seq (s:SameS Ts H H') (t:TabsH Ts H) (h:SqL K H a xs):SqL K H' a xs :=
 h.imp (fun z=>z.imp (fun e=>s.get t e fun _ w=>nomatch w) fun ⟨o,e⟩=>⟨o,s.get t e fun _ w=>nomatch w⟩) id
theorem SameS.lst (s:SameS Ts H H') (t:TabsH Ts H) (h:H a=some (.lst xs)):H' a=some (.lst xs):=s.get t h fun _ w=>nomatch w
theorem SameS.new (s:SameS Ts H H') (t:TabsH Ts H') (n:H' a=none):H a=none:=by
 match e:H a with
 | none=>rfl
 | some o =>
  by_cases z:∀ x∈Ts,a≠x.1
  ·rw [s a o z e] at n
   cases n
  ·exfalso
   apply z
   intro x hx w
   obtain ⟨ps,hp⟩:=(t.2 x hx).at
   rw [w,hp] at n
   cases n
theorem SameS.upd_old {o:HO} (s:SameS Ts H H2) (h:H l=none):SameS Ts H (upd H2 l o):=fun b u n e=>by
 rw [upd_ne (fun z=>by rw [z,h] at e;cases e)]
 exact s b u n e
theorem TabsH.off {ys zs:List V} (t:TabsH Ts H) (e:H l=some (.lst ys)):TabsH Ts (upd H l (.lst zs)):=⟨t.1,fun x hx=>(t.2 x hx).off e⟩
theorem nodup_fst:∀ {Ts:List TabR} {x t:TabR},(Ts.map (·.1)).Nodup→x∈Ts→t∈Ts→x.1=t.1→x=t
 | y::Ts,x,t,h,hx,ht,e=>by
  rw [List.map_cons,List.nodup_cons] at h
  rcases List.mem_cons.mp hx with rfl|hx'
  ·rcases List.mem_cons.mp ht with rfl|ht'
   ·rfl
   ·exact absurd (List.mem_map_of_mem (f:=fun y:TabR=>y.1) ht') (fun w=>h.1 (by rw [e];exact w))
  ·rcases List.mem_cons.mp ht with rfl|ht'
   ·exact absurd (List.mem_map_of_mem (f:=fun y:TabR=>y.1) hx') (fun w=>h.1 (by rw [← e];exact w))
   ·exact nodup_fst h.2 hx' ht' e
theorem TabsH.step {t:TabR} (T:TabsH Ts H) (ht:t∈Ts) (s:SameT t.1 H H') (n:TabH t.1 t.2.1 t.2.2 H'):TabsH Ts H':=by
 refine⟨T.1,fun x hx=>?_⟩
 by_cases z:x.1=t.1
 ·rw [nodup_fst T.1 hx ht z]
  exact n
 ·obtain ⟨ps,h1,h2,h3⟩:=T.2 x hx
  obtain ⟨pt,ht'⟩:=(T.2 t ht).at
  exact⟨ps,s _ _ z h1,h2,h3.imp id fun ⟨c,e,y⟩=>⟨c,e,s _ _ (fun w=>by rw [w,ht'] at y;cases y) y⟩⟩
end
noncomputable def spLawTs (Ts:PySem.W.Frag→List TabR) (K:PySem.W.Frag):Sp:=fun vs H Q _=>∃ (a:Addr) (ns:List Int),vs=[.ref a]∧SqL K H a (ns.map V.int)∧ns.length≤63∧TabsH (Ts K) H∧∀ H',Q (.bl true) H'
noncomputable def tabF (tf:PySem.W.Frag→Option (Addr×Addr)) (K:PySem.W.Frag):Addr:=((tf K).getD (0,0)).2
theorem tabF_of {tf:PySem.W.Frag→Option (Addr×Addr)} {K:PySem.W.Frag} {c P:Addr} (h:tf K=some (c,P)):tabF tf K=P:=by unfold tabF;rw [h];rfl
end L2
set_option maxRecDepth 100000
set_option maxRecDepth 100000
namespace L2
open PySem PySem.Spec PyProof.Rows PySem.W
theorem walk_of2S {l:PySem.W.OpenLaw} {k:Nat} {pq:Program} {loose:List Str} {XP:(Str→Option Value)→Heap→Prop} {YP:World→Heap→Prop} {d:DefRec} {K:Params→PySem.W.Frag} {x:Str} {c1 P1 c2 P2:Addr} (t1:PySem.W.Frag→Option (Addr×Addr)) (lp1:Pos) (q1:Str) (t2:PySem.W.Frag→Option (Addr×Addr)) (lp2:Pos) (q2:Str)
  (hi:importsNone pq=true) (hn:l.most=some 63) (hdf:d.params.defaults=[]) (hr:Room k callerA)
  (hY:∀ (w:World) (h:Heap),YP w h→(K w.params).In h∧h.get? P1=some (tabObj #[])∧h.get? P2=some (tabObj #[])) (ht1:∀ w:World,t1 (K w.params)=some (c1,P1)) (ht2:∀ w:World,t2 (K w.params)=some (c2,P2)) (hh1:∀ w:World,codeHdIn (K w.params) c1 P1=true) (hh2:∀ w:World,codeHdIn (K w.params) c2 P2=true) (hk1:∀ w:World,(K w.params).lookup P1=none) (hk2:∀ w:World,(K w.params).lookup P2=none)
  (hd:[P1,P2].Nodup)
  (F:∀ (w:World) (mg:Str→Option Value) (fa:Addr) (h:Heap),(K w.params).In h→h.Ns mainGlobals mg→mg d.name=some (.ref fa)→t1 (K w.params)=some (c1,P1)→t2 (K w.params)=some (c2,P2) →
   ∃ fd:FuncData,(∀ (s:Shared) (u:Value),BindsTo s fd ⟨[u],[]⟩ [(x,u)]) ∧
    ∀ base:Heap,(K w.params).In base→base.Ns mainGlobals mg→CodeHd base c1 P1→base.BuiltinsAt mg P1→CodeHd base c2 P2→base.BuiltinsAt mg P2→base.NoSeer→FnOk l.prog w (K w.params) mg base CX0 k fa fd [x] (spLawTs (fun K=>[(tabF t1 K,lp1,q1),(tabF t2 K,lp2,q2)]) (K w.params))) :
  PySem.W.WalkO pq loose XP YP l.row.toRowW d [] (fun f vs=>PySem.call f vs):=by
 refine Att.attach_call hn hdf fun w s₀ s₁ mg mb fa o pm cd doc a vs ns G Y ho hd' hcd hmg hobj hints hlen hg=>?_
 obtain ⟨KX,hP1,hP2⟩:=hY w _ Y
 obtain ⟨fd,hb,hF⟩:=F w mg fa _ KX G.T.g hmg (ht1 w) (ht2 w)
 have m1:(c1,P1)∈[(c1,P1),(c2,P2)]:=.head _
 have m2:(c2,P2)∈[(c1,P1),(c2,P2)]:=.tail _ (.head _)
 refine law_callS (tabs:=[(c1,P1),(c2,P2)]) (fun t h1=>?_) (fun t h1=>?_) G.T.bmain (G.T.seer hi) KX G.T.g G.T.b G.T.builtins G.T.nolimit hg hobj hints (Nat.le_trans hlen (by decide)) hr (fun base b1 b2 b3 b4=>hF base b1 b2 (b3 _ m1).1 (b3 _ m1).2 (b3 _ m2).1 (b3 _ m2).2 b4) hb (fun H hO hS=>⟨a,ns,rfl,hS,hlen,⟨?_,fun t h1=>?_⟩,fun _=>rfl⟩) fun H e s' z=>z
 ·rcases List.mem_cons.mp h1 with rfl|h1
  ·exact⟨codeHd_of_K KX (hh1 w),hP1⟩
  ·rw [List.mem_singleton.mp h1]
   exact⟨codeHd_of_K KX (hh2 w),hP2⟩
 ·rcases List.mem_cons.mp h1 with rfl|h1
  ·exact hk1 w
  ·rw [List.mem_singleton.mp h1]
   exact hk2 w
 ·show [tabF t1 (K w.params),tabF t2 (K w.params)].Nodup
  rw [tabF_of (ht1 w),tabF_of (ht2 w)]
  exact hd
 ·rcases List.mem_cons.mp h1 with rfl|h1
  ·show TabH (tabF t1 (K w.params)) lp1 q1 H
   rw [tabF_of (ht1 w)]
   exact⟨#[],hO _ m1,trivial,.inl rfl⟩
  ·rw [List.mem_singleton.mp h1]
   show TabH (tabF t2 (K w.params)) lp2 q2 H
   rw [tabF_of (ht2 w)]
   exact⟨#[],hO _ m2,trivial,.inl rfl⟩
end L2
namespace L2
open PySem PySem.Spec PyProof.Rows
theorem RowsL.sameS {Ts:List TabR} {K:PySem.W.Frag} {H H':Hp} (s:SameS Ts H H') (t:TabsH Ts H):∀ {xs:List V} {rs:List (List Int)},RowsL K H xs rs→RowsL K H' xs rs
 | _,_,.nil=>.nil
 | _,_,.cons h u=>.cons (s.at t h) (u.sameS s t)
theorem KeysL.sameS {Ts:List TabR} {K:PySem.W.Frag} {H H':Hp} (s:SameS Ts H H') (t:TabsH Ts H):∀ {xs:List V} {ks:List (List Int×Int)},KeysL K H xs ks→KeysL K H' xs ks
 | _,_,.nil=>.nil
 | _,_,.cons h hw u=>.cons (s.at t h) (s.at t hw) (u.sameS s t)
theorem LstsL.sameS {Ts:List TabR} {H H':Hp} (s:SameS Ts H H') (t:TabsH Ts H):∀ {xs:List V} {rs:List (List Int)},LstsL H xs rs→LstsL H' xs rs
 | _,_,.nil=>.nil
 | _,_,.cons h u=>.cons (s.lst t h) (u.sameS s t)
theorem TabsH.ins {Ts:List TabR} {H:Hp} {x C dx:Addr} {fs:List (Str×V)} {o:HO} (t:TabsH Ts H) (e:H x=some (.ins C dx fs)):TabsH Ts (upd H x o):=by
 refine⟨t.1,fun r hr=>?_⟩
 obtain ⟨ps,h1,h2,h3⟩:=t.2 r hr
 refine⟨ps,by rw [upd_ne (fun z=>by rw [z,e] at h1;cases h1)];exact h1,h2,h3.imp id fun ⟨c,hc,hz⟩=>⟨c,hc,?_⟩⟩
 rw [upd_ne (fun z=>by rw [z,e] at hz;cases hz)]
 exact hz
end L2
namespace L2
open PySem PySem.Spec PyProof.Rows
section
variable {K:PySem.W.Frag} {H:Hp} {σ:St} {Q:VK} {ix:List (Option Nat)}
theorem rd_rangeI {n:Nat} {te:TE} (fr:St) (P:Nat→Int→Prop) (hpk:pick ix σ=none::fr) (hn:n≤1000)
  (step:∀ (i:Nat) H' (Qc:VK),i<n→Same H H'→(∀ x H5,P i x→Same H' H5→Qc (.int x) H5)→te (some (.int i)::fr) H' Qc)
  (hQ:∀ l H' (xs:List Int),H l=none→Same H H'→H' l=some (.lst (xs.map V.int))→xs.length=n→(∀ (i:Nat) (x:Int),xs[i]?=some x→P i x)→Q (.ref l) H'):CompGoal ix (gName 0) (fun _ H Q=>Q true H) te σ Q (Itr 0 n) H:=by
 refine comp_gen 1 fr n (fun l i ys H'=>∃ xs:List Int,ys=xs.map V.int∧xs.length=i∧i≤n∧∀ (j:Nat) (x:Int),xs[j]?=some x→P j x) hpk (fun l H' _ _ _=>⟨[],rfl,rfl,Nat.zero_le _,fun j x h=>by simp at h⟩) (fun l i ys H' ⟨xs,e,l1,l2,_⟩=>by rw [e,List.length_map];lia) (fun _ _=>Nat.le_refl _) (fun i _ hi _=>hi) (fun l i x H' H2 own ys ho hi hl hs hl' hp hy Qy Qn ky kn=>?_) (fun l H' ys hl hs hl' hp=>?_)
 ·obtain ⟨xs,rfl,l1,l2,hP⟩:=hp
  obtain ⟨o,rfl⟩:∃ o,own=[o]:=by match own,ho with|[o],_=>exact⟨o,rfl⟩
  obtain ⟨rfl,rfl⟩:=hy
  dsimp only [gName]
  rw [if_pos rfl,Int.zero_add]
  refine step i _ _ hi hs fun y H5 py s5=>?_
  refine ky [some (.int i)] (.int y) H5 rfl s5 ⟨xs++[y],by rw [List.map_append];rfl,by rw [List.length_append,l1];rfl,hi,fun j z hz=>?_⟩
  by_cases hj:j<xs.length
  ·rw [List.getElem?_append_left hj] at hz
   exact hP j z hz
  ·have hlt:=(List.getElem?_eq_some_iff.mp hz).1
   rw [List.length_append,List.length_singleton] at hlt
   obtain rfl:j=i:=by lia
   rw [List.getElem?_append_right (by lia),show j - xs.length=0 by lia] at hz
   cases hz
   exact py
 ·obtain ⟨xs,rfl,l1,_,hP⟩:=hp
  exact hQ l H' xs hl hs hl' l1 hP
end
end L2

theorem PySem.W.Fast.tw248717973816704407 : True := trivial
theorem PySem.W.Fast.tw6163851731105744629 : True := trivial
theorem PySem.W.Fast.tw9991007548663691888 : True := trivial
theorem PySem.W.Fast.tw12817584361228077876 : True := trivial
theorem PySem.W.Fast.tw6717465723280527632 : True := trivial
theorem PySem.W.Fast.tw16617917170635143640 : True := trivial
theorem PySem.W.Fast.tw712315347433144925 : True := trivial
theorem PySem.W.Fast.tw3051094015197127933 : True := trivial
theorem PySem.W.Fast.tw10309576849068141737 : True := trivial
theorem PySem.W.Fast.tw12050485996180673224 : True := trivial
theorem PySem.W.Fast.tw877264733775753248 : True := trivial
theorem PySem.W.Fast.tw13366205820990022054 : True := trivial
theorem PySem.W.Fast.tw3443063043638324211 : True := trivial
theorem PySem.W.Fast.tw2318913622764032847 : True := trivial
theorem PySem.W.Fast.tw543213463300132199 : True := trivial
theorem PySem.W.Fast.tw5967350003382379192 : True := trivial
theorem PySem.W.Fast.tw9053986925936302452 : True := trivial
theorem PySem.W.Fast.tw3374712308455613014 : True := trivial
theorem PySem.W.Fast.tw1744908924291098574 : True := trivial
theorem PySem.W.Fast.tw5393244240234336414 : True := trivial
theorem PySem.W.Fast.tw4683180531367072461 : True := trivial
theorem PySem.W.Fast.tw13437277471974507870 : True := trivial
theorem PySem.W.Fast.tw1183857077740173184 : True := trivial
theorem PySem.W.Fast.tw16444262563344947170 : True := trivial
theorem PySem.W.Fast.tw1729860020921894131 : True := trivial
theorem PySem.W.Fast.tw12598795123562815416 : True := trivial
theorem PySem.W.Fast.tw5574081278527074351 : True := trivial
theorem PySem.W.Fast.tw7033650408033382903 : True := trivial
theorem PySem.W.Fast.tw3520731360162515816 : True := trivial
theorem PySem.W.Fast.tw5777392582642648782 : True := trivial
theorem PySem.W.Fast.tw3087620482558530983 : True := trivial
theorem PySem.W.Fast.tw4807584049733140694 : True := trivial
theorem PySem.W.Fast.tw707782513272814638 : True := trivial
theorem PySem.W.Fast.tw7937267760426028790 : True := trivial
theorem PySem.W.Fast.tw8182783478745622663 : True := trivial
theorem PySem.W.Fast.tw16332107448665784551 : True := trivial
theorem PySem.W.Fast.tw12653633986564765348 : True := trivial
theorem PySem.W.Fast.tw18052842813611629021 : True := trivial
theorem PySem.W.Fast.tw8548753897856157965 : True := trivial
theorem PySem.W.Fast.tw17729379453654222613 : True := trivial
theorem PySem.W.Fast.tw3137767253315892084 : True := trivial
theorem PySem.W.Fast.tw3653264322076002231 : True := trivial
theorem PySem.W.Fast.tw7906687804123755310 : True := trivial
theorem PySem.W.Fast.tw16066856187742082428 : True := trivial
theorem PySem.W.Fast.tw16896595476990048694 : True := trivial
theorem PySem.W.Fast.tw15230667859404090396 : True := trivial
theorem PySem.W.Fast.tw10771151169071893979 : True := trivial
theorem PySem.W.Fast.tw6848131597351822807 : True := trivial
theorem PySem.W.Fast.tw5297239939068440011 : True := trivial
theorem PySem.W.Fast.tw3310741565745404252 : True := trivial
theorem PySem.W.Fast.tw10140448592554202982 : True := trivial
theorem PySem.W.Fast.tw14328904168451403125 : True := trivial
theorem PySem.W.Fast.tw14518304057582693842 : True := trivial
theorem PySem.W.Fast.tw16301248130847734653 : True := trivial
theorem PySem.W.Fast.tw9244855319720955140 : True := trivial
theorem PySem.W.Fast.tw4257576973365787049 : True := trivial
theorem PySem.W.Fast.tw14130936406963806397 : True := trivial
theorem PySem.W.Fast.tw10629689355688981328 : True := trivial
theorem PySem.W.Fast.tw16432676354917799817 : True := trivial
theorem PySem.W.Fast.tw8298814720948540977 : True := trivial
theorem PySem.W.Fast.tw13944211755599929181 : True := trivial
theorem PySem.W.Fast.tw11264222190379403448 : True := trivial
theorem PySem.W.Fast.tw1116217820969550943 : True := trivial
theorem PySem.W.Fast.tw6260662463845821781 : True := trivial
theorem PySem.W.Fast.tw14137868350458002797 : True := trivial
theorem PySem.W.Fast.tw2350205043922596960 : True := trivial
theorem PySem.W.Fast.tw2919157847068811154 : True := trivial
theorem PySem.W.Fast.tw2523111389096131251 : True := trivial
theorem PySem.W.Fast.tw5954425759327126275 : True := trivial
theorem PySem.W.Fast.tw10075606401290102768 : True := trivial
theorem PySem.W.Fast.tw15182709766291922194 : True := trivial
theorem PySem.W.Fast.tw17086258772993866851 : True := trivial
theorem PySem.W.Fast.tw12011216367899943705 : True := trivial
theorem PySem.W.Fast.tw7852075044101330077 : True := trivial
theorem PySem.W.Fast.tw18311707784444514389 : True := trivial
theorem PySem.W.Fast.tw1547865361127610673 : True := trivial
theorem PySem.W.Fast.tw325156356864232226 : True := trivial
theorem PySem.W.Fast.tw13142758360820079309 : True := trivial
theorem PySem.W.Fast.tw6548979830290089847 : True := trivial
theorem PySem.W.Fast.tw14791155372316217139 : True := trivial
theorem PySem.W.Fast.tw3504435500673152424 : True := trivial
theorem PySem.W.Fast.tw11249515180878879575 : True := trivial
theorem PySem.W.Fast.tw8524511387855983614 : True := trivial
theorem PySem.W.Fast.tw7356385524996942774 : True := trivial
theorem PySem.W.Fast.tw723761684991494309 : True := trivial
theorem PySem.W.Fast.tw4139130487823677485 : True := trivial
theorem PySem.W.Fast.tw682699649238785452 : True := trivial
theorem PySem.W.Fast.tw11119496057765416392 : True := trivial
theorem PySem.W.Fast.tw15804801986001324015 : True := trivial
theorem PySem.W.Fast.tw5465387376963866691 : True := trivial
theorem PySem.W.Fast.tw9456198495256281363 : True := trivial
theorem PySem.W.Fast.tw1620057311743369838 : True := trivial
theorem PySem.W.Fast.tw867503283290568141 : True := trivial
theorem PySem.W.Fast.tw17613970478744654445 : True := trivial
theorem PySem.W.Fast.tw10403641792627244056 : True := trivial
theorem PySem.W.Fast.tw9046271524708952667 : True := trivial
theorem PySem.W.Fast.tw8679882383512250335 : True := trivial
theorem PySem.W.Fast.tw7479579323318638283 : True := trivial
theorem PySem.W.Fast.tw16999190926920572238 : True := trivial
theorem PySem.W.Fast.tw14876784049642343852 : True := trivial
theorem PySem.W.Fast.tw7142900303350073122 : True := trivial
theorem PySem.W.Fast.tw13894741977970576929 : True := trivial
namespace Law
open PySem L2
noncomputable def top (i:Nat):Stmt:=PySem.Challenge.pw_tuningyard_k60_sounds_told.main.body.getD i (.Pass ⟨0,0,0,0⟩)
noncomputable abbrev s_over:Stmt:=top 7
noncomputable abbrev s_power:Stmt:=top 8
noncomputable abbrev s_note_changed:Stmt:=top 10
noncomputable abbrev s_bar_changed:Stmt:=top 11
noncomputable abbrev s_changed:Stmt:=top 12
noncomputable abbrev s_sounds:Stmt:=top 13
noncomputable abbrev s_checked_commas:Stmt:=top 17
noncomputable abbrev s_lead_place:Stmt:=top 18
noncomputable abbrev s_lowered:Stmt:=top 19
noncomputable abbrev s_parted:Stmt:=top 20
noncomputable abbrev s_stepped:Stmt:=top 21
noncomputable abbrev s_table:Stmt:=top 22
noncomputable abbrev s_left_by:Stmt:=top 23
noncomputable abbrev s_heard:Stmt:=top 25
noncomputable abbrev s_value:Stmt:=top 26
noncomputable abbrev s_checked_keys:Stmt:=top 29
noncomputable abbrev s_values:Stmt:=top 30
noncomputable abbrev s_law_cell_at:Stmt:=top 37
noncomputable abbrev s_law_lowest:Stmt:=top 38
noncomputable abbrev s_law_mixed:Stmt:=top 39
noncomputable abbrev s_law_alike:Stmt:=top 40
noncomputable abbrev s_law_name_row:Stmt:=top 41
noncomputable abbrev s_law_pieces:Stmt:=top 42
noncomputable abbrev s_law_tune:Stmt:=top 43
noncomputable abbrev s_law_copy:Stmt:=top 44
noncomputable abbrev s_law_steps:Stmt:=top 45
noncomputable abbrev s_law_rest:Stmt:=top 46
noncomputable abbrev s_law_commas:Stmt:=top 47
noncomputable abbrev s_law_value:Stmt:=top 48
noncomputable abbrev s_law_keys:Stmt:=top 49
noncomputable abbrev s_law_told:Stmt:=top 50
noncomputable abbrev s_law_sound:Stmt:=top 51
noncomputable abbrev s_law_tuning:Stmt:=top 52
noncomputable abbrev s_law:Stmt:=top 53
noncomputable abbrev s_Tuning_sound:Stmt:=clsItem (top 32) 0
noncomputable abbrev s_CommaTuning_init:Stmt:=clsItem (top 33) 0
noncomputable abbrev s_CommaTuning_sound:Stmt:=clsItem (top 33) 1
noncomputable abbrev s_KeyTuning_init:Stmt:=clsItem (top 34) 0
noncomputable abbrev s_KeyTuning_sound:Stmt:=clsItem (top 34) 1
noncomputable abbrev s_Board_init:Stmt:=clsItem (top 35) 0
noncomputable abbrev s_Board_sound:Stmt:=clsItem (top 35) 1
@[elab_as_elim] theorem of_len1 {α : Type} {P : List α → Prop} (us : List α) (hl : us.length = 1) (h : ∀ a0 : α, P [a0]) : P us :=
 match us,hl with|[a0],_=>h a0
@[elab_as_elim] theorem of_len2 {α : Type} {P : List α → Prop} (us : List α) (hl : us.length = 2) (h : ∀ a0 a1 : α, P [a0, a1]) : P us :=
 match us,hl with|[a0,a1],_=>h a0 a1
@[elab_as_elim] theorem of_len3 {α : Type} {P : List α → Prop} (us : List α) (hl : us.length = 3) (h : ∀ a0 a1 a2 : α, P [a0, a1, a2]) : P us :=
 match us,hl with|[a0,a1,a2],_=>h a0 a1 a2
noncomputable def dot (a b:List Int):Int:=(List.zipWith (·*·) a b).sum
noncomputable def val (w:List Int) (m:Int) (r:List Int):Int:=if m=0 then dot r w else dot r w % m
noncomputable def Few (n:Nat) (r:List Int):Prop:=∀ x∈r,bitsI x≤n
theorem Few.mul {n m:Nat} {r q:List Int} (h1:Few n r) (h2:Few m q) (h:n+m≤1000000) (hl:r.length=q.length):∀ i,i<r.length→CMulB (r.getD i 0) (q.getD i 0):=fun i hi=>by
 have a:=h1 (r.getD i 0) (by rw [List.getD,List.getElem?_eq_getElem hi];exact List.getElem_mem hi)
 have b:=h2 (q.getD i 0) (by rw [List.getD,List.getElem?_eq_getElem (hl ▸ hi)];exact List.getElem_mem _)
 unfold CMulB
 lia
noncomputable def num (c b:Int):Int:=(c+b) % (2*b+1) - b
theorem num_bd (c:Int) {b:Int} (h:0≤b):-b≤num c b∧num c b≤b:=by
 unfold num
 have h1:=Int.emod_nonneg (c+b) (show 2*b+1≠0 by lia)
 have h2:=Int.emod_lt_of_pos (c+b) (show 0<2*b+1 by lia)
 lia
theorem bits_le {x:Int} {b:Int} {k:Nat} (h:-b≤x∧x≤b) (hb:b<2 ^ k):bitsI x≤k:=by
 rw [Mth.bits_bl]
 apply Mth.bl_le
 have:((2 ^ k:Nat):Int)=(2:Int) ^ k:=by simp
 lia
noncomputable def rowI (ns:List Int) (k b:Int):List Int:=[num (ns.getD (k+0).toNat 0) b,num (ns.getD (k+1).toNat 0) b,num (ns.getD (k+2).toNat 0) b,num (ns.getD (k+3).toNat 0) b,num (ns.getD (k+4).toNat 0) b]
theorem rowI_few (ns:List Int) (k:Int) {b:Int} (h0:0≤b) {n:Nat} (hb:b<2 ^ n):Few n (rowI ns k b):=fun x hx=>by
 simp only [rowI,List.mem_cons,List.not_mem_nil,or_false] at hx
 rcases hx with rfl|rfl|rfl|rfl|rfl <;> exact bits_le (num_bd _ h0) hb
noncomputable def vals (ks:List (List Int×Int)) (r:List Int):List Int:=ks.map fun k=>val k.1 k.2 r
theorem mem_of {α:Type} {ks:List α} {i:Nat} {k:α} (h:ks[i]?=some k):k∈ks:=by
 obtain ⟨h1,h2⟩:=List.getElem?_eq_some_iff.mp h
 rw [← h2]
 exact List.getElem_mem h1
noncomputable def kwLam:Expr→Pos
 | .Call _ _ (⟨_,.Lambda _ _ _ p,_⟩::_) _=>p
 | _=>⟨0,0,0,0⟩
noncomputable def asgVal:Stmt→Expr
 | .Assign _ v _=>v
 | _=>.Constant .none 0 ⟨0,0,0,0⟩
noncomputable def whBody:Stmt→List Stmt
 | .While _ b _ _=>b
 | _=>[]
theorem mem_bd {M:Nat} {r:List Int} {x:Int} (h:Mth.BdM M r) (hx:x∈r):x.natAbs≤M:=by
 obtain ⟨i,hi,e⟩:=List.getElem_of_mem hx
 have:=h i
 rw [List.getD,List.getElem?_eq_getElem hi,e] at this
 exact this
noncomputable def pos1 (p:Nat) (v:List Int):List Int:=if v.getD p 0<0 then Mth.mulv v (-1) else v
theorem pos1_pos {p:Nat} {v:List Int} (h:v.getD p 0≠0):0<(pos1 p v).getD p 0:=by
 unfold pos1
 split
 ·rw [Mth.mulv_at];lia
 ·lia
theorem pos1_at {p:Nat} {v:List Int}:Mth.at' p (pos1 p v)=Mth.at' p v:=by
 unfold pos1 Mth.at'
 split
 ·rw [Mth.mulv_at];lia
 ·rfl
theorem pos1_len {p n:Nat} {v:List Int} (h:v.length=n):(pos1 p v).length=n:=by
 unfold pos1
 split
 ·exact Mth.mulv_len h
 ·exact h
theorem pos1_bd {p B:Nat} {v:List Int} (h:Mth.BdM B v):Mth.BdM B (pos1 p v):=by
 unfold pos1
 split
 ·intro i
  rw [Mth.mulv_at]
  have:=h i
  lia
 ·exact h
theorem cnt2 {α:Type} (f:α→Bool):∀ l:List α,(l.filter fun v=>!f v).length+(l.filter f).length=l.length
 | []=>rfl
 | x::l=>by
  have h:=cnt2 f l
  simp only [List.filter_cons,List.length_cons]
  cases f x <;> simp <;> lia
theorem left_cnt (p:Nat) (s:List Int) (rest:List (List Int)):(Mth.left1 p s rest).length+(Mth.left0 p s rest).length=rest.length:=by
 have h:=cnt2 (fun v:List Int=>v.getD p 0 == 0) (rest.map (Mth.low1 p s))
 rw [List.length_map] at h
 have e:(Mth.left1 p s rest)=(rest.map (Mth.low1 p s)).filter (fun v=>!(v.getD p 0 == 0)):=rfl
 rw [e]
 unfold Mth.left0
 lia
theorem gs_109 {b i:Nat} (hb:b≤109) (hi:i<5):Mth.gs b i<9000∧Mth.ss b (i+1)<400000:=by
 match i,hi with
 | 0,_|1,_|2,_|3,_|4,_=>simp only [Mth.gs,Mth.ss];lia
theorem getD_mem {q:List Int} {i:Nat} (h:i<q.length):q.getD i 0∈q:=by rw [List.getD,List.getElem?_eq_getElem h];exact List.getElem_mem h
noncomputable abbrev lpP:Pos:=kwLam (asgVal ((whBody ((defBody s_parted).getD 2 (.Pass ⟨0,0,0,0⟩))).getD 0 (.Pass ⟨0,0,0,0⟩)))
noncomputable abbrev sdE:Expr:=cArg 1 (retE ((defBody s_sounds).getD 0 (.Pass ⟨0,0,0,0⟩)))
noncomputable abbrev sdL:Pos:=lamL sdE
noncomputable abbrev TsK (K:PySem.W.Frag):List TabR:=[(tabP K "parted",lpP,"parted.<locals>.<lambda>"),(tabP K "sounds",sdL,"sounds.<locals>.<lambda>")]
noncomputable abbrev TabK (K:PySem.W.Frag) (H:Hp):Prop:=TabsH (TsK K) H
noncomputable abbrev SmT (K:PySem.W.Frag) (H H':Hp):Prop:=SameS (TsK K) H H'
noncomputable def okAt (ls:List Int) (p B j:Nat) (x:Int):Prop:=(p<j→x=0)∧(j=p→x=ls.getD j 0)∧(j<p→0<ls.getD j 0→0≤x∧x<ls.getD j 0)∧x.natAbs≤B
noncomputable def okUp (ls:List Int) (p B:Nat) (xs:List Int):Prop:=∀ j,j<xs.length→okAt ls p B j (xs.getD j 0)
noncomputable def LR (ls:List Int) (p B:Nat) (r:List Int):Prop:=r.length=5∧okUp ls p B r
theorem LR.bd {ls r:List Int} {p B:Nat} (h:LR ls p B r):Mth.BdM B r:=fun i=>by
 by_cases c:i<r.length
 ·exact (h.2 i c).2.2.2
 ·rw [List.getD,List.getElem?_eq_none (by lia)]
  exact Nat.zero_le _
noncomputable def TS (ls:List Int) (B lo:Nat) (rs:List (List Int)):Prop:=Mth.SF rs∧∀ r∈rs,∃ p,lo≤p∧p<5∧0<ls.getD p 0∧LR ls p B r
theorem ixN_nat {n j:Nat} (h:j<n):ixN n (j:Int)=some j:=by
 unfold ixN
 rw [if_pos (by lia),if_pos (by lia),Int.toNat_natCast]
theorem fold_dvd:∀ (zs:List Int) (g:Nat),(zs.foldl (fun g z=>Nat.gcd g z.natAbs) g) ∣ g∧∀ z∈zs,(zs.foldl (fun g z=>Nat.gcd g z.natAbs) g) ∣ z.natAbs
 | [],g=>⟨Nat.dvd_refl _,fun _ z=>nomatch z⟩
 | z::zs,g=>by
  obtain ⟨h1,h2⟩:=fold_dvd zs (Nat.gcd g z.natAbs)
  refine⟨Nat.dvd_trans h1 (Nat.gcd_dvd_left _ _),fun y hy=>?_⟩
  rcases List.mem_cons.mp hy with rfl|hy
  ·exact Nat.dvd_trans h1 (Nat.gcd_dvd_right _ _)
  ·exact h2 y hy
theorem fewB {M b:Nat} {r:List Int} (h:Mth.BdM (2 ^ M) r) (hb:M<b):Few b r:=fun x hx=>by
 rw [Mth.bits_bl]
 exact Mth.bl_le (Nat.lt_of_le_of_lt (mem_bd h hx) (Nat.pow_lt_pow_right (by decide) hb))
theorem bd_mem {M:Nat} {r:List Int} (h:∀ x∈r,x.natAbs≤M):Mth.BdM M r:=fun i=>by
 by_cases hi:i<r.length
 ·exact h _ (getD_mem hi)
 ·rw [List.getD,List.getElem?_eq_none (by lia)]
  exact Nat.zero_le _
noncomputable def Hr (ks:List (List Int×Int)) (r:List Int):Prop:=∃ k∈ks,val k.1 k.2 r≠0
noncomputable instance (ks:List (List Int×Int)) (r:List Int):Decidable (Hr ks r):=inferInstanceAs (Decidable (∃ k∈ks,val k.1 k.2 r≠0))
theorem mk_same {x dx C:Addr} {H:Hp} (h1:H x=none) (h2:H dx=none):Same H (upd (upd H dx (.own x)) x (.ins C dx [])):=fun b o e=>by
 have n1:b≠x:=fun z=>by rw [z,h1] at e;cases e
 have n2:b≠dx:=fun z=>by rw [z,h2] at e;cases e
 rw [upd_ne n1,upd_ne n2]
 exact e
theorem mk_smT {K:PySem.W.Frag} {x dx C:Addr} {H H1:Hp} {o:HO} (h1:H x=none) (h2:H dx=none) (s:SmT K (upd (upd H dx (.own x)) x (.ins C dx [])) H1):SmT K H (upd H1 x o):=fun b o' n e=>by
 have n1:b≠x:=fun z=>by rw [z,h1] at e;cases e
 rw [upd_ne n1]
 exact s b o' n (mk_same h1 h2 b o' e)
theorem ins_smT {K:PySem.W.Frag} {H H1:Hp} {x C dx:Addr} {fs:List (Str×V)} (s:SmT K H H1) (t:TabK K H) (e:H x=some (.ins C dx fs)):H1 x=some (.ins C dx fs):=s.get t e fun _ w=>nomatch w
inductive Tu where
 | plain:Tu
 | comma (st:List (List Int)):Tu
 | key (ks:List (List Int×Int)):Tu
 | board (w:List Int):Tu
noncomputable def TuAt (K:PySem.W.Frag) (H:Hp) (t l:Addr):Tu→Prop
 | .plain=>∃ C dx,PySem.W.nsIn K mainGlobals "Tuning"=some (some (.ref C))∧H t=some (.ins C dx [])
 | .comma st=>∃ C dx ys,PySem.W.nsIn K mainGlobals "CommaTuning"=some (some (.ref C))∧H t=some (.ins C dx [("steps",.ref l)])∧H l=some (.lst ys)∧RowsL K H ys st
 | .key ks=>∃ C dx ys,PySem.W.nsIn K mainGlobals "KeyTuning"=some (some (.ref C))∧H t=some (.ins C dx [("own_keys",.ref l)])∧H l=some (.lst ys)∧KeysL K H ys ks
 | .board w=>∃ C dx ys,PySem.W.nsIn K mainGlobals "Board"=some (some (.ref C))∧H t=some (.ins C dx [("own_keys",.ref l),("octave",.int (w.getD 0 0))])∧H l=some (.lst ys)∧KeysL K H ys [(w,0)]
noncomputable def Tu.ok:Tu→Prop
 | .plain=>True
 | .comma st=>Mth.SF st∧Mth.Len 5 st∧∀ v∈st,Mth.BdM (2 ^ 500) v
 | .key ks=>ks.length≤6∧(∀ k∈ks,k.2=0∨2≤k.2)∧∀ k∈ks,k.1.length=5∧Mth.BdM (2 ^ 20) k.1∧k.2.natAbs≤2 ^ 20
 | .board w=>w.length=5∧Mth.BdM (2 ^ 20) w
theorem TuAt.same {K:PySem.W.Frag} {H H':Hp} {t l:Addr}:∀ {u:Tu},TuAt K H t l u→Same H H'→TuAt K H' t l u
 | .plain,⟨C,dx,h1,h2⟩,s=>⟨C,dx,h1,s _ _ h2⟩
 | .comma _,⟨C,dx,ys,h1,h2,h3,h4⟩,s=>⟨C,dx,ys,h1,s _ _ h2,s _ _ h3,h4.same s⟩
 | .key _,⟨C,dx,ys,h1,h2,h3,h4⟩,s=>⟨C,dx,ys,h1,s _ _ h2,s _ _ h3,h4.same s⟩
 | .board _,⟨C,dx,ys,h1,h2,h3,h4⟩,s=>⟨C,dx,ys,h1,s _ _ h2,s _ _ h3,h4.same s⟩
theorem TuAt.keep {K:PySem.W.Frag} {H H':Hp} {t l:Addr} (tb:TabK K H) (s:SmT K H H'):∀ {u:Tu},TuAt K H t l u→TuAt K H' t l u
 | .plain,⟨C,dx,h1,h2⟩=>⟨C,dx,h1,ins_smT s tb h2⟩
 | .comma _,⟨C,dx,ys,h1,h2,h3,h4⟩=>⟨C,dx,ys,h1,ins_smT s tb h2,s.lst tb h3,h4.sameS s tb⟩
 | .key _,⟨C,dx,ys,h1,h2,h3,h4⟩=>⟨C,dx,ys,h1,ins_smT s tb h2,s.lst tb h3,h4.sameS s tb⟩
 | .board _,⟨C,dx,ys,h1,h2,h3,h4⟩=>⟨C,dx,ys,h1,ins_smT s tb h2,s.lst tb h3,h4.sameS s tb⟩
theorem TuAt.off {K:PySem.W.Frag} {H:Hp} {t l b:Addr} {ys zs:List V} (e:H b=some (.lst ys)) (ne:l≠b):∀ {u:Tu},TuAt K H t l u→TuAt K (upd H b (.lst zs)) t l u
 | .plain,⟨C,dx,h1,h2⟩=>⟨C,dx,h1,by rw [upd_ne (fun z=>by rw [z,e] at h2;cases h2)];exact h2⟩
 | .comma _,⟨C,dx,ys,h1,h2,h3,h4⟩=>⟨C,dx,ys,h1,by rw [upd_ne (fun z=>by rw [z,e] at h2;cases h2)];exact h2,by rw [upd_ne ne];exact h3,h4.off e⟩
 | .key _,⟨C,dx,ys,h1,h2,h3,h4⟩=>⟨C,dx,ys,h1,by rw [upd_ne (fun z=>by rw [z,e] at h2;cases h2)];exact h2,by rw [upd_ne ne];exact h3,h4.off e⟩
 | .board _,⟨C,dx,ys,h1,h2,h3,h4⟩=>⟨C,dx,ys,h1,by rw [upd_ne (fun z=>by rw [z,e] at h2;cases h2)];exact h2,by rw [upd_ne ne];exact h3,h4.off e⟩
noncomputable def Rst (st:List (List Int)) (u v:List Int):Prop:=v.length=5∧Mth.Span 5 st (Mth.sub u v)∧∀ s∈st,∀ k,Mth.Led s k→0≤v.getD k 0∧v.getD k 0<s.getD k 0
theorem rst_iff {st:List (List Int)} {a b u v:List Int} (sf:Mth.SF st) (hl:Mth.Len 5 st) (la:a.length=5) (lb:b.length=5) (ha:Rst st a u) (hb:Rst st b v):u=v↔Mth.Span 5 st (Mth.sub a b):=by
 obtain ⟨lu,su,ku⟩:=ha
 obtain ⟨lv,sv,kv⟩:=hb
 have e1:Mth.sub (Mth.sub a b) (Mth.sub (Mth.sub a u) (Mth.sub b v))=Mth.sub u v:=Mth.ext_at (Mth.sub_len (Mth.sub_len la lb) (Mth.sub_len (Mth.sub_len la lu) (Mth.sub_len lb lv))) (Mth.sub_len lu lv) fun i _=>by
  rw [Mth.sub_at (Mth.sub_len la lb) (Mth.sub_len (Mth.sub_len la lu) (Mth.sub_len lb lv)),Mth.sub_at la lb,Mth.sub_at (Mth.sub_len la lu) (Mth.sub_len lb lv),Mth.sub_at la lu,Mth.sub_at lb lv,Mth.sub_at lu lv]
  lia
 have hd:=Mth.Span.sub (Mth.sub_len la lu) (Mth.sub_len lb lv) su sv
 constructor
 ·rintro rfl
  have e2:Mth.sub a b=Mth.sub (Mth.sub a u) (Mth.sub b u):=Mth.ext_at (Mth.sub_len la lb) (Mth.sub_len (Mth.sub_len la lu) (Mth.sub_len lb lu)) fun i _=>by
   rw [Mth.sub_at la lb,Mth.sub_at (Mth.sub_len la lu) (Mth.sub_len lb lu),Mth.sub_at la lu,Mth.sub_at lb lu]
   lia
  rw [e2]
  exact hd
 ·intro h
  have h3:=Mth.Span.sub (Mth.sub_len la lb) (Mth.sub_len (Mth.sub_len la lu) (Mth.sub_len lb lv)) h hd
  rw [e1] at h3
  have hz:=Mth.SF.small sf hl h3 fun s hs k hk=>by
   rw [Mth.sub_at lu lv]
   have p1:=ku s hs k hk
   have p2:=kv s hs k hk
   lia
  exact Mth.ext_at lu lv fun i _=>by
   have:(Mth.sub u v).getD i 0=0:=by rw [hz,Mth.zer_at]
   rw [Mth.sub_at lu lv] at this
   lia
noncomputable def Tu.tab:Tu→List (List Int)→Prop
 | .plain,st=>st=[]
 | .comma s,st=>st=s
 | .key ks,st=>Mth.Lo ks st
 | .board w,st=>Mth.Lo [(w,0)] st
theorem sqT_ins {K:PySem.W.Frag} {H:Hp} {x C dx a:Addr} {fs:List (Str×V)} {o:HO} {xs:List V} (h:SqT K H a xs) (e:H x=some (.ins C dx fs)):SqT K (upd H x o) a xs:=by
 rcases h with (h|⟨o',h⟩)|h
 ·exact .inl (.inl (by rw [upd_ne (fun z=>by rw [z,e] at h;cases h)];exact h))
 ·exact .inl (.inr ⟨o',by rw [upd_ne (fun z=>by rw [z,e] at h;cases h)];exact h⟩)
 ·exact .inr h
theorem sqT_del {K:PySem.W.Frag} {H:Hp} {c a:Addr} {φ:Heap→Prop} {xs:List V} (h:SqT K H a xs) (e:H c=some (.ext φ)):SqT K (L2.del H c) a xs:=by
 rcases h with (h|⟨o,h⟩)|h
 ·exact .inl (.inl (by rw [del_ne (fun z=>by rw [z,e] at h;cases h)];exact h))
 ·exact .inl (.inr ⟨o,by rw [del_ne (fun z=>by rw [z,e] at h;cases h)];exact h⟩)
 ·exact .inr h
inductive Tn where
 | row (r:List Int):Tn
 | num (i:Int):Tn
noncomputable abbrev Nt:=Option Tn×(Int×Int)
noncomputable def TnV (K:PySem.W.Frag) (H:Hp) (v:V):Tn→Prop
 | .row r=>∃ a,v=.ref a∧SqT K H a (r.map V.int)∧r.length≤100
 | .num i=>v=.int i
noncomputable def ToneV (K:PySem.W.Frag) (H:Hp) (v:V):Option Tn→Prop
 | none=>v=.non
 | some t=>TnV K H v t
theorem TnV.same {K:PySem.W.Frag} {H H':Hp} {v:V} (s:Same H H'):∀ {o:Tn},TnV K H v o→TnV K H' v o
 | .num _,h=>h
 | .row _,⟨a,h1,h2,h3⟩=>⟨a,h1,s.at h2,h3⟩
theorem ToneV.same {K:PySem.W.Frag} {H H':Hp} {v:V} (s:Same H H'):∀ {o:Option Tn},ToneV K H v o→ToneV K H' v o
 | none,h=>h
 | some _,h=>TnV.same s h
noncomputable def NoteAt (K:PySem.W.Frag) (H:Hp) (v:V) (n:Nt):Prop:=∃ a t l,v=.ref a∧SqT K H a [t,.ref l]∧ToneV K H t n.1∧SqT K H l [.int n.2.1,.int n.2.2]
theorem NoteAt.same {K:PySem.W.Frag} {H H':Hp} {v:V} {n:Nt} (h:NoteAt K H v n) (s:Same H H'):NoteAt K H' v n:=by
 obtain ⟨a,t,l,h1,h2,h3,h4⟩:=h
 exact⟨a,t,l,h1,s.at h2,h3.same s,s.at h4⟩
theorem ToneV.off {K:PySem.W.Frag} {H:Hp} {v:V} {l:Addr} {ys zs:List V} (e:H l=some (.lst ys)):∀ {o:Option Tn},ToneV K H v o→ToneV K (upd H l (.lst zs)) v o
 | none,h=>h
 | some (.num _),h=>h
 | some (.row _),⟨a,h1,h2,h3⟩=>⟨a,h1,upd_sqT h2 e,h3⟩
theorem NoteAt.off {K:PySem.W.Frag} {H:Hp} {v:V} {n:Nt} {l:Addr} {ys zs:List V} (h:NoteAt K H v n) (e:H l=some (.lst ys)):NoteAt K (upd H l (.lst zs)) v n:=by
 obtain ⟨a,t,l,h1,h2,h3,h4⟩:=h
 exact⟨a,t,l,h1,upd_sqT h2 e,h3.off e,upd_sqT h4 e⟩
inductive NotesL (K:PySem.W.Frag) (H:Hp):List V→List Nt→Prop where
 | nil:NotesL K H [] []
 | cons {x:V} {n:Nt} {xs:List V} {ns:List Nt} (h:NoteAt K H x n) (t:NotesL K H xs ns):NotesL K H (x::xs) (n::ns)
theorem NotesL.length {K:PySem.W.Frag} {H:Hp}:∀ {xs:List V} {ns:List Nt},NotesL K H xs ns→ns.length=xs.length
 | _,_,.nil=>rfl
 | _,_,.cons _ t=>by simp [t.length]
theorem NotesL.get {K:PySem.W.Frag} {H:Hp}:∀ {xs:List V} {ns:List Nt} {i:Nat} {x:V},NotesL K H xs ns→xs[i]?=some x→∃ n,NoteAt K H x n∧ns[i]?=some n
 | _,_,i,x,.nil,h=>by simp at h
 | _,_,0,x,.cons h t,e=>by
  rw [List.getElem?_cons_zero] at e
  cases e
  exact⟨_,h,rfl⟩
 | _,_,i+1,x,.cons h t,e=>by
  obtain ⟨n,h1,h2⟩:=t.get (i:=i) (x:=x) (by simpa using e)
  exact⟨n,h1,by simpa using h2⟩
theorem NotesL.same {K:PySem.W.Frag} {H H':Hp} (s:Same H H'):∀ {xs:List V} {ns:List Nt},NotesL K H xs ns→NotesL K H' xs ns
 | _,_,.nil=>.nil
 | _,_,.cons h t=>.cons (h.same s) (t.same s)
theorem NotesL.off {K:PySem.W.Frag} {H:Hp} {l:Addr} {ys zs:List V} (e:H l=some (.lst ys)):∀ {xs:List V} {ns:List Nt},NotesL K H xs ns→NotesL K (upd H l (.lst zs)) xs ns
 | _,_,.nil=>.nil
 | _,_,.cons h t=>.cons (h.off e) (t.off e)
theorem NotesL.snoc {K:PySem.W.Frag} {H:Hp} {x:V} {n:Nt} (h:NoteAt K H x n):∀ {xs:List V} {ns:List Nt},NotesL K H xs ns→NotesL K H (xs++[x]) (ns++[n])
 | _,_,.nil=>.cons h .nil
 | _,_,.cons h1 t=>.cons h1 (t.snoc h)
inductive BarsL (K:PySem.W.Frag) (H:Hp):List V→List (List Nt)→Prop where
 | nil:BarsL K H [] []
 | cons {a:Addr} {ns:List Nt} {zs xs:List V} {bs:List (List Nt)} (h:H a=some (.lst zs)) (hn:NotesL K H zs ns) (t:BarsL K H xs bs):BarsL K H (.ref a::xs) (ns::bs)
theorem BarsL.length {K:PySem.W.Frag} {H:Hp}:∀ {xs:List V} {bs:List (List Nt)},BarsL K H xs bs→bs.length=xs.length
 | _,_,.nil=>rfl
 | _,_,.cons _ _ t=>by simp [t.length]
theorem BarsL.get {K:PySem.W.Frag} {H:Hp}:∀ {xs:List V} {bs:List (List Nt)} {i:Nat} {x:V},BarsL K H xs bs→xs[i]?=some x→∃ (a:Addr) (zs:List V) (ns:List Nt),x=.ref a∧H a=some (.lst zs)∧NotesL K H zs ns∧bs[i]?=some ns
 | _,_,i,x,.nil,h=>by simp at h
 | _,_,0,x,.cons h hn t,e=>by
  rw [List.getElem?_cons_zero] at e
  cases e
  exact⟨_,_,_,rfl,h,hn,rfl⟩
 | _,_,i+1,x,.cons h hn t,e=>by
  obtain ⟨a,zs,ns,h1,h2,h3,h4⟩:=t.get (i:=i) (x:=x) (by simpa using e)
  exact⟨a,zs,ns,h1,h2,h3,by simpa using h4⟩
theorem BarsL.same {K:PySem.W.Frag} {H H':Hp} (s:Same H H'):∀ {xs:List V} {bs:List (List Nt)},BarsL K H xs bs→BarsL K H' xs bs
 | _,_,.nil=>.nil
 | _,_,.cons h hn t=>.cons (s _ _ h) (hn.same s) (t.same s)
theorem BarsL.off {K:PySem.W.Frag} {H:Hp} {l:Addr} {ys zs:List V} (e:H l=some (.lst ys)):∀ {xs:List V} {bs:List (List Nt)},BarsL K H xs bs→V.ref l∉xs→BarsL K (upd H l (.lst zs)) xs bs
 | _,_,.nil,_=>.nil
 | _,_,.cons (a:=a) h hn t,no=>.cons (by rw [upd_ne (fun z=>no (by rw [z];exact .head _))];exact h) (hn.off e) (t.off e fun z=>no (.tail _ z))
theorem BarsL.snoc {K:PySem.W.Frag} {H:Hp} {a:Addr} {zs:List V} {ns:List Nt} (h:H a=some (.lst zs)) (hn:NotesL K H zs ns):∀ {xs:List V} {bs:List (List Nt)},BarsL K H xs bs→BarsL K H (xs++[.ref a]) (bs++[ns])
 | _,_,.nil=>.cons h hn .nil
 | _,_,.cons h1 hn1 t=>.cons h1 hn1 (t.snoc h hn)
noncomputable def TuneAt (K:PySem.W.Frag) (H:Hp) (t m l:Addr) (mt:Int×Int) (xs:List V) (bs:List (List Nt)):Prop:=SqT K H t [.ref m,.ref l]∧SqT K H m [.int mt.1,.int mt.2]∧H l=some (.lst xs)∧BarsL K H xs bs
theorem TuneAt.same {K:PySem.W.Frag} {H H':Hp} {t m l:Addr} {mt:Int×Int} {xs:List V} {bs:List (List Nt)} (h:TuneAt K H t m l mt xs bs) (s:Same H H'):TuneAt K H' t m l mt xs bs:=⟨s.at h.1,s.at h.2.1,s _ _ h.2.2.1,h.2.2.2.same s⟩
theorem ToneV.del {K:PySem.W.Frag} {H:Hp} {v:V} {c:Addr} {φ:Heap→Prop} (e:H c=some (.ext φ)):∀ {o:Option Tn},ToneV K H v o→ToneV K (L2.del H c) v o
 | none,h=>h
 | some (.num _),h=>h
 | some (.row _),⟨a,h1,h2,h3⟩=>⟨a,h1,sqT_del h2 e,h3⟩
theorem NoteAt.del {K:PySem.W.Frag} {H:Hp} {v:V} {n:Nt} {c:Addr} {φ:Heap→Prop} (h:NoteAt K H v n) (e:H c=some (.ext φ)):NoteAt K (L2.del H c) v n:=by
 obtain ⟨a,t,l,h1,h2,h3,h4⟩:=h
 exact⟨a,t,l,h1,sqT_del h2 e,h3.del e,sqT_del h4 e⟩
theorem NotesL.del {K:PySem.W.Frag} {H:Hp} {c:Addr} {φ:Heap→Prop} (e:H c=some (.ext φ)):∀ {xs:List V} {ns:List Nt},NotesL K H xs ns→NotesL K (L2.del H c) xs ns
 | _,_,.nil=>.nil
 | _,_,.cons h t=>.cons (h.del e) (t.del e)
theorem lst_del {H:Hp} {a c:Addr} {φ:Heap→Prop} {xs:List V} (h:H a=some (.lst xs)) (e:H c=some (.ext φ)):L2.del H c a=some (.lst xs):=by
 rw [del_ne (fun z=>by rw [z,e] at h;cases h)]
 exact h
theorem BarsL.del {K:PySem.W.Frag} {H:Hp} {c:Addr} {φ:Heap→Prop} (e:H c=some (.ext φ)):∀ {xs:List V} {bs:List (List Nt)},BarsL K H xs bs→BarsL K (L2.del H c) xs bs
 | _,_,.nil=>.nil
 | _,_,.cons h hn t=>.cons (lst_del h e) (hn.del e) (t.del e)
theorem TuneAt.del {K:PySem.W.Frag} {H:Hp} {t m l c:Addr} {φ:Heap→Prop} {mt:Int×Int} {xs:List V} {bs:List (List Nt)} (h:TuneAt K H t m l mt xs bs) (e:H c=some (.ext φ)):TuneAt K (L2.del H c) t m l mt xs bs:=⟨sqT_del h.1 e,sqT_del h.2.1 e,lst_del h.2.2.1 e,h.2.2.2.del e⟩
theorem ToneV.keep {K:PySem.W.Frag} {H H':Hp} {v:V} (tb:TabK K H) (s:SmT K H H'):∀ {o:Option Tn},ToneV K H v o→ToneV K H' v o
 | none,h=>h
 | some (.num _),h=>h
 | some (.row _),⟨a,h1,h2,h3⟩=>⟨a,h1,s.at tb h2,h3⟩
theorem NotesL.keep {K:PySem.W.Frag} {H H':Hp} (tb:TabK K H) (s:SmT K H H'):∀ {xs:List V} {ns:List Nt},NotesL K H xs ns→NotesL K H' xs ns
 | _,_,.nil=>.nil
 | _,_,.cons ⟨a,t,l,h1,h2,h3,h4⟩ tl=>.cons ⟨a,t,l,h1,s.at tb h2,h3.keep tb s,s.at tb h4⟩ (tl.keep tb s)
theorem BarsL.keep {K:PySem.W.Frag} {H H':Hp} (tb:TabK K H) (s:SmT K H H'):∀ {xs:List V} {bs:List (List Nt)},BarsL K H xs bs→BarsL K H' xs bs
 | _,_,.nil=>.nil
 | _,_,.cons h hn t=>.cons (s.lst tb h) (hn.keep tb s) (t.keep tb s)
theorem clOf_key {cells:List (Str×Addr)} {y:Str}:∀ {names:List (Str×NameKind)} {acc:List (Str×Addr)},(names.all fun p=>!(p.2 == NameKind.free) || p.1 == y)=true→(∀ z c,acc.lookup z=some c→z=y)→∀ z c,(clOf cells names acc).lookup z=some c→z=y
 | [],acc,_,h,z,c,e=>h z c e
 | (n,k)::r,acc,ha,h,z,c,e=>by
  rw [List.all_cons,Bool.and_eq_true] at ha
  refine clOf_key (names:=r) ha.2 (fun z c q=>?_) z c e
  by_cases hk:(k == NameKind.free)=true
  ·rw [if_pos hk] at q
   cases hl:cells.lookup n with
   | none=>rw [hl] at q;exact h z c q
   | some c0 =>
    rw [hl] at q
    simp only [List.lookup_cons] at q
    by_cases hz:(z == n)=true
    ·have:=ha.1
     rw [hk] at this
     rw [eq_of_beq hz]
     exact eq_of_beq (by simpa using this)
    ·rw [Bool.not_eq_true] at hz
     rw [hz] at q
     exact h z c q
  ·rw [if_neg hk] at q
   exact h z c q
theorem clOf_one {cells:List (Str×Addr)} {y:Str} {c:Addr} {names:List (Str×NameKind)} (h1:(names.all fun p=>!(p.2 == NameKind.free) || p.1 == y)=true) (h2:(y,NameKind.free)∈names) (h3:cells.lookup y=some c):(∀ z c0,(clOf cells names []).lookup z=some c0→z=y∧c0=c)∧(clOf cells names []).lookup y=some c:=by
 have hs:∀ x c,(clOf cells names []).lookup x=some c→cells.lookup x=some c:=clOf_sub (fun x c q=>by simp at q)
 have hk:∀ z c,(clOf cells names []).lookup z=some c→z=y:=clOf_key h1 (fun z c q=>by simp at q)
 obtain ⟨c1,e1⟩:=Option.isSome_iff_exists.mp (clOf_has (cells:=cells) (names:=names) (acc:=[]) (x:=y) (.inr ⟨h2,by rw [h3];rfl⟩))
 have e2:=hs y c1 e1
 rw [h3] at e2
 cases e2
 refine⟨fun z c0 e=>?_,e1⟩
 have ez:=hk z c0 e
 subst ez
 rw [e1] at e
 cases e
 exact⟨rfl,rfl⟩
noncomputable def Alk (K:PySem.W.Frag):Nat→Hp→V→V→Prop
 | 0,_,_,_=>False
 | n+1,H,x,y=>(x=.non∧y=.non)∨(∃ s:Str,x=.str s∧y=.str s)∨(∃ i:Int,x=.int i∧y=.int i)∨(∃ (a b:Addr) (xs ys:List V),x=.ref a∧y=.ref b∧((SqT K H a xs∧SqT K H b ys)∨(H a=some (.lst xs)∧H b=some (.lst ys)))∧xs.length=ys.length∧xs.length≤1000∧∀ (i:Nat) (x' y':V),xs[i]?=some x'→ys[i]?=some y'→Alk K n H x' y')
theorem Alk.same {K:PySem.W.Frag} {H H':Hp} (s:Same H H'):∀ {n:Nat} {x y:V},Alk K n H x y→Alk K n H' x y
 | n+1,_,_,.inl h=>.inl h
 | n+1,_,_,.inr (.inl h)=>.inr (.inl h)
 | n+1,_,_,.inr (.inr (.inl h))=>.inr (.inr (.inl h))
 | n+1,_,_,.inr (.inr (.inr ⟨a,b,xs,ys,h1,h2,h3,h4,h5,h6⟩))=>.inr (.inr (.inr ⟨a,b,xs,ys,h1,h2,h3.imp (fun z=>⟨s.at z.1,s.at z.2⟩) (fun z=>⟨s _ _ z.1,s _ _ z.2⟩),h4,h5,fun i x' y' e1 e2=>(h6 i x' y' e1 e2).same s⟩))
theorem TuneAt.keep {K:PySem.W.Frag} {H H':Hp} {t m l:Addr} {mt:Int×Int} {xs:List V} {bs:List (List Nt)} (h:TuneAt K H t m l mt xs bs) (tb:TabK K H) (s:SmT K H H'):TuneAt K H' t m l mt xs bs:=⟨s.at tb h.1,s.at tb h.2.1,s.lst tb h.2.2.1,h.2.2.2.keep tb s⟩
theorem alk_int {K:PySem.W.Frag} {H:Hp} {n:Nat} (i:Int):Alk K (n+1) H (.int i) (.int i):=.inr (.inr (.inl ⟨i,rfl,rfl⟩))
theorem alk_row {K:PySem.W.Frag} {H:Hp} {n:Nat} {a b:Addr} {r:List Int} (h1:SqT K H a (r.map V.int)) (h2:SqT K H b (r.map V.int)) (h:r.length≤1000):Alk K (n+2) H (.ref a) (.ref b) :=
 .inr (.inr (.inr ⟨a,b,_,_,rfl,rfl,.inl ⟨h1,h2⟩,rfl,by rw [List.length_map];exact h,fun i x y e1 e2=>by
  rw [e1] at e2
  cases e2
  obtain ⟨rfl,_⟩:=int_get e1
  exact alk_int _⟩))
theorem alk_two {K:PySem.W.Frag} {H:Hp} {n:Nat} {a b:Addr} {x y x' y':V} (h1:SqT K H a [x,y]) (h2:SqT K H b [x',y']) (h3:Alk K n H x x') (h4:Alk K n H y y'):Alk K (n+1) H (.ref a) (.ref b) :=
 .inr (.inr (.inr ⟨a,b,_,_,rfl,rfl,.inl ⟨h1,h2⟩,rfl,by show 2≤1000;decide,fun i u v e1 e2=>by
  match i,e1,e2 with
  | 0,e1,e2=>cases e1;cases e2;exact h3
  | 1,e1,e2=>cases e1;cases e2;exact h4
  | i+2,e1,_=>simp at e1⟩))
theorem alk_tone {K:PySem.W.Frag} {H:Hp} {n:Nat} {v w:V}:∀ {o:Option Tn},ToneV K H v o→ToneV K H w o→Alk K (n+2) H v w
 | none,h1,h2=>.inl ⟨h1,h2⟩
 | some (.num i),h1,h2=>by
  have e1:v=.int i:=h1
  have e2:w=.int i:=h2
  rw [e1,e2]
  exact alk_int i
 | some (.row _),⟨a,h1,h2,h3⟩,⟨b,h4,h5,_⟩=>by
  rw [h1,h4]
  exact alk_row h2 h5 (by lia)
theorem alk_note {K:PySem.W.Frag} {H:Hp} {n:Nat} {v w:V} {q:Nt} (h1:NoteAt K H v q) (h2:NoteAt K H w q):Alk K (n+3) H v w:=by
 obtain ⟨a,t,l,rfl,g1,g2,g3⟩:=h1
 obtain ⟨a',t',l',rfl,g4,g5,g6⟩:=h2
 exact alk_two g1 g4 (alk_tone g2 g5) (alk_row (r:=[q.2.1,q.2.2]) g3 g6 (by show 2≤1000;decide))
theorem alk_bar {K:PySem.W.Frag} {H:Hp} {n:Nat} {a b:Addr} {xs ys:List V} {ns:List Nt} (h1:H a=some (.lst xs)) (h2:H b=some (.lst ys)) (g1:NotesL K H xs ns) (g2:NotesL K H ys ns) (h:ns.length≤100):Alk K (n+4) H (.ref a) (.ref b):=by
 have l1:=g1.length
 have l2:=g2.length
 refine .inr (.inr (.inr ⟨a,b,_,_,rfl,rfl,.inr ⟨h1,h2⟩,by lia,by lia,fun i x y e1 e2=>?_⟩))
 obtain ⟨q,q1,q2⟩:=g1.get e1
 obtain ⟨q',q3,q4⟩:=g2.get e2
 rw [q2] at q4
 cases q4
 exact alk_note q1 q3
theorem alk_tune {K:PySem.W.Frag} {H:Hp} {n:Nat} {t m l t' m' l':Addr} {mt:Int×Int} {xs ys:List V} {bs:List (List Nt)} (h1:TuneAt K H t m l mt xs bs) (h2:TuneAt K H t' m' l' mt ys bs) (h:bs.length≤100) (hn:∀ ns∈bs,ns.length≤100):Alk K (n+6) H (.ref t) (.ref t'):=by
 have l1:=h1.2.2.2.length
 have l2:=h2.2.2.2.length
 refine alk_two h1.1 h2.1 (alk_row (r:=[mt.1,mt.2]) h1.2.1 h2.2.1 (by show 2≤1000;decide)) (.inr (.inr (.inr ⟨l,l',_,_,rfl,rfl,.inr ⟨h1.2.2.1,h2.2.2.1⟩,by lia,by lia,fun i x y e1 e2=>?_⟩)))
 obtain ⟨a,zs,ns,rfl,q1,q2,q3⟩:=h1.2.2.2.get e1
 obtain ⟨a',zs',ns',rfl,q4,q5,q6⟩:=h2.2.2.2.get e2
 rw [q3] at q6
 cases q6
 exact alk_bar q1 q4 q2 q5 (hn _ (List.mem_of_getElem? q3))
theorem BarsL.head {K:PySem.W.Frag} {H:Hp}:∀ {xs:List V} {bs:List (List Nt)},BarsL K H xs bs→1≤bs.length→∃ (a:Addr) (zs xs':List V),xs=.ref a::xs'∧H a=some (.lst zs)
 | _,_,.nil,h=>by simp at h
 | _,_,.cons h _ _,_=>⟨_,_,_,rfl,h⟩
noncomputable def sx (r:Int) (cf:Nat→Int) (st:List Int):Nat→Int
 | 0=>r
 | i+1=>sx r cf st i+cf i*st.getD i 0
noncomputable def lenOk (l:Int×Int):Prop:=∃ t b:Nat,l=((t:Int),(b:Int))∧t≤9999∧b≤9999
noncomputable def smR (r:List Int):Prop:=∃ t0 t1 t2 t3 t4:Int,r=[t0,t1,t2,t3,t4]∧(-100≤t0∧t0≤100)∧(-30≤t1∧t1≤30)∧(-1≤t2∧t2≤1)∧(-1≤t3∧t3≤1)∧(-1≤t4∧t4≤1)
noncomputable def smO:Option Tn→Prop
 | none=>True
 | some (.num _)=>False
 | some (.row r)=>smR r
noncomputable def TunOk (mt:Int×Int) (bs:List (List Nt)):Prop:=1≤bs.length∧bs.length≤12∧(∀ ns∈bs,1≤ns.length∧ns.length≤12∧∀ n∈ns,smO n.1∧lenOk n.2)∧lenOk mt
theorem len_low {t b:Nat} (h1:t≤9999) (h2:b≤9999):lenOk (((t / Nat.gcd t b:Nat):Int),((b / Nat.gcd t b:Nat):Int)):=⟨_,_,rfl,Nat.le_trans (Nat.div_le_self _ _) h1,Nat.le_trans (Nat.div_le_self _ _) h2⟩
theorem rows_del {K:PySem.W.Frag} {H:Hp} {c:Addr} {φ:Heap→Prop} (e:H c=some (.ext φ)):∀ {xs:List V} {rs:List (List Int)},RowsL K H xs rs→RowsL K (L2.del H c) xs rs
 | _,_,.nil=>.nil
 | _,_,.cons h u=>.cons (sqT_del h e) (rows_del e u)
theorem keys_del {K:PySem.W.Frag} {H:Hp} {c:Addr} {φ:Heap→Prop} (e:H c=some (.ext φ)):∀ {xs:List V} {ks:List (List Int×Int)},KeysL K H xs ks→KeysL K (L2.del H c) xs ks
 | _,_,.nil=>.nil
 | _,_,.cons h hw u=>.cons (sqT_del h e) (sqT_del hw e) (keys_del e u)
theorem ins_del {H:Hp} {a c C dx:Addr} {φ:Heap→Prop} {fs:List (Str×V)} (h:H a=some (.ins C dx fs)) (e:H c=some (.ext φ)):L2.del H c a=some (.ins C dx fs):=by
 rw [del_ne (fun z=>by rw [z,e] at h;cases h)]
 exact h
theorem TuAt.del {K:PySem.W.Frag} {H:Hp} {t l c:Addr} {φ:Heap→Prop} (e:H c=some (.ext φ)):∀ {u:Tu},TuAt K H t l u→TuAt K (L2.del H c) t l u
 | .plain,⟨C,dx,h1,h2⟩=>⟨C,dx,h1,ins_del h2 e⟩
 | .comma _,⟨C,dx,ys,h1,h2,h3,h4⟩=>⟨C,dx,ys,h1,ins_del h2 e,lst_del h3 e,rows_del e h4⟩
 | .key _,⟨C,dx,ys,h1,h2,h3,h4⟩=>⟨C,dx,ys,h1,ins_del h2 e,lst_del h3 e,keys_del e h4⟩
 | .board _,⟨C,dx,ys,h1,h2,h3,h4⟩=>⟨C,dx,ys,h1,ins_del h2 e,lst_del h3 e,keys_del e h4⟩
noncomputable def Snd:Tu→List Int→Tn→Prop
 | .plain,r,y=>y=.row r
 | .comma st,r,y=>∃ v,y=.row v∧Rst st r v
 | .key ks,r,y=>y=.row (ks.map fun k=>val k.1 k.2 r)
 | .board w,r,y=>y=.num (Mth.dt r w)
theorem Snd.uniq {u:Tu} (ho:u.ok) {r:List Int} (lr:r.length=5) {y z:Tn} (h:Snd u r y) (k:Snd u r z):y=z:=by
 cases u with
 | plain=>exact Eq.trans h (Eq.symm k)
 | comma st =>
  obtain ⟨v,rfl,hv⟩:=h
  obtain ⟨w,rfl,hw⟩:=k
  have:v=w:=(rst_iff ho.1 ho.2.1 lr lr hv hw).mpr (by rw [Mth.sub_self' lr];exact Mth.Span.zero)
  rw [this]
 | key ks=>exact Eq.trans h (Eq.symm k)
 | board w=>exact Eq.trans h (Eq.symm k)
noncomputable def sdR (u:Tu) (r:List Int):Tn:=@dite _ (∃ y,Snd u r y) (Classical.propDecidable _) (fun h=>h.choose) fun _=>.num 0
theorem sdR_eq {u:Tu} (ho:u.ok) {r:List Int} (lr:r.length=5) {y:Tn} (h:Snd u r y):sdR u r=y:=by
 have hx:∃ y,Snd u r y:=⟨y,h⟩
 unfold sdR
 rw [dif_pos hx]
 exact Snd.uniq ho lr hx.choose_spec h
noncomputable def sdO (u:Tu):Option Tn→Option Tn
 | some (.row r)=>some (sdR u r)
 | o=>o
noncomputable def sdN (u:Tu) (n:Nt):Nt:=(sdO u n.1,n.2)
noncomputable def rowN (n:Nt):Prop:=∀ t,n.1=some t→∃ r,t=.row r∧r.length=5∧Mth.BdM (2 ^ 20000) r
noncomputable abbrev LamS (H:Hp) (f cS x:Addr) (ob:Obj):Prop:=LamAt H f cS (.ref x) ob "sounds.<locals>.<lambda>" "tuning" (lamP sdE) (lamB sdE) (lamS sdE)
theorem logN {n:Nat} (h0:0<n) (h:n<2 ^ 9000):(n:Int).natAbs.log2<9000:=by
 have e:(n:Int).natAbs=n:=rfl
 rw [e]
 exact (Nat.log2_lt (by lia)).mpr h
theorem gcd_le {t b:Nat} (h:0<b):Nat.gcd t b≤b:=Nat.le_of_dvd h (Nat.gcd_dvd_right t b)
theorem led_mk {xs:List Int} {v:Int} {P m:Nat} (h:xs.length=P) (hv:0<v):Mth.Led (xs++[v]++List.replicate m 0) P:=by
 refine⟨?_,fun i hi=>?_⟩
 ·rw [List.getD,List.getElem?_append_left (by rw [List.length_append,h];show P<P+1;lia),List.getElem?_append_right (by lia),show P - xs.length=0 by lia]
  exact hv
 ·rw [List.getD,List.getElem?_append_right (by rw [List.length_append,h];show P+1≤i;lia),List.getElem?_replicate]
  split <;> rfl
structure Stp (rs:List (List Int)):Prop where
 ech:Mth.Ech rs
 len:Mth.Len 5 rs
 sm:∀ r∈rs,∀ x∈r,-3≤x∧x≤3
 cnt:rs.length≤3
theorem Stp.of {rs:List (List Int)} {pl:Nat→Nat} (h3:rs.length≤3) (hp:∀ i j,i<j→j<3→pl j<pl i) (h:∀ (j:Nat) (r:List Int),rs[j]?=some r→Mth.Led r (pl j)∧r.length=5∧∀ x∈r,-3≤x∧x≤3):Stp rs:=by
 have g:∀ r∈rs,∃ j,rs[j]?=some r:=fun r hr=>by
  obtain ⟨j,hj,e⟩:=List.getElem_of_mem hr
  exact⟨j,by rw [List.getElem?_eq_getElem hj,e]⟩
 refine⟨⟨fun r hr=>?_,?_⟩,fun r hr=>?_,fun r hr=>?_,h3⟩
 ·obtain ⟨j,hj⟩:=g r hr
  exact⟨_,(h j r hj).1⟩
 ·rw [List.pairwise_iff_getElem]
  intro i j hi hj hij k hk
  have e1:=(h i _ (List.getElem?_eq_getElem hi)).1
  have e2:=(h j _ (List.getElem?_eq_getElem hj)).1
  rw [← e2.uniq hk]
  exact⟨_,hp i j hij (by lia),e1⟩
 ·obtain ⟨j,hj⟩:=g r hr
  exact (h j r hj).2.1
 ·obtain ⟨j,hj⟩:=g r hr
  exact (h j r hj).2.2
noncomputable def RB (rs:List (List Int)) (i:Nat) (r v:List Int):Prop:=v.length=5∧Mth.Span 5 rs (Mth.sub r v)∧∀ (j:Nat) (s:List Int) (k:Nat),j<i→rs[j]?=some s→Mth.Led s k→0≤v.getD k 0∧v.getD k 0<s.getD k 0
theorem RB.step {rs:List (List Int)} {i k:Nat} {r v s:List Int} (h:RB rs i r v) (hs:Stp rs) (lr:r.length=5) (hi:rs[i]?=some s) (hk:Mth.Led s k):RB rs (i+1) r (Mth.low v s (v.getD k 0 / s.getD k 0)):=by
 obtain ⟨lv,h1,h2⟩:=h
 have hm:s∈rs:=List.mem_of_getElem? hi
 have ls:=hs.len s hm
 refine⟨Mth.low_len lv ls,?_,fun j s' k' hj hj' hk'=>?_⟩
 ·have e:Mth.sub r (Mth.low v s (v.getD k 0 / s.getD k 0))=Mth.low (Mth.sub r v) s (-(v.getD k 0 / s.getD k 0)):=Mth.ext_at (Mth.sub_len lr (Mth.low_len lv ls)) (Mth.low_len (Mth.sub_len lr lv) ls) fun n _=>by
   rw [Mth.sub_at lr (Mth.low_len lv ls),Mth.low_at lv ls,Mth.low_at (Mth.sub_len lr lv) ls,Mth.sub_at lr lv,Int.mul_neg]
   lia
  rw [e]
  exact Mth.Span.low (Mth.sub_len lr lv) ls h1 (Mth.Span.mem hm) _
 ·rw [Mth.low_at lv ls]
  by_cases hji:j=i
  ·subst hji
   rw [hi] at hj'
   cases hj'
   rw [hk.uniq hk'] at *
   have e1:=Int.emod_nonneg (v.getD k' 0) (show s.getD k' 0≠0 by have:=hk'.1;lia)
   have e2:=Int.emod_lt_of_pos (v.getD k' 0) hk'.1
   have e3:=Int.emod_add_mul_ediv (v.getD k' 0) (s.getD k' 0)
   lia
  ·obtain ⟨hi1,hi2⟩:=List.getElem?_eq_some_iff.mp hi
   obtain ⟨hj1,hj2⟩:=List.getElem?_eq_some_iff.mp hj'
   obtain ⟨q,q1,q2⟩:=List.pairwise_iff_getElem.mp hs.ech.2 j i hj1 hi1 (by lia) k (by rw [hi2];exact hk)
   rw [hj2] at q2
   have e0:s.getD k' 0=0:=hk.2 k' (by rw [← q2.uniq hk'];exact q1)
   rw [e0,Int.zero_mul,Int.sub_zero]
   exact h2 j s' k' (by lia) hj' hk'
theorem mulb {q s B:Int} (h1:-B≤q∧q≤B) (h2:-3≤s∧s≤3):-(3*B)≤q*s∧q*s≤3*B:=by
 rcases (show s=-3∨s=-2∨s=-1∨s=0∨s=1∨s=2∨s=3 by lia) with rfl|rfl|rfl|rfl|rfl|rfl|rfl <;> lia
theorem zip_low {v s:List Int} (q:Int) (lv:v.length=5) (ls:s.length=5):List.zipWith (fun x y=>x - q*y) v s=Mth.low v s q:=by
 refine Mth.ext_at (n:=5) (by simp [lv,ls]) (Mth.low_len lv ls) fun i hi=>?_
 rw [Mth.low_at lv ls]
 simp [List.getD,List.getElem?_zipWith,List.getElem?_eq_getElem (show i<v.length by lia),List.getElem?_eq_getElem (show i<s.length by lia),Int.mul_comm]
theorem keys_ins {K:PySem.W.Frag} {H:Hp} {x C dx:Addr} {fs:List (Str×V)} {o:HO}:∀ {xs:List V} {ks:List (List Int×Int)},KeysL K H xs ks→H x=some (.ins C dx fs)→KeysL K (upd H x o) xs ks
 | _,_,.nil,_=>.nil
 | _,_,.cons h hw t,e=>.cons (sqT_ins h e) (sqT_ins hw e) (keys_ins t e)
theorem rows_ins {K:PySem.W.Frag} {H:Hp} {x C dx:Addr} {fs:List (Str×V)} {o:HO}:∀ {xs:List V} {rs:List (List Int)},RowsL K H xs rs→H x=some (.ins C dx fs)→RowsL K (upd H x o) xs rs
 | _,_,.nil,_=>.nil
 | _,_,.cons h t,e=>.cons (sqT_ins h e) (rows_ins t e)
theorem board_at {K:PySem.W.Frag} {H1:Hp} {x l C dx:Addr} {a:List (Str×V)} {ys:List V} {w:List Int} (hC:PySem.W.nsIn K mainGlobals "Board"=some (some (.ref C))) (hx:H1 x=some (.ins C dx [])) (m:H1 l=some (.lst ys)) (kk:KeysL K H1 ys [(w,0)]) :
  TuAt K (upd (upd H1 x (.ins C dx a)) x (.ins C dx [("own_keys",.ref l),("octave",.int (w.getD 0 0))])) x l (.board w):=by
 have ne:l≠x:=fun z=>by rw [z,hx] at m;cases m
 exact⟨C,dx,ys,hC,upd_same,by rw [upd_ne ne,upd_ne ne];exact m,keys_ins (keys_ins kk hx) upd_same⟩
theorem board_same {H H1:Hp} {x C dx:Addr} {o o':HO} (nx:H x=none) (nd:H dx=none) (s:Same (upd (upd H dx (.own x)) x (.ins C dx [])) H1):Same H (upd (upd H1 x o) x o'):=fun b v e=>by
 have n1:b≠x:=fun z=>by rw [z,nx] at e;cases e
 rw [upd_ne n1,upd_ne n1]
 exact s _ _ (mk_same nx nd _ _ e)
inductive Kd where
 | plain (w:List Int):Kd
 | steps (rs:List (List Int)):Kd
 | keys (ks:List (List Int×Int)):Kd
 | board (w:List Int):Kd
noncomputable def Kd.num:Kd→Int
 | .plain _=>0
 | .steps _=>1
 | .keys _=>2
 | .board _=>3
noncomputable def ToldAt (K:PySem.W.Frag) (H:Hp) (a:Addr):Kd→Prop
 | .plain w=>SqT K H a (w.map V.int)
 | .steps rs=>∃ ys,H a=some (.lst ys)∧LstsL H ys rs∧∀ x∈ys,x≠V.ref a
 | .keys ks=>∃ ys,H a=some (.lst ys)∧KeysL K H ys ks
 | .board w=>SqT K H a (w.map V.int)
noncomputable def Kd.ok:Kd→Prop
 | .plain w=>w.length=5
 | .steps rs=>Stp rs
 | .keys ks=>ks.length≤3∧∀ k∈ks,k.1.length=5∧(∀ x∈k.1,-10≤x∧x≤10)∧(k.2=0∨2≤k.2)∧k.2≤12
 | .board w=>w.length=5∧1≤w.getD 0 0∧∀ x∈w,-30≤x∧x≤30
theorem ToldAt.same {K:PySem.W.Frag} {H H':Hp} {a:Addr} (s:Same H H'):∀ {d:Kd},ToldAt K H a d→ToldAt K H' a d
 | .plain _,h=>s.at h
 | .steps _,⟨ys,h1,h2,h3⟩=>⟨ys,s _ _ h1,h2.same s,h3⟩
 | .keys _,⟨ys,h1,h2⟩=>⟨ys,s _ _ h1,h2.same s⟩
 | .board _,h=>s.at h
theorem ToldAt.keep {K:PySem.W.Frag} {H H':Hp} {a:Addr} (tb:TabK K H) (s:SmT K H H'):∀ {d:Kd},ToldAt K H a d→ToldAt K H' a d
 | .plain _,h=>s.at tb h
 | .steps _,⟨ys,h1,h2,h3⟩=>⟨ys,s.lst tb h1,h2.sameS s tb,h3⟩
 | .keys _,⟨ys,h1,h2⟩=>⟨ys,s.lst tb h1,h2.sameS s tb⟩
 | .board _,h=>s.at tb h
noncomputable def Dsn:Kd→List Int→Tn→Prop
 | .plain _,r,y=>y=.row r
 | .steps rs,r,y=>∃ v,y=.row v∧RB rs rs.length r v
 | .keys ks,r,y=>y=.row (ks.map fun k=>val k.1 k.2 r)
 | .board w,r,y=>y=.num (val w 0 r)
theorem rb_rst {rs st:List (List Int)} {r v:List Int} (hs:Stp rs) (sf:Mth.SF st) (hl:Mth.Len 5 st) (he:Mth.Eqv 5 rs st) (h:RB rs rs.length r v):Rst st r v:=by
 refine⟨h.1,he.span h.2.1,fun s hm k hk=>?_⟩
 have sz:s≠Mth.zer 5:=fun z=>by
  have:=hk.1
  rw [z,Mth.zer_at] at this
  lia
 obtain ⟨t,ht,k',c,p1,p2,p3,p4⟩:=hs.ech.top hs.len (he.2 s hm) sz
 have g3:=p1.1
 have ek:k'=k:=by
  rcases Nat.lt_trichotomy k' k with z|z|z
  ·have:=p4 k z
   have:=hk.1
   lia
  ·exact z
  ·have e1:=hk.2 k' z
   rw [e1] at p2
   rcases Mth.mul_ge p1.1 p3 with w|w <;> lia
 subst ek
 obtain ⟨j,hj,e⟩:=List.getElem_of_mem ht
 have b:=h.2.2 j t k' hj (by rw [List.getElem?_eq_getElem hj,e]) p1
 have:=hk.1
 rcases Mth.mul_ge p1.1 p3 with w|w <;> lia
noncomputable def Lnk (d:Kd) (u:Tu):Prop:=∀ r y,smR r→Dsn d r y→Snd u r y
theorem bd_of {M:Nat} {w:List Int} {b:Int} (h:∀ x∈w,-b≤x∧x≤b) (hb:b.toNat≤M):Mth.BdM M w:=bd_mem fun x hx=>by
 have:=h x hx
 lia
theorem smR.len {r:List Int} (h:smR r):r.length=5:=by
 obtain ⟨_,_,_,_,_,rfl,_⟩:=h
 rfl
theorem smR.bd {r:List Int} (h:smR r):∀ x∈r,-200≤x∧x≤200:=by
 obtain ⟨_,_,_,_,_,rfl,b⟩:=h
 intro x hx
 simp only [List.mem_cons,List.not_mem_nil,or_false] at hx
 rcases hx with rfl|rfl|rfl|rfl|rfl <;> lia
noncomputable def CmI (H:Hp) (pl:Addr) (zs:List V) (rs qs:List (List Int)) (B:Int):Prop:=H pl=some (.lst zs)∧LstsL H zs qs∧(∀ x∈zs,x≠V.ref pl)∧Mth.Eqv 5 rs qs∧Mth.Len 5 qs∧qs.length=rs.length∧∀ v∈qs,∀ x∈v,-B≤x∧x≤B
theorem eqv_set {qs:List (List Int)} {i j:Nat} {u v:List Int} (hl:Mth.Len 5 qs) (hi:qs[i]?=some u) (hj:qs[j]?=some v) (ne:i≠j) (q:Int):Mth.Eqv 5 qs (qs.set i (Mth.low u v q)):=by
 have hu:=List.mem_of_getElem? hi
 have hv:=List.mem_of_getElem? hj
 have hil:=(List.getElem?_eq_some_iff.mp hi).1
 have hnew:Mth.low u v q∈qs.set i (Mth.low u v q):=List.mem_of_getElem? (i:=i) (by rw [List.getElem?_set_self hil])
 have hvn:v∈qs.set i (Mth.low u v q):=List.mem_of_getElem? (i:=j) (by rw [List.getElem?_set_ne ne];exact hj)
 refine⟨fun r hr=>?_,fun r hr=>?_⟩
 ·obtain ⟨n,hn,e⟩:=List.getElem_of_mem hr
  by_cases z:n=i
  ·subst z
   have:u=r:=by rw [List.getElem?_eq_getElem hn,e] at hi;exact (Option.some.inj hi).symm
   rw [← this]
   exact Mth.Span.unlow (hl u hu) (hl v hv) (Mth.Span.mem hnew) (Mth.Span.mem hvn)
  ·exact Mth.Span.mem (List.mem_of_getElem? (i:=n) (by rw [List.getElem?_set_ne (Ne.symm z),List.getElem?_eq_getElem hn,e]))
 ·rcases List.mem_or_eq_of_mem_set hr with z|z
  ·exact Mth.Span.mem z
  ·rw [z]
   exact Mth.Span.low (hl u hu) (hl v hv) (Mth.Span.mem hu) (Mth.Span.mem hv) q
theorem eqv_neg {qs:List (List Int)} {i:Nat} {u:List Int} (hl:Mth.Len 5 qs) (hi:qs[i]?=some u):Mth.Eqv 5 qs (qs.set i (Mth.mulv u (-1))):=by
 have hu:=List.mem_of_getElem? hi
 have hil:=(List.getElem?_eq_some_iff.mp hi).1
 have hnew:Mth.mulv u (-1)∈qs.set i (Mth.mulv u (-1)):=List.mem_of_getElem? (i:=i) (by rw [List.getElem?_set_self hil])
 refine⟨fun r hr=>?_,fun r hr=>?_⟩
 ·obtain ⟨n,hn,e⟩:=List.getElem_of_mem hr
  by_cases z:n=i
  ·subst z
   have:u=r:=by rw [List.getElem?_eq_getElem hn,e] at hi;exact (Option.some.inj hi).symm
   rw [← this]
   have h2:=Mth.Span.neg (Mth.mulv_len (hl u hu)) (Mth.Span.mem (n:=5) hnew)
   have e2:Mth.mulv (Mth.mulv u (-1)) (-1)=u:=Mth.ext_at (Mth.mulv_len (Mth.mulv_len (hl u hu))) (hl u hu) fun n _=>by
    rw [Mth.mulv_at,Mth.mulv_at]
    lia
   rw [e2] at h2
   exact h2
  ·exact Mth.Span.mem (List.mem_of_getElem? (i:=n) (by rw [List.getElem?_set_ne (Ne.symm z),List.getElem?_eq_getElem hn,e]))
 ·rcases List.mem_or_eq_of_mem_set hr with z|z
  ·exact Mth.Span.mem z
  ·rw [z]
   exact Mth.Span.neg (hl u hu) (Mth.Span.mem hu)
theorem lsts_take {H:Hp}:∀ {zs:List V} {qs:List (List Int)} (i:Nat),LstsL H zs qs→LstsL H (zs.take i) (qs.take i)
 | _,_,0,_=>by rw [List.take_zero,List.take_zero];exact .nil
 | _,_,_+1,.nil=>.nil
 | _,_,i+1,.cons h t=>.cons h (lsts_take i t)
theorem lsts_set {H:Hp} {p:Addr} {r:List Int} (h:H p=some (.lst (r.map V.int))):∀ {zs:List V} {qs:List (List Int)} (i:Nat),LstsL H zs qs→LstsL H (zs.set i (.ref p)) (qs.set i r)
 | _,_,_,.nil=>.nil
 | _,_,0,.cons _ t=>.cons h t
 | _,_,i+1,.cons h1 t=>.cons h1 (lsts_set h i t)
structure Adr where
 a_NoBoard:Addr
 a_Tuning:Addr
 a_CommaTuning:Addr
 a_KeyTuning:Addr
 a_Board:Addr
 f_Tuning_sound:Addr
 f_CommaTuning_init:Addr
 f_CommaTuning_sound:Addr
 f_KeyTuning_init:Addr
 f_KeyTuning_sound:Addr
 f_Board_init:Addr
 f_Board_sound:Addr
 t_MOST_COMMAS:Tok
 t_MOST_KEYS:Tok
 t_WIDTH:Tok
 c_lam_parted:Addr
 c_lam_sounds:Addr
structure Txt (K:PySem.W.Frag) (mg:Str→Option Value) (G:Adr):Prop where
 b_abs:mg "abs"=none
 b_bool:mg "bool"=none
 b_enumerate:mg "enumerate"=none
 b_int:mg "int"=none
 b_isinstance:mg "isinstance"=none
 b_len:mg "len"=none
 b_list:mg "list"=none
 b_max:mg "max"=none
 b_range:mg "range"=none
 b_sorted:mg "sorted"=none
 b_str:mg "str"=none
 b_sum:mg "sum"=none
 b_tuple:mg "tuple"=none
 b_zip:mg "zip"=none
 g_MOST_COMMAS:mg "MOST_COMMAS"=some (.int 6 G.t_MOST_COMMAS)
 g_MOST_KEYS:mg "MOST_KEYS"=some (.int 6 G.t_MOST_KEYS)
 g_WIDTH:mg "WIDTH"=some (.int 5 G.t_WIDTH)
 g_NoBoard:mg "NoBoard"=some (.ref G.a_NoBoard)
 m_NoBoard:PySem.W.nsIn K mainGlobals "NoBoard"=some (some (.ref G.a_NoBoard))
 h_NoBoard:HCls K G.a_NoBoard
 x_NoBoard:XCls K G.a_NoBoard
 i_NoBoard:PySem.W.excIn K G.a_NoBoard [.type "ValueError",.type "Exception",.type "BaseException",.type "object"] "ValueError.__new__"=true
 g_Tuning:mg "Tuning"=some (.ref G.a_Tuning)
 w_Tuning:PySem.W.nsIn K mainGlobals "Tuning"=some (some (.ref G.a_Tuning))
 c_Tuning:Cls K G.a_Tuning
 k0_Tuning:Mk0 K G.a_Tuning
 o_Tuning:OwnX K G.a_Tuning
 m_Tuning_sound:Meth K G.a_Tuning "sound" G.f_Tuning_sound
 g_CommaTuning:mg "CommaTuning"=some (.ref G.a_CommaTuning)
 w_CommaTuning:PySem.W.nsIn K mainGlobals "CommaTuning"=some (some (.ref G.a_CommaTuning))
 c_CommaTuning:Cls K G.a_CommaTuning
 k_CommaTuning:Mk K G.a_CommaTuning G.f_CommaTuning_init
 o_CommaTuning:OwnX K G.a_CommaTuning
 m_CommaTuning_sound:Meth K G.a_CommaTuning "sound" G.f_CommaTuning_sound
 n_CommaTuning_steps:NoAttr K G.a_CommaTuning "steps"
 g_KeyTuning:mg "KeyTuning"=some (.ref G.a_KeyTuning)
 w_KeyTuning:PySem.W.nsIn K mainGlobals "KeyTuning"=some (some (.ref G.a_KeyTuning))
 c_KeyTuning:Cls K G.a_KeyTuning
 k_KeyTuning:Mk K G.a_KeyTuning G.f_KeyTuning_init
 o_KeyTuning:OwnX K G.a_KeyTuning
 m_KeyTuning_sound:Meth K G.a_KeyTuning "sound" G.f_KeyTuning_sound
 j_KeyTuning_init:ClsM K G.a_KeyTuning "__init__" G.f_KeyTuning_init
 n_KeyTuning_own_keys:NoAttr K G.a_KeyTuning "own_keys"
 g_Board:mg "Board"=some (.ref G.a_Board)
 w_Board:PySem.W.nsIn K mainGlobals "Board"=some (some (.ref G.a_Board))
 c_Board:Cls K G.a_Board
 k_Board:Mk K G.a_Board G.f_Board_init
 o_Board:OwnX K G.a_Board
 m_Board_sound:Meth K G.a_Board "sound" G.f_Board_sound
 n_Board_own_keys:NoAttr K G.a_Board "own_keys"
 n_Board_octave:NoAttr K G.a_Board "octave"
noncomputable def sp_over (K:PySem.W.Frag):Sp:=fun vs H Q _=>∃ (a b:Addr) (r q:List Int),vs=[.ref a,.ref b]∧SqT K H a (r.map V.int)∧SqT K H b (q.map V.int)∧r.length=q.length∧r.length≤1000∧∀ p H',Same H H'→H' p=some (.tup ((Mth.sub r q).map V.int))→Q (.ref p) H'
noncomputable def sp_power (K:PySem.W.Frag):Sp:=fun vs H Q _=>∃ (a:Addr) (r:List Int) (n:Int),vs=[.ref a,.int n]∧SqT K H a (r.map V.int)∧r.length≤1000∧(∀ x∈r,CMulW x n)∧∀ p H',Same H H'→H' p=some (.tup ((Mth.mulv r n).map V.int))→Q (.ref p) H'
noncomputable def sp_note_changed (K:PySem.W.Frag):Sp:=fun vs H Q E=>∃ (a f cS x l0:Addr) (ob:Obj) (n:Nt) (u:Tu),vs=[.ref a,.ref f]∧NoteAt K H (.ref a) n∧rowN n∧LamS H f cS x ob∧TuAt K H x l0 u∧u.ok∧∀ p H',Same H H'→NoteAt K H' (.ref p) (sdN u n)→Q (.ref p) H'
noncomputable def sp_bar_changed (K:PySem.W.Frag):Sp:=fun vs H Q E=>∃ (a f cS x l0:Addr) (ob:Obj) (xs:List V) (ns:List Nt) (u:Tu),vs=[.ref a,.ref f]∧SqL K H a xs∧NotesL K H xs ns∧ns.length≤100∧(∀ n∈ns,rowN n)∧LamS H f cS x ob∧TuAt K H x l0 u∧u.ok∧∀ l' H' ys,H l'=none→Same H H'→H' l'=some (.lst ys)→NotesL K H' ys (ns.map (sdN u))→Q (.ref l') H'
noncomputable def sp_changed (K:PySem.W.Frag):Sp:=fun vs H Q E=>∃ (a m l f cS x l0:Addr) (mt:Int×Int) (ob:Obj) (xs:List V) (bs:List (List Nt)) (u:Tu),vs=[.ref a,.ref f]∧TuneAt K H a m l mt xs bs∧bs.length≤100∧(∀ ns∈bs,ns.length≤100∧∀ n∈ns,rowN n)∧LamS H f cS x ob∧TuAt K H x l0 u∧u.ok∧∀ t' l' H' ys,H l'=none→Same H H'→(∀ x∈ys,∃ b,x=V.ref b∧H b=none)→TuneAt K H' t' m l' mt ys (bs.map fun ns=>ns.map (sdN u))→Q (.ref t') H'
noncomputable def sp_sounds (K:PySem.W.Frag):Sp:=fun vs H Q E=>∃ (a m l x l0:Addr) (mt:Int×Int) (xs:List V) (bs:List (List Nt)) (u:Tu),vs=[.ref x,.ref a]∧TuneAt K H a m l mt xs bs∧bs.length≤100∧(∀ ns∈bs,ns.length≤100∧∀ n∈ns,rowN n)∧TuAt K H x l0 u∧u.ok∧TabK K H∧∀ t' l' H' ys,H l'=none→SmT K H H'→TabK K H'→(∀ x∈ys,∃ b,x=V.ref b∧H b=none)→TuneAt K H' t' m l' mt ys (bs.map fun ns=>ns.map (sdN u))→Q (.ref t') H'
noncomputable def sp_checked_commas (K:PySem.W.Frag):Sp:=fun vs H Q _=>∃ (l:Addr) (ys:List V),vs=[.ref l]∧SqL K H l ys∧ys.length≤6∧Q (.ref l) H
noncomputable def sp_lead_place (K:PySem.W.Frag):Sp:=fun vs H Q _=>∃ (a:Addr) (r:List Int) (k:Nat),vs=[.ref a]∧SqT K H a (r.map V.int)∧r.length≤1000∧Mth.Led r k∧∀ H',Same H H'→Q (.int k) H'
noncomputable def sp_lowered (K:PySem.W.Frag):Sp:=fun vs H Q _=>∃ (a b:Addr) (p n M k:Nat) (v s:List Int),vs=[.ref a,.ref b,.int p]∧SqT K H a (v.map V.int)∧SqT K H b (s.map V.int)∧v.length=n∧s.length=n∧n≤1000∧p<n∧s.getD p 0≠0∧Mth.BdM M v∧Mth.BdM M s∧M<2 ^ k∧k≤60000000∧∀ p' H',Same H H'→H' p'=some (.tup ((Mth.low1 p s v).map V.int))→Q (.ref p') H'
noncomputable def sp_parted (K:PySem.W.Frag):Sp:=fun vs H Q _=>∃ (l:Addr) (p n M A k:Nat) (xs:List V) (rs:List (List Int)),vs=[.ref l,.int p]∧SqL K H l xs∧RowsL K H xs rs∧rs.length<64∧Mth.Len n rs∧n≤1000∧p<n∧(∀ v∈rs,Mth.BdM M v)∧(∀ v∈rs,Mth.at' p v≤A)∧0<A∧6*(M*(A*A))<2 ^ k∧k≤60000000∧TabK K H∧∀ t l1 l2 H' ys zs led os,SmT K H H'→TabK K H'→SqT K H' t [.ref l1,.ref l2]→SqL K H' l1 ys→RowsL K H' ys led→SqL K H' l2 zs→RowsL K H' zs os→led.length≤1→(∀ v∈led,0<v.getD p 0)→(∀ v∈os,v.getD p 0=0)→(∀ v∈led++os,v.length=n)→(∀ v∈led++os,Mth.BdM (6*(M*(A*A))) v)→Mth.Eqv n rs (led++os)→led.length+os.length≤rs.length→(∀ v∈led,Mth.at' p v≤A)→Q (.ref t) H'
noncomputable def sp_stepped (K:PySem.W.Frag):Sp:=fun vs H Q _=>∃ (l:Addr) (w n b:Nat) (xs:List V) (rs:List (List Int)),vs=[.ref l,.int w]∧SqL K H l xs∧RowsL K H xs rs∧rs.length<64∧Mth.Len n rs∧n≤1000∧w≤n∧(∀ v∈rs,Mth.BdM (2 ^ b) v)∧(∀ i,i<w→Mth.ss b (i+1)<60000000)∧TabK K H∧∀ l' H' ys st lf,H l'=none→SmT K H H'→TabK K H'→H' l'=some (.lst ys)→RowsL K H' ys st→Mth.SJ n w b rs w st lf→Q (.ref l') H'
noncomputable def sp_table (K:PySem.W.Frag):Sp:=fun vs H Q _=>∃ (l:Addr) (b:Nat) (xs:List V) (rs:List (List Int)),vs=[.ref l]∧SqL K H l xs∧RowsL K H xs rs∧rs.length≤6∧Mth.Len 5 rs∧(∀ v∈rs,Mth.BdM (2 ^ b) v)∧b≤109∧TabK K H∧∀ l' H' ys st,H l'=none→SmT K H H'→TabK K H'→H' l'=some (.lst ys)→RowsL K H' ys st→Mth.SF st→Mth.Eqv 5 rs st→Mth.Len 5 st→st.length≤5→(∀ v∈st,Mth.BdM (2 ^ Mth.ss b 5) v)→(∀ v∈st,∀ k,Mth.Led v k→(v.getD k 0).natAbs≤2 ^ Mth.gs b (4 - k))→Q (.ref l') H'
noncomputable def sp_left_by (K:PySem.W.Frag):Sp:=fun vs H Q _=>∃ (l a:Addr) (n B C:Nat) (xs:List V) (st:List (List Int)) (u:List Int),vs=[.ref l,.ref a]∧SqL K H l xs∧RowsL K H xs st∧SqT K H a (u.map V.int)∧u.length=n∧5≤n∧n≤100∧Mth.Len n st∧st.length≤5∧Mth.SF (st.map (List.take 5))∧(∀ r∈st,Mth.BdM (2 ^ B) r)∧Mth.BdM (2 ^ C) u∧C+6*B<50000000∧∀ p H' v,Same H H'→SqT K H' p (v.map V.int)→Mth.LB n 5 st st.length u v→Mth.BdM (2 ^ (C+(B+1)*5)) v→Q (.ref p) H'
noncomputable def sp_heard (K:PySem.W.Frag):Sp:=fun vs H Q _=>∃ (w r:Addr) (kk:Bool) (ws rs:List Int),vs=[.ref w,.ref r]∧Sq kk K H w (ws.map V.int)∧SqT K H r (rs.map V.int)∧ws.length≤rs.length∧rs.length≤1000∧(∀ i,i<ws.length→CMulB (rs.getD i 0) (ws.getD i 0))∧∀ H',Same H H'→Q (.int (Mth.dt rs ws)) H'
noncomputable def sp_value (K:PySem.W.Frag):Sp:=fun vs H Q _=>∃ (kk w r:Addr) (m:Int) (ws rs:List Int),vs=[.ref kk,.ref r]∧SqT K H kk [.ref w,.int m]∧SqT K H w (ws.map V.int)∧SqT K H r (rs.map V.int)∧rs.length=ws.length∧rs.length≤1000∧(∀ i,i<rs.length→CMulB (rs.getD i 0) (ws.getD i 0))∧0≤m∧∀ H',Same H H'→Q (.int (val ws m rs)) H'
noncomputable def sp_checked_keys (K:PySem.W.Frag):Sp:=fun vs H Q _=>∃ (l:Addr) (xs:List V) (ks:List (List Int×Int)),vs=[.ref l]∧SqL K H l xs∧KeysL K H xs ks∧ks.length≤6∧(∀ k∈ks,k.2=0∨2≤k.2)∧Q (.ref l) H
noncomputable def sp_values (K:PySem.W.Frag):Sp:=fun vs H Q _=>∃ (l a:Addr) (xs:List V) (ks:List (List Int×Int)) (row:List Int),vs=[.ref l,.ref a]∧SqL K H l xs∧KeysL K H xs ks∧ks.length≤6∧(∀ k∈ks,k.2=0∨2≤k.2)∧(∀ k∈ks,k.1.length=5∧Few 1000 k.1)∧SqT K H a (row.map V.int)∧row.length=5∧Few 100000 row∧∀ p H',Same H H'→SqT K H' p ((ks.map fun k=>val k.1 k.2 row).map V.int)→Q (.ref p) H'
noncomputable def sp_law_cell_at (K:PySem.W.Frag):Sp:=fun vs H Q _=>∃ (a:Addr) (ns:List Int) (k:Int),vs=[.ref a,.int k]∧SqL K H a (ns.map V.int)∧0≤k∧Q (.int (ns.getD k.toNat 0)) H
noncomputable def sp_law_lowest (K:PySem.W.Frag):Sp:=fun vs H Q _=>∃ (t b:Nat),vs=[.int t,.int b]∧0<b∧b<2 ^ 9000∧∀ p H',Same H H'→H' p=some (.tup [.int (t / Nat.gcd t b:Nat),.int (b / Nat.gcd t b:Nat)])→Q (.ref p) H'
noncomputable def sp_law_mixed (K:PySem.W.Frag):Sp:=fun vs H Q _=>∃ (c j:Int),vs=[.int c,.int j]∧(0≤j∧j≤1000)∧∀ m:Int,0≤m→m<999983→Q (.int m) H
noncomputable def sp_law_alike (K:PySem.W.Frag) (n:Nat):Sp:=fun vs H Q _=>∃ (x y:V),vs=[x,y]∧Alk K n H x y∧∀ H',Same H H'→Q (.bl true) H'
theorem sp0_law_alike (K:PySem.W.Frag) {vs:List V} {H:Hp} {Q:VK} {E:XK}:¬ sp_law_alike K 0 vs H Q E:=fun ⟨_,_,_,h,_⟩=>h
noncomputable def sp_law_name_row (K:PySem.W.Frag):Sp:=fun vs H Q _=>∃ (c:Int),vs=[.int c]∧(0≤c∧c≤1000000)∧∀ (p:Addr) H' (z:Str) (v:V) (o:Option Tn),Same H H'→H' p=some (.tup [.str z,v])→ToneV K H' v o→smO o→Q (.ref p) H'
noncomputable def sp_law_pieces (K:PySem.W.Frag):Sp:=fun vs H Q _=>∃ (c:Int) (n t:Nat),vs=[.int c,.int n,.int t]∧1≤n∧n≤12∧n≤t∧t≤100∧∀ (l:Addr) H' (ps:List Int),H l=none→Same H H'→H' l=some (.lst (ps.map V.int))→ps.length=n→(∀ p∈ps,1≤p∧p≤t)→ps.sum=(t:Int)→Q (.ref l) H'
noncomputable def sp_law_tune (K:PySem.W.Frag):Sp:=fun vs H Q _=>∃ (a:Addr) (ns:List Int) (j:Int),vs=[.ref a,.int j]∧SqL K H a (ns.map V.int)∧0≤j∧j≤100∧∀ (t m l:Addr) H' (mt:Int×Int) (xs:List V) (bs:List (List Nt)),Same H H'→TuneAt K H' t m l mt xs bs→TunOk mt bs→Q (.ref t) H'
noncomputable def sp_law_copy (K:PySem.W.Frag):Sp:=fun vs H Q _=>∃ (a m l:Addr) (mt:Int×Int) (xs:List V) (bs:List (List Nt)),vs=[.ref a]∧TuneAt K H a m l mt xs bs∧bs.length≤12∧∀ (t' l':Addr) H' (ys:List V),H l'=none→Same H H'→TuneAt K H' t' m l' mt ys bs→Q (.ref t') H'
noncomputable def sp_law_steps (K:PySem.W.Frag):Sp:=fun vs H Q _=>∃ (a:Addr) (ns:List Int) (j:Int),vs=[.ref a,.int j]∧SqL K H a (ns.map V.int)∧0≤j∧j≤100∧∀ (l:Addr) H' (ys:List V) (rs:List (List Int)),H l=none→Same H H'→H' l=some (.lst ys)→LstsL H' ys rs→(∀ x∈ys,x≠V.ref l)→Stp rs→Q (.ref l) H'
noncomputable def sp_law_rest (K:PySem.W.Frag):Sp:=fun vs H Q _=>∃ (l a:Addr) (ys:List V) (rs:List (List Int)) (r:List Int),vs=[.ref l,.ref a]∧H l=some (.lst ys)∧LstsL H ys rs∧Stp rs∧SqT K H a (r.map V.int)∧r.length=5∧(∀ x∈r,-200≤x∧x≤200)∧∀ (p:Addr) H' (v:List Int),Same H H'→H' p=some (.tup (v.map V.int))→RB rs rs.length r v→Q (.ref p) H'
noncomputable def sp_law_commas (K:PySem.W.Frag):Sp:=fun vs H Q _=>∃ (l:Addr) (c:Int) (ys:List V) (rs:List (List Int)),vs=[.ref l,.int c]∧H l=some (.lst ys)∧LstsL H ys rs∧Stp rs∧∀ (l':Addr) H' (zs:List V) (cs:List (List Int)),H l'=none→Same H H'→H' l'=some (.lst zs)→RowsL K H' zs cs→Mth.Eqv 5 rs cs→Mth.Len 5 cs→(∀ v∈cs,∀ x∈v,-24≤x∧x≤24)→cs.length≤4→Q (.ref l') H'
noncomputable def sp_law_value (K:PySem.W.Frag):Sp:=fun vs H Q _=>∃ (w a:Addr) (m:Int) (ws row:List Int),vs=[.ref w,.int m,.ref a]∧SqT K H w (ws.map V.int)∧SqT K H a (row.map V.int)∧ws.length=5∧row.length=5∧(m=0∨2≤m)∧(∀ x∈ws,-1000≤x∧x≤1000)∧∀ H',Same H H'→Q (.int (val ws m row)) H'
noncomputable def sp_law_keys (K:PySem.W.Frag):Sp:=fun vs H Q _=>∃ (a:Addr) (ns:List Int) (j:Int),vs=[.ref a,.int j]∧SqL K H a (ns.map V.int)∧0≤j∧j≤100∧∀ (l:Addr) H' (ys:List V) (ks:List (List Int×Int)),H l=none→Same H H'→H' l=some (.lst ys)→KeysL K H' ys ks→ks.length≤3→(∀ k∈ks,k.1.length=5∧(∀ x∈k.1,-10≤x∧x≤10)∧(k.2=0∨2≤k.2)∧k.2≤12)→Q (.ref l) H'
noncomputable def sp_law_told (K:PySem.W.Frag):Sp:=fun vs H Q _=>∃ (a:Addr) (ns:List Int) (kn j:Int),vs=[.ref a,.int kn,.int j]∧SqL K H a (ns.map V.int)∧(0≤kn∧kn≤3)∧0≤j∧j≤50∧∀ (b:Addr) (d:Kd) H',Same H H'→ToldAt K H' b d→d.ok→d.num=kn→Q (.ref b) H'
noncomputable def sp_law_sound (K:PySem.W.Frag):Sp:=fun vs H Q _=>∃ (b a:Addr) (d:Kd) (r:List Int),vs=[.int d.num,.ref b,.ref a]∧ToldAt K H b d∧d.ok∧SqT K H a (r.map V.int)∧smR r∧∀ (z:V) H' (y:Tn),Same H H'→TnV K H' z y→Dsn d r y→Q z H'
noncomputable def sp_law_tuning (K:PySem.W.Frag):Sp:=fun vs H Q _=>∃ (b h:Addr) (d:Kd) (zs:List V),vs=[.int d.num,.ref b,.ref h]∧ToldAt K H b d∧d.ok∧H h=some (.lst zs)∧(∀ rs,d=.steps rs→∃ cs,RowsL K H zs cs∧Mth.Eqv 5 rs cs∧Mth.Len 5 cs∧(∀ v∈cs,∀ x∈v,-24≤x∧x≤24)∧cs.length≤4)∧(∀ ks,d=.keys ks→KeysL K H zs ks)∧TabK K H∧∀ (t l:Addr) (u:Tu) H',H l=none→SmT K H H'→TabK K H'→TuAt K H' t l u→u.ok→Lnk d u→Q (.ref t) H'
noncomputable def sp_Tuning_sound (K:PySem.W.Frag):Sp:=fun vs H Q _=>∃ (x y:V),vs=[x,y]∧Q y H
noncomputable def sp_CommaTuning_init (K:PySem.W.Frag):Sp:=fun vs H Q _=>∃ (x l C dx:Addr) (b:Nat) (xs:List V) (rs:List (List Int)),vs=[.ref x,.ref l]∧PySem.W.nsIn K mainGlobals "CommaTuning"=some (some (.ref C))∧H x=some (.ins C dx [])∧SqL K H l xs∧RowsL K H xs rs∧rs.length≤6∧Mth.Len 5 rs∧(∀ v∈rs,Mth.BdM (2 ^ b) v)∧b≤109∧TabK K H∧∀ (l1:Addr) (H1:Hp) (ys:List V) (st:List (List Int)),H l1=none→SmT K H H1→TabK K H1→H1 l1=some (.lst ys)→RowsL K H1 ys st→Mth.SF st→Mth.Eqv 5 rs st→Mth.Len 5 st→H1 x=some (.ins C dx [])→Q .non (upd H1 x (.ins C dx [("steps",.ref l1)]))
noncomputable def sp_CommaTuning_sound (K:PySem.W.Frag):Sp:=fun vs H Q _=>∃ (x l a:Addr) (st:List (List Int)) (r:List Int),vs=[.ref x,.ref a]∧TuAt K H x l (.comma st)∧Tu.ok (.comma st)∧SqT K H a (r.map V.int)∧r.length=5∧Mth.BdM (2 ^ 20000) r∧∀ (p:Addr) (H':Hp) (v:List Int),Same H H'→SqT K H' p (v.map V.int)→Rst st r v→Q (.ref p) H'
noncomputable def sp_KeyTuning_init (K:PySem.W.Frag):Sp:=fun vs H Q _=>∃ (x l C dx:Addr) (ys:List V) (ks:List (List Int×Int)),vs=[.ref x,.ref l]∧(PySem.W.nsIn K mainGlobals "KeyTuning"=some (some (.ref C))∨PySem.W.nsIn K mainGlobals "Board"=some (some (.ref C)))∧H x=some (.ins C dx [])∧SqL K H l ys∧KeysL K H ys ks∧ks.length≤6∧(∀ k∈ks,k.2=0∨2≤k.2)∧∀ (l1:Addr) (H1:Hp),H l1=none→Same H H1→H1 l1=some (.lst ys)→Q .non (upd H1 x (.ins C dx [("own_keys",.ref l1)]))
noncomputable def sp_KeyTuning_sound (K:PySem.W.Frag):Sp:=fun vs H Q _=>∃ (x l a:Addr) (ks:List (List Int×Int)) (r:List Int),vs=[.ref x,.ref a]∧TuAt K H x l (.key ks)∧Tu.ok (.key ks)∧SqT K H a (r.map V.int)∧r.length=5∧Mth.BdM (2 ^ 20000) r∧∀ (p:Addr) (H':Hp),Same H H'→SqT K H' p ((ks.map fun k=>val k.1 k.2 r).map V.int)→Q (.ref p) H'
noncomputable def sp_Board_init (K:PySem.W.Frag):Sp:=fun vs H Q E=>∃ (x a C dx:Addr) (w:List Int),vs=[.ref x,.ref a]∧PySem.W.nsIn K mainGlobals "Board"=some (some (.ref C))∧H x=some (.ins C dx [])∧SqT K H a (w.map V.int)∧w.length=5∧(w.getD 0 0<1→∀ C H9,PySem.W.nsIn K mainGlobals "NoBoard"=some (some (.ref C))→Same H H9→E (.ref C) none H9)∧(1≤w.getD 0 0→∀ (l1:Addr) (H1:Hp) (ys:List V),H l1=none→Same H H1→H1 l1=some (.lst ys)→KeysL K H1 ys [(w,0)]→H1 x=some (.ins C dx [])→Q .non (upd (upd H1 x (.ins C dx [("own_keys",.ref l1)])) x (.ins C dx [("own_keys",.ref l1),("octave",.int (w.getD 0 0))])))
noncomputable def sp_Board_sound (K:PySem.W.Frag):Sp:=fun vs H Q _=>∃ (x l a:Addr) (w r:List Int),vs=[.ref x,.ref a]∧TuAt K H x l (.board w)∧Tu.ok (.board w)∧SqT K H a (r.map V.int)∧r.length=5∧Mth.BdM (2 ^ 20000) r∧∀ (H':Hp),Same H H'→Q (.int (Mth.dt r w)) H'
section
variable {K:PySem.W.Frag} {H:Hp} {Q:VK} {E:XK}
theorem c_over {a b:Addr} (r q:List Int) (ha:SqT K H a (r.map V.int)) (hb:SqT K H b (q.map V.int)) (hl:r.length=q.length) (hn:r.length≤1000) (k:∀ p H',Same H H'→H' p=some (.tup ((Mth.sub r q).map V.int))→Q (.ref p) H'):sp_over K [.ref a,.ref b] H Q E:=⟨a,b,r,q,rfl,ha,hb,hl,hn,k⟩
theorem c_power {a:Addr} {n:Int} (r:List Int) (ha:SqT K H a (r.map V.int)) (hn:r.length≤1000) (hm:∀ x∈r,CMulW x n) (k:∀ p H',Same H H'→H' p=some (.tup ((Mth.mulv r n).map V.int))→Q (.ref p) H'):sp_power K [.ref a,.int n] H Q E:=⟨a,r,n,rfl,ha,hn,hm,k⟩
theorem c_note_changed {a f cS x l0:Addr} {ob:Obj} {n:Nt} {u:Tu} (h:NoteAt K H (.ref a) n∧rowN n∧LamS H f cS x ob∧TuAt K H x l0 u∧u.ok) (k:∀ p H',Same H H'→NoteAt K H' (.ref p) (sdN u n)→Q (.ref p) H'):sp_note_changed K [.ref a,.ref f] H Q E:=let ⟨h1,h2,h3,h4,h5⟩:=h;⟨a,f,cS,x,l0,ob,n,u,rfl,h1,h2,h3,h4,h5,k⟩
theorem c_bar_changed {a f cS x l0:Addr} {ob:Obj} {xs:List V} {ns:List Nt} {u:Tu} (h:SqL K H a xs∧NotesL K H xs ns∧ns.length≤100∧(∀ n∈ns,rowN n)∧LamS H f cS x ob∧TuAt K H x l0 u∧u.ok) (k:∀ l' H' ys,H l'=none→Same H H'→H' l'=some (.lst ys)→NotesL K H' ys (ns.map (sdN u))→Q (.ref l') H'):sp_bar_changed K [.ref a,.ref f] H Q E:=let ⟨h1,h2,h3,h4,h5,h6,h7⟩:=h;⟨a,f,cS,x,l0,ob,xs,ns,u,rfl,h1,h2,h3,h4,h5,h6,h7,k⟩
theorem c_changed {a m l f cS x l0:Addr} {mt:Int×Int} {ob:Obj} {xs:List V} {bs:List (List Nt)} {u:Tu} (h:TuneAt K H a m l mt xs bs∧bs.length≤100∧(∀ ns∈bs,ns.length≤100∧∀ n∈ns,rowN n)∧LamS H f cS x ob∧TuAt K H x l0 u∧u.ok) (k:∀ t' l' H' ys,H l'=none→Same H H'→(∀ x∈ys,∃ b,x=V.ref b∧H b=none)→TuneAt K H' t' m l' mt ys (bs.map fun ns=>ns.map (sdN u))→Q (.ref t') H'):sp_changed K [.ref a,.ref f] H Q E:=let ⟨h1,h2,h3,h4,h5,h6⟩:=h;⟨a,m,l,f,cS,x,l0,mt,ob,xs,bs,u,rfl,h1,h2,h3,h4,h5,h6,k⟩
theorem c_sounds {a m l x l0:Addr} {mt:Int×Int} {xs:List V} {bs:List (List Nt)} {u:Tu} (h:TuneAt K H a m l mt xs bs∧bs.length≤100∧(∀ ns∈bs,ns.length≤100∧∀ n∈ns,rowN n)∧TuAt K H x l0 u∧u.ok∧TabK K H) (k:∀ t' l' H' ys,H l'=none→SmT K H H'→TabK K H'→(∀ x∈ys,∃ b,x=V.ref b∧H b=none)→TuneAt K H' t' m l' mt ys (bs.map fun ns=>ns.map (sdN u))→Q (.ref t') H'):sp_sounds K [.ref x,.ref a] H Q E:=let ⟨h1,h2,h3,h4,h5,h6⟩:=h;⟨a,m,l,x,l0,mt,xs,bs,u,rfl,h1,h2,h3,h4,h5,h6,k⟩
theorem c_checked_commas {l:Addr} {ys:List V} (hl:SqL K H l ys) (hn:ys.length≤6) (k:Q (.ref l) H):sp_checked_commas K [.ref l] H Q E:=⟨l,ys,rfl,hl,hn,k⟩
theorem c_lead_place {a:Addr} {r:List Int} {k:Nat} (ha:SqT K H a (r.map V.int)) (hl:r.length≤1000) (hk:Mth.Led r k) (kk:∀ H',Same H H'→Q (.int k) H'):sp_lead_place K [.ref a] H Q E:=⟨a,r,k,rfl,ha,hl,hk,kk⟩
theorem c_lowered {a b:Addr} {p n M k:Nat} (v s:List Int) (ha:SqT K H a (v.map V.int)) (hb:SqT K H b (s.map V.int)) (lv:v.length=n) (ls:s.length=n) (hn:n≤1000) (hp:p<n) (h0:s.getD p 0≠0) (bv:Mth.BdM M v) (bs:Mth.BdM M s) (hM:M<2 ^ k) (hk:k≤60000000) (kk:∀ p' H',Same H H'→H' p'=some (.tup ((Mth.low1 p s v).map V.int))→Q (.ref p') H'):sp_lowered K [.ref a,.ref b,.int p] H Q E:=⟨a,b,p,n,M,k,v,s,rfl,ha,hb,lv,ls,hn,hp,h0,bv,bs,hM,hk,kk⟩
theorem c_parted {l:Addr} {p n M A k:Nat} {xs:List V} {rs:List (List Int)} (h:SqL K H l xs∧RowsL K H xs rs∧rs.length<64∧Mth.Len n rs∧n≤1000∧p<n∧(∀ v∈rs,Mth.BdM M v)∧(∀ v∈rs,Mth.at' p v≤A)∧0<A∧6*(M*(A*A))<2 ^ k∧k≤60000000∧TabK K H) (kk:∀ t l1 l2 H' ys zs led os,SmT K H H'→TabK K H'→SqT K H' t [.ref l1,.ref l2]→SqL K H' l1 ys→RowsL K H' ys led→SqL K H' l2 zs→RowsL K H' zs os→led.length≤1→(∀ v∈led,0<v.getD p 0)→(∀ v∈os,v.getD p 0=0)→(∀ v∈led++os,v.length=n)→(∀ v∈led++os,Mth.BdM (6*(M*(A*A))) v)→Mth.Eqv n rs (led++os)→led.length+os.length≤rs.length→(∀ v∈led,Mth.at' p v≤A)→Q (.ref t) H'):sp_parted K [.ref l,.int p] H Q E:=let ⟨h1,h2,h3,h4,h5,h6,h7,h8,h9,h10,h11,h12⟩:=h;⟨l,p,n,M,A,k,xs,rs,rfl,h1,h2,h3,h4,h5,h6,h7,h8,h9,h10,h11,h12,kk⟩
theorem c_stepped {l:Addr} {w n b:Nat} {xs:List V} {rs:List (List Int)} (h:SqL K H l xs∧RowsL K H xs rs∧rs.length<64∧Mth.Len n rs∧n≤1000∧w≤n∧(∀ v∈rs,Mth.BdM (2 ^ b) v)∧(∀ i,i<w→Mth.ss b (i+1)<60000000)∧TabK K H) (kk:∀ l' H' ys st lf,H l'=none→SmT K H H'→TabK K H'→H' l'=some (.lst ys)→RowsL K H' ys st→Mth.SJ n w b rs w st lf→Q (.ref l') H'):sp_stepped K [.ref l,.int w] H Q E:=let ⟨h1,h2,h3,h4,h5,h6,h7,h8,h9⟩:=h;⟨l,w,n,b,xs,rs,rfl,h1,h2,h3,h4,h5,h6,h7,h8,h9,kk⟩
theorem c_table {l:Addr} {b:Nat} {xs:List V} {rs:List (List Int)} (h:SqL K H l xs∧RowsL K H xs rs∧rs.length≤6∧Mth.Len 5 rs∧(∀ v∈rs,Mth.BdM (2 ^ b) v)∧b≤109∧TabK K H) (kk:∀ l' H' ys st,H l'=none→SmT K H H'→TabK K H'→H' l'=some (.lst ys)→RowsL K H' ys st→Mth.SF st→Mth.Eqv 5 rs st→Mth.Len 5 st→st.length≤5→(∀ v∈st,Mth.BdM (2 ^ Mth.ss b 5) v)→(∀ v∈st,∀ k,Mth.Led v k→(v.getD k 0).natAbs≤2 ^ Mth.gs b (4 - k))→Q (.ref l') H'):sp_table K [.ref l] H Q E:=let ⟨h1,h2,h3,h4,h5,h6,h7⟩:=h;⟨l,b,xs,rs,rfl,h1,h2,h3,h4,h5,h6,h7,kk⟩
theorem c_left_by {l a:Addr} {n B C:Nat} {xs:List V} {st:List (List Int)} {u:List Int} (h:SqL K H l xs∧RowsL K H xs st∧SqT K H a (u.map V.int)∧u.length=n∧5≤n∧n≤100∧Mth.Len n st∧st.length≤5∧Mth.SF (st.map (List.take 5))∧(∀ r∈st,Mth.BdM (2 ^ B) r)∧Mth.BdM (2 ^ C) u∧C+6*B<50000000) (kk:∀ p H' v,Same H H'→SqT K H' p (v.map V.int)→Mth.LB n 5 st st.length u v→Mth.BdM (2 ^ (C+(B+1)*5)) v→Q (.ref p) H'):sp_left_by K [.ref l,.ref a] H Q E:=let ⟨h1,h2,h3,h4,h5,h6,h7,h8,h9,h10,h11,h12⟩:=h;⟨l,a,n,B,C,xs,st,u,rfl,h1,h2,h3,h4,h5,h6,h7,h8,h9,h10,h11,h12,kk⟩
theorem c_heardG {w r:Addr} {kk:Bool} (ws rs:List Int) (hw:Sq kk K H w (ws.map V.int)) (hr:SqT K H r (rs.map V.int)) (hl:ws.length≤rs.length) (hn:rs.length≤1000) (hm:∀ i,i<ws.length→CMulB (rs.getD i 0) (ws.getD i 0)) (k:∀ H',Same H H'→Q (.int (Mth.dt rs ws)) H'):sp_heard K [.ref w,.ref r] H Q E:=⟨w,r,kk,ws,rs,rfl,hw,hr,hl,hn,hm,k⟩
theorem c_heard {w r:Addr} (ws rs:List Int) (hw:SqT K H w (ws.map V.int)) (hr:SqT K H r (rs.map V.int)) (hl:rs.length=ws.length) (hn:rs.length≤1000) (hm:∀ i,i<rs.length→CMulB (rs.getD i 0) (ws.getD i 0)) (k:∀ H',Same H H'→Q (.int (dot rs ws)) H'):sp_heard K [.ref w,.ref r] H Q E:=c_heardG ws rs (sqt_sq hw) hr (by lia) hn (fun i hi=>hm i (by lia)) k
theorem c_value {kk w r:Addr} {m:Int} (ws rs:List Int) (hk:SqT K H kk [.ref w,.int m]) (hw:SqT K H w (ws.map V.int)) (hr:SqT K H r (rs.map V.int)) (hl:rs.length=ws.length) (hn:rs.length≤1000) (hm:∀ i,i<rs.length→CMulB (rs.getD i 0) (ws.getD i 0)) (h0:0≤m) (k:∀ H',Same H H'→Q (.int (val ws m rs)) H'):sp_value K [.ref kk,.ref r] H Q E:=⟨kk,w,r,m,ws,rs,rfl,hk,hw,hr,hl,hn,hm,h0,k⟩
theorem c_checked_keys {l:Addr} {xs:List V} {ks:List (List Int×Int)} (h:SqL K H l xs∧KeysL K H xs ks∧ks.length≤6∧(∀ k∈ks,k.2=0∨2≤k.2)) (k:Q (.ref l) H):sp_checked_keys K [.ref l] H Q E:=let ⟨h1,h2,h3,h4⟩:=h;⟨l,xs,ks,rfl,h1,h2,h3,h4,k⟩
theorem c_values {l a:Addr} {xs:List V} {ks:List (List Int×Int)} {row:List Int} (h:SqL K H l xs∧KeysL K H xs ks∧ks.length≤6∧(∀ k∈ks,k.2=0∨2≤k.2)∧(∀ k∈ks,k.1.length=5∧Few 1000 k.1)∧SqT K H a (row.map V.int)∧row.length=5∧Few 100000 row) (k:∀ p H',Same H H'→SqT K H' p ((ks.map fun k=>val k.1 k.2 row).map V.int)→Q (.ref p) H'):sp_values K [.ref l,.ref a] H Q E:=let ⟨h1,h2,h3,h4,h5,h6,h7,h8⟩:=h;⟨l,a,xs,ks,row,rfl,h1,h2,h3,h4,h5,h6,h7,h8,k⟩
theorem c_law_cell_at {a:Addr} {ns:List Int} {j:Int} (ha:SqL K H a (ns.map V.int)) (h0:0≤j) (k:Q (.int (ns.getD j.toNat 0)) H):sp_law_cell_at K [.ref a,.int j] H Q E:=⟨a,ns,j,rfl,ha,h0,k⟩
theorem c_law_lowest {t b:Nat} (h0:0<b) (h9:b<2 ^ 9000) (k:∀ p H',Same H H'→H' p=some (.tup [.int (t / Nat.gcd t b:Nat),.int (b / Nat.gcd t b:Nat)])→Q (.ref p) H'):sp_law_lowest K [.int t,.int b] H Q E:=⟨t,b,rfl,h0,h9,k⟩
theorem c_law_mixed {c j:Int} (hj:0≤j∧j≤1000) (k:∀ m:Int,0≤m→m<999983→Q (.int m) H):sp_law_mixed K [.int c,.int j] H Q E:=⟨c,j,rfl,hj,k⟩
theorem c_law_alike {n:Nat} {x y:V} (h:Alk K n H x y) (k:∀ H',Same H H'→Q (.bl true) H'):sp_law_alike K n [x,y] H Q E:=⟨x,y,rfl,h,k⟩
theorem c_law_name_row {c:Int} (hc:0≤c∧c≤1000000) (k:∀ (p:Addr) H' (z:Str) (v:V) (o:Option Tn),Same H H'→H' p=some (.tup [.str z,v])→ToneV K H' v o→smO o→Q (.ref p) H'):sp_law_name_row K [.int c] H Q E:=⟨c,rfl,hc,k⟩
theorem c_law_pieces {c:Int} {n t:Nat} (h:1≤n∧n≤12∧n≤t∧t≤100) (k:∀ (l:Addr) H' (ps:List Int),H l=none→Same H H'→H' l=some (.lst (ps.map V.int))→ps.length=n→(∀ p∈ps,1≤p∧p≤t)→ps.sum=(t:Int)→Q (.ref l) H'):sp_law_pieces K [.int c,.int n,.int t] H Q E:=let ⟨h1,h2,h3,h4⟩:=h;⟨c,n,t,rfl,h1,h2,h3,h4,k⟩
theorem c_law_tune {a:Addr} {ns:List Int} {j:Int} (h:SqL K H a (ns.map V.int)∧0≤j∧j≤100) (k:∀ (t m l:Addr) H' (mt:Int×Int) (xs:List V) (bs:List (List Nt)),Same H H'→TuneAt K H' t m l mt xs bs→TunOk mt bs→Q (.ref t) H'):sp_law_tune K [.ref a,.int j] H Q E:=let ⟨h1,h2,h3⟩:=h;⟨a,ns,j,rfl,h1,h2,h3,k⟩
theorem c_law_copy {a m l:Addr} {mt:Int×Int} {xs:List V} {bs:List (List Nt)} (h:TuneAt K H a m l mt xs bs∧bs.length≤12) (k:∀ (t' l':Addr) H' (ys:List V),H l'=none→Same H H'→TuneAt K H' t' m l' mt ys bs→Q (.ref t') H'):sp_law_copy K [.ref a] H Q E:=⟨a,m,l,mt,xs,bs,rfl,h.1,h.2,k⟩
theorem c_law_steps {a:Addr} {ns:List Int} {j:Int} (h:SqL K H a (ns.map V.int)∧0≤j∧j≤100) (k:∀ (l:Addr) H' (ys:List V) (rs:List (List Int)),H l=none→Same H H'→H' l=some (.lst ys)→LstsL H' ys rs→(∀ x∈ys,x≠V.ref l)→Stp rs→Q (.ref l) H'):sp_law_steps K [.ref a,.int j] H Q E:=let ⟨h1,h2,h3⟩:=h;⟨a,ns,j,rfl,h1,h2,h3,k⟩
theorem c_law_rest {l a:Addr} {ys:List V} {rs:List (List Int)} {r:List Int} (h:H l=some (.lst ys)∧LstsL H ys rs∧Stp rs∧SqT K H a (r.map V.int)∧r.length=5∧(∀ x∈r,-200≤x∧x≤200)) (k:∀ (p:Addr) H' (v:List Int),Same H H'→H' p=some (.tup (v.map V.int))→RB rs rs.length r v→Q (.ref p) H'):sp_law_rest K [.ref l,.ref a] H Q E:=let ⟨h1,h2,h3,h4,h5,h6⟩:=h;⟨l,a,ys,rs,r,rfl,h1,h2,h3,h4,h5,h6,k⟩
theorem c_law_commas {l:Addr} {c:Int} {ys:List V} {rs:List (List Int)} (h:H l=some (.lst ys)∧LstsL H ys rs∧Stp rs) (k:∀ (l':Addr) H' (zs:List V) (cs:List (List Int)),H l'=none→Same H H'→H' l'=some (.lst zs)→RowsL K H' zs cs→Mth.Eqv 5 rs cs→Mth.Len 5 cs→(∀ v∈cs,∀ x∈v,-24≤x∧x≤24)→cs.length≤4→Q (.ref l') H'):sp_law_commas K [.ref l,.int c] H Q E:=let ⟨h1,h2,h3⟩:=h;⟨l,c,ys,rs,rfl,h1,h2,h3,k⟩
theorem c_law_value {w a:Addr} {m:Int} {ws row:List Int} (h:SqT K H w (ws.map V.int)∧SqT K H a (row.map V.int)∧ws.length=5∧row.length=5∧(m=0∨2≤m)∧(∀ x∈ws,-1000≤x∧x≤1000)) (k:∀ H',Same H H'→Q (.int (val ws m row)) H'):sp_law_value K [.ref w,.int m,.ref a] H Q E:=let ⟨h1,h2,h3,h4,h5,h6⟩:=h;⟨w,a,m,ws,row,rfl,h1,h2,h3,h4,h5,h6,k⟩
theorem c_law_keys {a:Addr} {ns:List Int} {j:Int} (h:SqL K H a (ns.map V.int)∧0≤j∧j≤100) (k:∀ (l:Addr) H' (ys:List V) (ks:List (List Int×Int)),H l=none→Same H H'→H' l=some (.lst ys)→KeysL K H' ys ks→ks.length≤3→(∀ k∈ks,k.1.length=5∧(∀ x∈k.1,-10≤x∧x≤10)∧(k.2=0∨2≤k.2)∧k.2≤12)→Q (.ref l) H'):sp_law_keys K [.ref a,.int j] H Q E:=let ⟨h1,h2,h3⟩:=h;⟨a,ns,j,rfl,h1,h2,h3,k⟩
theorem c_law_told {a:Addr} {ns:List Int} {kn j:Int} (h:SqL K H a (ns.map V.int)∧(0≤kn∧kn≤3)∧0≤j∧j≤50) (k:∀ (b:Addr) (d:Kd) H',Same H H'→ToldAt K H' b d→d.ok→d.num=kn→Q (.ref b) H'):sp_law_told K [.ref a,.int kn,.int j] H Q E:=let ⟨h1,h2,h3,h4⟩:=h;⟨a,ns,kn,j,rfl,h1,h2,h3,h4,k⟩
theorem rd_toldL {b:Addr} {d:Kd} (h:ToldAt K H b d) (k:∀ p H2 (zs:List V),H p=none→Same H H2→H2 p=some (.lst zs)→(∀ ks,d=.keys ks→KeysL K H2 zs ks)→Q (.ref p) H2):rListOf K [.ref b] H Q:=by
 cases d with
 | plain w=>exact r_listT h fun p H2 n s m=>k p H2 _ n s m fun ks e=>nomatch e
 | steps rs =>
  obtain ⟨ys,h1,h2,h3⟩:=h
  exact r_listL (SqL.of h1) fun p H2 n s m=>k p H2 _ n s m fun ks e=>nomatch e
 | keys ks =>
  obtain ⟨ys,h1,h2⟩:=h
  exact r_listL (SqL.of h1) fun p H2 n s m=>k p H2 _ n s m fun ks' e=>by cases e;exact h2.same s
 | board w=>exact r_listT h fun p H2 n s m=>k p H2 _ n s m fun ks e=>nomatch e
theorem c_law_sound {b a:Addr} {d:Kd} {r:List Int} (h:ToldAt K H b d∧d.ok∧SqT K H a (r.map V.int)∧smR r) (k:∀ (z:V) H' (y:Tn),Same H H'→TnV K H' z y→Dsn d r y→Q z H'):sp_law_sound K [.int d.num,.ref b,.ref a] H Q E:=let ⟨h1,h2,h3,h4⟩:=h;⟨b,a,d,r,rfl,h1,h2,h3,h4,k⟩
theorem c_law_tuning {b h:Addr} {d:Kd} {zs:List V} (g:ToldAt K H b d∧d.ok∧H h=some (.lst zs)∧(∀ rs,d=.steps rs→∃ cs,RowsL K H zs cs∧Mth.Eqv 5 rs cs∧Mth.Len 5 cs∧(∀ v∈cs,∀ x∈v,-24≤x∧x≤24)∧cs.length≤4)∧(∀ ks,d=.keys ks→KeysL K H zs ks)∧TabK K H) (k:∀ (t l:Addr) (u:Tu) H',H l=none→SmT K H H'→TabK K H'→TuAt K H' t l u→u.ok→Lnk d u→Q (.ref t) H'):sp_law_tuning K [.int d.num,.ref b,.ref h] H Q E:=let ⟨h1,h2,h3,h4,h5,h6⟩:=g;⟨b,h,d,zs,rfl,h1,h2,h3,h4,h5,h6,k⟩
theorem c_Tuning_sound {x y:V} (k:Q y H):sp_Tuning_sound K [x,y] H Q E:=⟨x,y,rfl,k⟩
theorem c_CommaTuning_init {x l C dx:Addr} {b:Nat} {xs:List V} {rs:List (List Int)} (h:PySem.W.nsIn K mainGlobals "CommaTuning"=some (some (.ref C))∧H x=some (.ins C dx [])∧SqL K H l xs∧RowsL K H xs rs∧rs.length≤6∧Mth.Len 5 rs∧(∀ v∈rs,Mth.BdM (2 ^ b) v)∧b≤109∧TabK K H) (k:∀ (l1:Addr) (H1:Hp) (ys:List V) (st:List (List Int)),H l1=none→SmT K H H1→TabK K H1→H1 l1=some (.lst ys)→RowsL K H1 ys st→Mth.SF st→Mth.Eqv 5 rs st→Mth.Len 5 st→H1 x=some (.ins C dx [])→Q .non (upd H1 x (.ins C dx [("steps",.ref l1)]))):sp_CommaTuning_init K [.ref x,.ref l] H Q E:=let ⟨h1,h2,h3,h4,h5,h6,h7,h8,h9⟩:=h;⟨x,l,C,dx,b,xs,rs,rfl,h1,h2,h3,h4,h5,h6,h7,h8,h9,k⟩
theorem c_CommaTuning_sound {x l a:Addr} {st:List (List Int)} {r:List Int} (h:TuAt K H x l (.comma st)∧Tu.ok (.comma st)∧SqT K H a (r.map V.int)∧r.length=5∧Mth.BdM (2 ^ 20000) r) (k:∀ (p:Addr) (H':Hp) (v:List Int),Same H H'→SqT K H' p (v.map V.int)→Rst st r v→Q (.ref p) H'):sp_CommaTuning_sound K [.ref x,.ref a] H Q E:=let ⟨h1,h2,h3,h4,h5⟩:=h;⟨x,l,a,st,r,rfl,h1,h2,h3,h4,h5,k⟩
theorem c_KeyTuning_init {x l C dx:Addr} {ys:List V} {ks:List (List Int×Int)} (h:(PySem.W.nsIn K mainGlobals "KeyTuning"=some (some (.ref C))∨PySem.W.nsIn K mainGlobals "Board"=some (some (.ref C)))∧H x=some (.ins C dx [])∧SqL K H l ys∧KeysL K H ys ks∧ks.length≤6∧(∀ k∈ks,k.2=0∨2≤k.2)) (k:∀ (l1:Addr) (H1:Hp),H l1=none→Same H H1→H1 l1=some (.lst ys)→Q .non (upd H1 x (.ins C dx [("own_keys",.ref l1)]))):sp_KeyTuning_init K [.ref x,.ref l] H Q E:=let ⟨h1,h2,h3,h4,h5,h6⟩:=h;⟨x,l,C,dx,ys,ks,rfl,h1,h2,h3,h4,h5,h6,k⟩
theorem c_KeyTuning_sound {x l a:Addr} {ks:List (List Int×Int)} {r:List Int} (h:TuAt K H x l (.key ks)∧Tu.ok (.key ks)∧SqT K H a (r.map V.int)∧r.length=5∧Mth.BdM (2 ^ 20000) r) (k:∀ (p:Addr) (H':Hp),Same H H'→SqT K H' p ((ks.map fun k=>val k.1 k.2 r).map V.int)→Q (.ref p) H'):sp_KeyTuning_sound K [.ref x,.ref a] H Q E:=let ⟨h1,h2,h3,h4,h5⟩:=h;⟨x,l,a,ks,r,rfl,h1,h2,h3,h4,h5,k⟩
theorem c_Board_init {x a C dx:Addr} {w:List Int} (h:PySem.W.nsIn K mainGlobals "Board"=some (some (.ref C))∧H x=some (.ins C dx [])∧SqT K H a (w.map V.int)∧w.length=5) (k:(w.getD 0 0<1→∀ C H9,PySem.W.nsIn K mainGlobals "NoBoard"=some (some (.ref C))→Same H H9→E (.ref C) none H9)∧(1≤w.getD 0 0→∀ (l1:Addr) (H1:Hp) (ys:List V),H l1=none→Same H H1→H1 l1=some (.lst ys)→KeysL K H1 ys [(w,0)]→H1 x=some (.ins C dx [])→Q .non (upd (upd H1 x (.ins C dx [("own_keys",.ref l1)])) x (.ins C dx [("own_keys",.ref l1),("octave",.int (w.getD 0 0))])))):sp_Board_init K [.ref x,.ref a] H Q E:=let ⟨h1,h2,h3,h4⟩:=h;⟨x,a,C,dx,w,rfl,h1,h2,h3,h4,k⟩
theorem c_Board_sound {x l a:Addr} {w r:List Int} (h:TuAt K H x l (.board w)∧Tu.ok (.board w)∧SqT K H a (r.map V.int)∧r.length=5∧Mth.BdM (2 ^ 20000) r) (k:∀ (H':Hp),Same H H'→Q (.int (Mth.dt r w)) H'):sp_Board_sound K [.ref x,.ref a] H Q E:=let ⟨h1,h2,h3,h4,h5⟩:=h;⟨x,l,a,w,r,rfl,h1,h2,h3,h4,h5,k⟩
theorem sound4 {a1 a2 a3 a4 x l p:Addr} {u:Tu} {σ:St} {ta:TE} {t:TA} {r:List Int} (w1:PySem.W.nsIn K mainGlobals "Tuning"=some (some (.ref a1))) (w2:PySem.W.nsIn K mainGlobals "CommaTuning"=some (some (.ref a2))) (w3:PySem.W.nsIn K mainGlobals "KeyTuning"=some (some (.ref a3))) (w4:PySem.W.nsIn K mainGlobals "Board"=some (some (.ref a4))) (hv:∀ R:V→Hp→Prop,R (.ref x) H→ta σ H R) (ht:∀ R:List V→Hp→Prop,R [.ref p] H→t σ H R) (hu:TuAt K H x l u) (h:u.ok∧SqT K H p (r.map V.int)∧r.length=5∧Mth.BdM (2 ^ 20000) r) (k:∀ (v:V) (H':Hp),Same H H'→TnV K H' v (sdR u r)→Q v H') :
  tMeth a1 "sound" (sp_Tuning_sound K) [] E0 ta t σ H Q∨tMeth a2 "sound" (sp_CommaTuning_sound K) [] E0 ta t σ H Q∨tMeth a3 "sound" (sp_KeyTuning_sound K) [] E0 ta t σ H Q∨tMeth a4 "sound" (sp_Board_sound K) [] E0 ta t σ H Q:=by
 cases u with
 | plain =>
  obtain ⟨C,dx,hC,hx⟩:=id hu
  obtain rfl:=Value.ref.inj (Option.some.inj (Option.some.inj (hC.symm.trans w1)))
  refine .inl (r_meth (hv _ (r_meth1 hx rfl (ht _ (c_Tuning_sound (E:=E0) (k _ H (Same.refl _) ?_))))))
  rw [sdR_eq (u:=.plain) h.1 h.2.2.1 (y:=.row r) rfl]
  exact⟨p,rfl,h.2.1,by lia⟩
 | comma st =>
  obtain ⟨C,dx,ys,hC,hx,_⟩:=id hu
  obtain rfl:=Value.ref.inj (Option.some.inj (Option.some.inj (hC.symm.trans w2)))
  refine .inr (.inl (r_meth (hv _ (r_meth1 hx rfl (ht _ (c_CommaTuning_sound (E:=E0) ⟨hu,h.1,h.2.1,h.2.2.1,h.2.2.2⟩ fun p' H' v s m hr=>k _ H' s ?_))))))
  rw [sdR_eq (u:=.comma st) h.1 h.2.2.1 (y:=.row v) ⟨v,rfl,hr⟩]
  exact⟨p',rfl,m,by rw [hr.1];decide⟩
 | key ks =>
  obtain ⟨C,dx,ys,hC,hx,_⟩:=id hu
  obtain rfl:=Value.ref.inj (Option.some.inj (Option.some.inj (hC.symm.trans w3)))
  refine .inr (.inr (.inl (r_meth (hv _ (r_meth1 hx rfl (ht _ (c_KeyTuning_sound (E:=E0) ⟨hu,h.1,h.2.1,h.2.2.1,h.2.2.2⟩ fun p' H' s m=>k _ H' s ?_)))))))
  rw [sdR_eq (u:=.key ks) h.1 h.2.2.1 (y:=.row _) rfl]
  exact⟨p',rfl,m,by rw [List.length_map];exact Nat.le_trans h.1.1 (by decide)⟩
 | board w =>
  obtain ⟨C,dx,ys,hC,hx,_⟩:=id hu
  obtain rfl:=Value.ref.inj (Option.some.inj (Option.some.inj (hC.symm.trans w4)))
  refine .inr (.inr (.inr (r_meth (hv _ (r_meth1 hx rfl (ht _ (c_Board_sound (E:=E0) ⟨hu,h.1,h.2.1,h.2.2.1,h.2.2.2⟩ fun H' s=>k _ H' s ?_)))))))
  rw [sdR_eq (u:=.board w) h.1 h.2.2.1 (y:=.num _) rfl]
  rfl
end
local macro_rules|`(tactic| walk_at "hf") => `(tactic| first|assumption|exact L2.SqT.of (by assumption)|exact L2.SqL.of (by assumption)|exact L2.Fixed.at (by assumption)|((with_reducible apply L2.sqt_sq);(walk_at "hf"))|((with_reducible apply L2.sql_sq);(walk_at "hf"))|((with_reducible apply L2.Same.at);(assumption);(walk_at "hf"))|((with_reducible apply L2.Same.seq);(assumption);(walk_at "hf"))|((with_reducible apply L2.Same.lst);(assumption);(walk_at "hf"))|((with_reducible apply L2.Same.sq);(assumption);(walk_at "hf")))
local macro_rules|`(tactic| walk_at "sm") => `(tactic| first|exact L2.Same.refl _|assumption|((refine L2.Same.trans ?_ (by assumption));walk_at "sm"))
local macro_rules|`(tactic| walk_at "side") => `(tactic| first|(show (0 : Int)<_;first|decide|lia)|exact⟨by decide, by decide⟩|exact⟨by lia, by lia⟩|exact Or.inl ⟨by decide, by decide⟩|exact Or.inr ⟨by decide, by decide⟩|exact Or.inr ⟨by lia, by lia⟩|exact Or.inl ⟨by lia, by lia⟩|exact⟨by decide, by decide, by decide⟩|assumption)
local macro_rules|`(tactic| walk_at "p") => `(tactic| first
 | (with_reducible refine L2.r_seq ?_)|(with_reducible refine L2.r_asg ?_)|(with_reducible refine L2.r_gname ?_)|(with_reducible refine L2.r_ret ?_)|(with_reducible refine L2.r_drop ?_)|(with_reducible refine L2.r_next ?_)
 | ((with_reducible apply L2.r_var);(exact rfl))|(with_reducible refine L2.r_c ?_)|(with_reducible refine L2.r_op ?_)|(with_reducible refine L2.r_un ?_)|(with_reducible refine L2.r_b ?_)|(with_reducible refine L2.r_test ?_)|(with_reducible refine L2.r_isbl ?_)
 | (with_reducible refine L2.r_and ?_)|(with_reducible refine L2.r_or ?_)|(with_reducible refine L2.r_not ?_)|(with_reducible refine L2.r_andV ?_)|(with_reducible refine L2.r_orV ?_)|(with_reducible refine L2.r_notV ?_)|(with_reducible refine L2.r_ife ?_)
 | (with_reducible refine L2.r_I0 ?_)|((with_reducible refine L2.r_I ?_ ?_);(walk_at "side"))|(with_reducible refine L2.r_U ?_)|(with_reducible refine L2.r_eqI ?_)|(with_reducible refine L2.r_neI ?_)|(with_reducible refine L2.r_nil ?_)|(with_reducible refine L2.r_cons ?_)|(with_reducible refine L2.r_tup ?_)|(with_reducible refine L2.r_lst ?_)|((with_reducible refine L2.r_newT ?_ ?_);(first|exact Nat.le_of_ble_eq_true rfl|(focus (simp;done))|(focus (simp;lia)));intro p_ H_ s_ m_)|((with_reducible refine L2.r_newL ?_ ?_);(first|exact Nat.le_of_ble_eq_true rfl|(focus (simp;done))|(focus (simp;lia)));intro p_ H_ n_ s_ m_)
 | (with_reducible refine L2.r_cb ?_)|(with_reducible refine L2.r_call0 ?_)|(with_reducible refine L2.r_comp ?_)|(with_reducible refine L2.r_sl ?_)|(with_reducible refine L2.r_nopart ?_)|(with_reducible refine L2.r_part ?_)|(with_reducible refine L2.r_isint ?_)|(with_reducible refine L2.r_bm ?_)|(with_reducible refine L2.r_bm0 ?_)
 | (with_reducible refine L2.r_for ?_)|(with_reducible refine L2.r_ilist ?_)|(with_reducible refine L2.r_itup ?_)|(with_reducible refine L2.r_irng ?_)|(with_reducible refine L2.r_izip ?_)
 | ((with_reducible apply L2.r_isl);(walk_at "hf"))|((with_reducible apply L2.r_ist);(walk_at "hf"))|((with_reducible refine L2.r_isr ?_ ?_ ?_);(first|decide|lia);(first|decide|lia))|((with_reducible apply L2.r_isz);(walk_at "hf");(walk_at "hf"))
 | ((with_reducible apply L2.r_lenT);(walk_at "hf"))|((with_reducible apply L2.r_lenL);(walk_at "hf"))
 | ((with_reducible apply L2.r_tupleL);(walk_at "hf");intro p_ H_ s_ m_)|((with_reducible apply L2.r_listL);(walk_at "hf");intro p_ H_ n_ s_ m_)|((with_reducible apply L2.r_listT);(walk_at "hf");intro p_ H_ n_ s_ m_)
 | (with_reducible refine L2.r_abs ?_)|((with_reducible apply L2.r_isiT);(walk_at "hf");(first|exact L2.kit_same _ _|exact rfl))|((with_reducible apply L2.r_isiL);(walk_at "hf");(first|exact L2.kit_same _ _|exact rfl))|((with_reducible apply L2.r_isiI);(first|exact L2.kit_same _ _|exact rfl))|((with_reducible refine L2.r_typed0 ?_ ?_);(first|exact rfl|exact Or.inl ⟨rfl,_,by walk_at "hf"⟩))|((with_reducible refine L2.r_typed ?_ ?_);(first|exact rfl|exact Or.inl ⟨rfl,_,by walk_at "hf"⟩))
 | ((with_reducible apply L2.r_cat);(walk_at "hf");(walk_at "hf");(first|exact Nat.le_of_ble_eq_true rfl|(focus (simp;done))|(focus (simp;lia)));intro p_ H_ n_ s_ m_)
 | ((with_reducible apply L2.r_slL1);(walk_at "hf");intro p_ H_ n_ s_ m_)|((with_reducible apply L2.r_slT1);(walk_at "hf");intro p_ H_ s_ m_)
 | ((with_reducible apply L2.r_catT);(walk_at "hf");(walk_at "hf");(exact List.cons_ne_nil _ _);(exact List.cons_ne_nil _ _);(first|exact Nat.le_of_ble_eq_true rfl|(focus (simp;done))|(focus (simp;lia)));intro p_ H_ s_ m_)
 | (with_reducible refine L2.r_izip3 ?_)|((with_reducible apply L2.r_isz3);(walk_at "hf");(walk_at "hf");(walk_at "hf"))|((with_reducible apply L2.r_isiS);(exact rfl))|(with_reducible refine L2.r_gsub ?_)|(with_reducible refine L2.r_raise ?_)|(with_reducible refine L2.r_meth ?_)|(with_reducible refine L2.r_make ?_)|(with_reducible refine L2.r_fld ?_)|(with_reducible refine L2.r_sfld ?_)|((with_reducible apply L2.r_fld1);(assumption);(assumption);(assumption);(exact rfl))|((with_reducible apply L2.r_meth1);(assumption);(exact rfl))
 | (with_reducible refine L2.r_par ?_)|(with_reducible refine L2.r_two ?_)
 | (with_reducible refine L2.r_irng3 ?_)|((with_reducible refine L2.r_isr3 ?_ ?_ ?_);(first|exact⟨by decide,by decide⟩|exact⟨by lia,by lia⟩);(first|exact⟨by decide,by decide⟩|exact⟨by lia,by lia⟩))|(with_reducible refine L2.r_sortL ?_)|(with_reducible refine L2.r_ienum ?_)|((with_reducible apply L2.r_isn);(walk_at "hf")))
local macro_rules|`(tactic| walk_at "q") => `(tactic| first|(walk_at "p")|(with_reducible refine L2.r_ifs ?_))
local macro_rules|`(tactic| walk_at "x") => `(tactic| first|((with_reducible apply L2.r_ixT);(walk_at "hf");(exact rfl))|((with_reducible apply L2.r_ixL);(walk_at "hf");(exact rfl)))
local macro_rules|`(tactic| walk_at "r") => `(tactic| first|(walk_at "q")|(walk_at "x"))
local macro_rules|`(tactic| walk_at "v") => `(tactic| repeat walk_at "q")
local macro_rules|`(tactic| walk_at "j") => `(tactic| repeat (first|(walk_at "p")|(walk_at "x")))
local macro_rules|`(tactic| walk_at "sz") => `(tactic| first|exact L2.small2000 (by lia)|decide|exact L2.small2000 (by simp only [PySem.strLen_append];lia)|assumption)
local macro_rules|`(tactic| walk_at "p") => `(tactic| first|((with_reducible refine L2.r_lstC ?_ ?_);(exact Nat.le_of_ble_eq_true rfl);intro p_ H_ n_ s_ m_)|((with_reducible refine L2.r_addS ?_ ?_);(walk_at "sz"))|(with_reducible refine L2.r_eqS ?_) )
local macro_rules|`(tactic| walk_at "p") => `(tactic| ((with_reducible apply c_law_cell_at);(walk_at "hf");(first|decide|lia)))
local macro_rules|`(tactic| walk_at "w") => `(tactic| repeat walk_at "r")
section
variable {P:Program} {w:World} {K:PySem.W.Frag} {mg:Str→Option Value} {base:Heap} {G:Adr}
theorem sc_over:FnScope ["one","other"] ["one","other"] (defScope s_over):=⟨rfl,rfl,rfl,by decide +kernel,rfl,by decide +kernel,by decide +kernel⟩
theorem ok_over (D:Def K mg "over" s_over ["one","other"]) (T:Txt K mg G) (Y:base.NoSeer∧P.given.tree=none):Ok P w K mg base 1 "over" ["one","other"] (sp_over K):=by
 have S:=sc_over
 refine D.ok S (fun vs H Q E h=>?_) (fun f cdv A outer s H vs Q E hr h=>?_)
 ·obtain ⟨a,b,r,q,rfl,ha,hb,hl,hn,k⟩:=h;rfl
 ·obtain ⟨a,b,r,q,rfl,ha,hb,hl,hn,k⟩:=h
  have hu:=hu_of hr
  have c_Tuning:=T.c_Tuning
  have c_CommaTuning:=T.c_CommaTuning
  have n_CommaTuning_steps:=T.n_CommaTuning_steps
  have c_KeyTuning:=T.c_KeyTuning
  have n_KeyTuning_own_keys:=T.n_KeyTuning_own_keys
  have c_Board:=T.c_Board
  have n_Board_own_keys:=T.n_Board_own_keys
  have n_Board_octave:=T.n_Board_octave
  refine⟨_,(pss_one (ps_ret (pe_callTy (kN_tuple K rfl) rfl T.b_tuple PyProof.Rows.boot_tuple (pa_cons (pe_comp (N:=["number","taken"]) (ix:=[none,none]) rfl (kpi_zip2 K rfl true true rfl T.b_zip (pa_cons (pv 0) (pa_cons (pv 1) pa_nil))) (fun _ _ _ _ _=>(kpg_tup (n:=2) K rfl rfl (pgs_cons (pg_name (i:=0) (show List.Nodup (["number","taken"]:List Str) by decide +kernel) rfl (Or.inl rfl)) (pgs_cons (pg_name (i:=1) (show List.Nodup (["number","taken"]:List Str) by decide +kernel) rfl (Or.inl rfl)) pgs_nil)))) (fun _ _ _ _ _=>rfl) (fun _ _ _ _ _=>(pe_op op_sub (pv 0) (pv 1))) rfl (by decide +kernel) (by decide +kernel) rfl True.intro) pa_nil)))),?_⟩
  walk_at "w"
  refine rd_zipRows (r:=r) (q:=q) (· - ·) rfl ha hb hl hn fun l H1 hl1 s1 m1=>?_
  walk_at "w"
  rename_i p2 H2 s2 m2
  exact k _ _ (s1.trans s2) m2
theorem sc_power:FnScope ["row","n"] ["row","n"] (defScope s_power):=⟨rfl,rfl,rfl,by decide +kernel,rfl,by decide +kernel,by decide +kernel⟩
theorem ok_power (D:Def K mg "power" s_power ["row","n"]) (T:Txt K mg G) (Y:base.NoSeer∧P.given.tree=none):Ok P w K mg base 1 "power" ["row","n"] (sp_power K):=by
 have S:=sc_power
 refine D.ok S (fun vs H Q E h=>?_) (fun f cdv A outer s H vs Q E hr h=>?_)
 ·obtain ⟨a,r,n,rfl,ha,hn,hm,k⟩:=h;rfl
 ·obtain ⟨a,r,n,rfl,ha,hn,hm,k⟩:=h
  have hu:=hu_of hr
  have c_Tuning:=T.c_Tuning
  have c_CommaTuning:=T.c_CommaTuning
  have n_CommaTuning_steps:=T.n_CommaTuning_steps
  have c_KeyTuning:=T.c_KeyTuning
  have n_KeyTuning_own_keys:=T.n_KeyTuning_own_keys
  have c_Board:=T.c_Board
  have n_Board_own_keys:=T.n_Board_own_keys
  have n_Board_octave:=T.n_Board_octave
  refine⟨_,(pss_one (ps_ret (pe_callTy (kN_tuple K rfl) rfl T.b_tuple PyProof.Rows.boot_tuple (pa_cons (pe_comp (N:=["number","n"]) (ix:=[none,some 1]) rfl (kpi_tup K rfl (pv 0)) (fun _ _ _ _ _=>(pg_name (i:=0) (show List.Nodup (["number","n"]:List Str) by decide +kernel) rfl (Or.inl rfl))) (fun _ _ _ _ _=>rfl) (fun _ _ _ _ _=>(pe_op op_mulW (pv 0) (pv 1))) rfl (by decide +kernel) (by decide +kernel) rfl ⟨⟨rfl,Or.inr (Or.inl rfl),rfl,rfl⟩,True.intro⟩) pa_nil)))),?_⟩
  walk_at "w"
  refine rd_mapRow (r:=r) (fun x=>.int (x*n)) [some (.int n)] rfl ha hn (fun x H' Qc hx s kc=>?_) (fun l H1 hl s1 m1=>?_)
  ·walk_at "w"
   refine r_I (C:=CMulW) (hm x hx) ?_
   exact kc _ (Same.refl _)
  walk_at "w"
  rename_i p2 H2 s2 m2
  refine k _ _ (s1.trans s2) ?_
  rw [m2,Mth.mulv,List.map_map]
  rfl
theorem sc_checked_commas:FnScope ["commas"] ["commas"] (defScope s_checked_commas):=⟨rfl,rfl,rfl,by decide +kernel,rfl,by decide +kernel,by decide +kernel⟩
theorem ok_checked_commas (D:Def K mg "checked_commas" s_checked_commas ["commas"]) (T:Txt K mg G) (Y:base.NoSeer∧P.given.tree=none):Ok P w K mg base 1 "checked_commas" ["commas"] (sp_checked_commas K):=by
 have S:=sc_checked_commas
 refine D.ok S (fun vs H Q E h=>?_) (fun f cdv A outer s H vs Q E hr h=>?_)
 ·obtain ⟨l,ys,rfl,hl,hn,k⟩:=h;rfl
 ·obtain ⟨l,ys,rfl,hl,hn,k⟩:=h
  have hu:=hu_of hr
  have c_Tuning:=T.c_Tuning
  have c_CommaTuning:=T.c_CommaTuning
  have n_CommaTuning_steps:=T.n_CommaTuning_steps
  have c_KeyTuning:=T.c_KeyTuning
  have n_KeyTuning_own_keys:=T.n_KeyTuning_own_keys
  have c_Board:=T.c_Board
  have n_Board_own_keys:=T.n_Board_own_keys
  have n_Board_octave:=T.n_Board_octave
  refine⟨_,(pss_cons (ps_if (pt_cmpR op_gt (pe_callB (kN_len K rfl) rfl T.b_len PySem.boot_len (pa_cons (pv 0) pa_nil)) (pe_glob (v:=V.int 6) rfl T.g_MOST_COMMAS ⟨_,rfl⟩) (nomark _)) (pss_one ps_never) pss_nil) (pss_one (ps_ret (pv 0)))),?_⟩
  walk_at "w"
  refine if_ff (by simp;lia) ?_
  walk_at "w"
  exact k
theorem sc_lead_place:FnScope ["row"] ["row"] (defScope s_lead_place):=⟨rfl,rfl,rfl,by decide +kernel,rfl,by decide +kernel,by decide +kernel⟩
theorem ok_lead_place (D:Def K mg "lead_place" s_lead_place ["row"]) (T:Txt K mg G) (Y:base.NoSeer∧P.given.tree=none):Ok P w K mg base 1 "lead_place" ["row"] (sp_lead_place K):=by
 have S:=sc_lead_place
 refine D.ok S (fun vs H Q E h=>?_) (fun f cdv A outer s H vs Q E hr h=>?_)
 ·obtain ⟨a,r,k,rfl,ha,hl,hk,kk⟩:=h;rfl
 ·obtain ⟨a,r,k,rfl,ha,hl,hk,kk⟩:=h
  have hu:=hu_of hr
  have c_Tuning:=T.c_Tuning
  have c_CommaTuning:=T.c_CommaTuning
  have n_CommaTuning_steps:=T.n_CommaTuning_steps
  have c_KeyTuning:=T.c_KeyTuning
  have n_KeyTuning_own_keys:=T.n_KeyTuning_own_keys
  have c_Board:=T.c_Board
  have n_Board_own_keys:=T.n_Board_own_keys
  have n_Board_octave:=T.n_Board_octave
  refine⟨_,(pss_one (ps_ret (pe_callB (kN_maxL K rfl rfl) rfl T.b_max PyProof.Rows.boot_max (pa_cons (pe_comp (N:=["place","number"]) (ix:=[none,none]) rfl (kpi_enum K rfl true rfl T.b_enumerate (pa_cons (pv 0) pa_nil)) (fun _ _ _ _ _=>(kpg_tup (n:=2) K rfl rfl (pgs_cons (pg_name (i:=0) (show List.Nodup (["place","number"]:List Str) by decide +kernel) rfl (Or.inl rfl)) (pgs_cons (pg_name (i:=1) (show List.Nodup (["place","number"]:List Str) by decide +kernel) rfl (Or.inl rfl)) pgs_nil)))) (fun _ _ _ _ _=>(pt_cmpR op_ne (pv 1) pe_int (nomark _))) (fun _ _ _ _ _=>(pv 0)) rfl (by decide +kernel) (by decide +kernel) rfl True.intro) pa_nil)))),?_⟩
  have hkl:k<r.length:=by
   have:=hk.1
   by_cases h:k<r.length
   ·exact h
   ·rw [List.getD,List.getElem?_eq_none (by lia)] at this
    exact absurd this (by decide)
  walk_at "w"
  refine rd_filterN (r:=r) [] (fun i=>r.getD i 0 != 0) rfl ha hl (fun i H' Qt hi s kt=>?_) (fun i H' Qc s kc=>?_) (fun l H1 n1 s1 m1=>?_)
  ·walk_at "w"
   have e:(!decide (r.getD i 0=0))=(r.getD i 0 != 0):=by
    by_cases h:r.getD i 0=0
    ·rw [h];rfl
    ·rw [decide_eq_false h,bne_iff_ne.mpr h];rfl
   rw [e]
   exact kt
  ·walk_at "w"
   exact kc
  walk_at "w"
  have hmem:(k:Int)∈((List.range r.length).filter fun i=>r.getD i 0 != 0).map fun (i:Nat)=>(i:Int):=by
   refine List.mem_map.mpr ⟨k,List.mem_filter.mpr ⟨List.mem_range.mpr hkl,?_⟩,rfl⟩
   have:=hk.1
   exact bne_iff_ne.mpr (by lia)
  refine r_maxL (SqL.of m1) (fun z=>by rw [z] at hmem;simp at hmem) fun m hm hx=>?_
  have e:m=k:=by
   have h1:=hx _ hmem
   obtain ⟨j,hj,rfl⟩:=List.mem_map.mp hm
   have h2:=(List.mem_filter.mp hj).2
   by_cases c:k<j
   ·rw [hk.2 j c] at h2
    exact absurd h2 (by decide)
   ·lia
  rw [e]
  exact kk _ s1
theorem sc_heard:FnScope ["weights","row"] ["weights","row"] (defScope s_heard):=⟨rfl,rfl,rfl,by decide +kernel,rfl,by decide +kernel,by decide +kernel⟩
theorem ok_heard (D:Def K mg "heard" s_heard ["weights","row"]) (T:Txt K mg G) (Y:base.NoSeer∧P.given.tree=none):Ok P w K mg base 1 "heard" ["weights","row"] (sp_heard K):=by
 have S:=sc_heard
 refine D.ok S (fun vs H Q E h=>?_) (fun f cdv A outer s H vs Q E hr h=>?_)
 ·obtain ⟨w,r,kk,ws,rs,rfl,hw,hra,hl,hn,hm,k⟩:=h;rfl
 ·obtain ⟨w,r,kk,ws,rs,rfl,hw,hra,hl,hn,hm,k⟩:=h
  have hu:=hu_of hr
  have c_Tuning:=T.c_Tuning
  have c_CommaTuning:=T.c_CommaTuning
  have n_CommaTuning_steps:=T.n_CommaTuning_steps
  have c_KeyTuning:=T.c_KeyTuning
  have n_KeyTuning_own_keys:=T.n_KeyTuning_own_keys
  have c_Board:=T.c_Board
  have n_Board_own_keys:=T.n_Board_own_keys
  have n_Board_octave:=T.n_Board_octave
  refine⟨_,(pss_one (ps_ret (pe_callB (kN_sum K rfl rfl) rfl T.b_sum PyProof.Rows.boot_sum (pa_cons (pe_comp (N:=["number","weight"]) (ix:=[none,none]) rfl (kpi_zip2 K rfl true kk rfl T.b_zip (pa_cons (pv 1) (pa_cons (pv 0) pa_nil))) (fun _ _ _ _ _=>(kpg_tup (n:=2) K rfl rfl (pgs_cons (pg_name (i:=0) (show List.Nodup (["number","weight"]:List Str) by decide +kernel) rfl (Or.inl rfl)) (pgs_cons (pg_name (i:=1) (show List.Nodup (["number","weight"]:List Str) by decide +kernel) rfl (Or.inl rfl)) pgs_nil)))) (fun _ _ _ _ _=>rfl) (fun _ _ _ _ _=>(pe_op op_mulB (pv 0) (pv 1))) rfl (by decide +kernel) (by decide +kernel) rfl True.intro) pa_nil)))),?_⟩
  walk_at "w"
  refine rd_zipT (r:=rs) (q:=ws) rfl (sqt_sq hra) hw hl hn hm fun l H1 hl1 s1 m1=>?_
  walk_at "w"
  refine r_sum (SqL.of m1) ?_
  exact k _ s1
theorem sc_checked_keys:FnScope ["keys","key"] ["keys"] (defScope s_checked_keys):=⟨rfl,rfl,rfl,by decide +kernel,rfl,by decide +kernel,by decide +kernel⟩
theorem ok_checked_keys (D:Def K mg "checked_keys" s_checked_keys ["keys"]) (T:Txt K mg G) (Y:base.NoSeer∧P.given.tree=none):Ok P w K mg base 1 "checked_keys" ["keys"] (sp_checked_keys K):=by
 have S:=sc_checked_keys
 refine D.ok S (fun vs H Q E h=>?_) (fun f cdv A outer s H vs Q E hr h=>?_)
 ·obtain ⟨l,xs,ks,rfl,hl,hk,h6,hg,k⟩:=h;rfl
 ·obtain ⟨l,xs,ks,rfl,hl,hk,h6,hg,k⟩:=h
  have hu:=hu_of hr
  have c_Tuning:=T.c_Tuning
  have c_CommaTuning:=T.c_CommaTuning
  have n_CommaTuning_steps:=T.n_CommaTuning_steps
  have c_KeyTuning:=T.c_KeyTuning
  have n_KeyTuning_own_keys:=T.n_KeyTuning_own_keys
  have c_Board:=T.c_Board
  have n_Board_own_keys:=T.n_Board_own_keys
  have n_Board_octave:=T.n_Board_octave
  refine⟨_,(pss_cons (ps_if (pt_cmpR op_gt (pe_callB (kN_len K rfl) rfl T.b_len PySem.boot_len (pa_cons (pv 0) pa_nil)) (pe_glob (v:=V.int 6) rfl T.g_MOST_KEYS ⟨_,rfl⟩) (nomark _)) (pss_one ps_never) pss_nil) (pss_cons (ps_for PassesOwn.never rfl (kpi_list K rfl (pv 0)) (pg_name (i:=1) S.nd rfl (Or.inl rfl)) (pss_one (ps_if (PW.pt (pw_or (pt_cmpR op_lt (pe_ix (kx_seq K rfl) (pv 1) pe_int (fun _ _=>rfl)) pe_int (nomark _)) (pw_or1 (pt_cmpR op_eq (pe_ix (kx_seq K rfl) (pv 1) pe_int (fun _ _=>rfl)) pe_int (nomark _))))) (pss_one ps_never) pss_nil))) (pss_one (ps_ret (pv 0))))),?_⟩
  have lk:=hk.length
  walk_at "w"
  refine if_ff (by simp;lia) ?_
  walk_at "w"
  refine f_invL (xs:=xs) (fun i σ H2=>∃ o:Option V,σ=[some (.ref l),o]∧H2=H) ⟨_,rfl,rfl⟩ (fun i σ H2 hp=>by obtain ⟨o,rfl,rfl⟩:=hp;exact hl) (fun i x σ H2 hx hp=>?_) (fun σ H2 hp=>?_)
  ·obtain ⟨o,rfl,rfl⟩:=hp
   obtain ⟨a,w,kk,rfl,h1,h2,h3⟩:=hk.get hx
   have hm:=hg kk (List.mem_of_getElem? h3)
   walk_at "w"
   refine if_ff (decide_eq_false (by lia)) ?_
   walk_at "w"
   refine if_ff (decide_eq_false (by lia)) ?_
   exact⟨_,rfl,rfl⟩
  obtain ⟨o,rfl,rfl⟩:=hp
  walk_at "w"
  exact k
theorem sc_law_cell_at:FnScope ["_law_script","_law_k"] ["_law_script","_law_k"] (defScope s_law_cell_at):=⟨rfl,rfl,rfl,by decide +kernel,rfl,by decide +kernel,by decide +kernel⟩
theorem ok_law_cell_at (D:Def K mg "_law_cell_at" s_law_cell_at ["_law_script","_law_k"]) (T:Txt K mg G) (Y:base.NoSeer∧P.given.tree=none):Ok P w K mg base 1 "_law_cell_at" ["_law_script","_law_k"] (sp_law_cell_at K):=by
 have S:=sc_law_cell_at
 refine D.ok S (fun vs H Q E h=>?_) (fun f cdv A outer s H vs Q E hr h=>?_)
 ·obtain ⟨a,ns,k,rfl,hs,h0,hQ⟩:=h;rfl
 ·obtain ⟨a,ns,k,rfl,hs,h0,hQ⟩:=h
  have hu:=hu_of hr
  have c_Tuning:=T.c_Tuning
  have c_CommaTuning:=T.c_CommaTuning
  have n_CommaTuning_steps:=T.n_CommaTuning_steps
  have c_KeyTuning:=T.c_KeyTuning
  have n_KeyTuning_own_keys:=T.n_KeyTuning_own_keys
  have c_Board:=T.c_Board
  have n_Board_own_keys:=T.n_Board_own_keys
  have n_Board_octave:=T.n_Board_octave
  refine⟨_,(pss_cons (ps_if (pt_cmpR op_lt (pv 1) (pe_callB (kN_len K rfl) rfl T.b_len PySem.boot_len (pa_cons (pv 0) pa_nil)) (nomark _)) (pss_one (ps_ret (pe_ix (kx_seq K rfl) (pv 0) (pv 1) (fun _ _=>rfl)))) pss_nil) (pss_one (ps_ret pe_int))),?_⟩
  walk_at "w"
  refine if_both (fun hc=>?_) (fun hc=>?_)
  ·have hlt:k.toNat<ns.length:=by simp at hc;lia
   obtain ⟨j,rfl⟩:=Int.eq_ofNat_of_zero_le h0
   repeat walk_at "r"
   exact r_ixL hs (atI_nat (int_at (by simpa using hlt))) hQ
  ·have hge:ns.length≤k.toNat:=by simp at hc;lia
   have e:ns.getD k.toNat 0=0:=by rw [List.getD,List.getElem?_eq_none hge];rfl
   rw [e] at hQ
   walk_at "w"
   exact hQ
theorem sc_law_lowest:FnScope ["_law_top","_law_bottom","_law_one","_law_other"] ["_law_top","_law_bottom"] (defScope s_law_lowest):=⟨rfl,rfl,rfl,by decide +kernel,rfl,by decide +kernel,by decide +kernel⟩
theorem ok_law_lowest (D:Def K mg "_law_lowest" s_law_lowest ["_law_top","_law_bottom"]) (T:Txt K mg G) (Y:base.NoSeer∧P.given.tree=none):Ok P w K mg base 1 "_law_lowest" ["_law_top","_law_bottom"] (sp_law_lowest K):=by
 have S:=sc_law_lowest
 refine D.ok S (fun vs H Q E h=>?_) (fun f cdv A outer s H vs Q E hr h=>?_)
 ·obtain ⟨t,b,rfl,h0,h9,k⟩:=h;rfl
 ·obtain ⟨t,b,rfl,h0,h9,k⟩:=h
  have hu:=hu_of hr
  have c_Tuning:=T.c_Tuning
  have c_CommaTuning:=T.c_CommaTuning
  have n_CommaTuning_steps:=T.n_CommaTuning_steps
  have c_KeyTuning:=T.c_KeyTuning
  have n_KeyTuning_own_keys:=T.n_KeyTuning_own_keys
  have c_Board:=T.c_Board
  have n_Board_own_keys:=T.n_Board_own_keys
  have n_Board_octave:=T.n_Board_octave
  refine⟨_,(pss_cons (ps_set (i:=2) S.nd rfl (Or.inl rfl) (pv 0)) (pss_cons (ps_set (i:=3) S.nd rfl (Or.inl rfl) (pv 1)) (pss_cons (ps_while PassesOwn.never (pt_cmpR op_ne (pv 3) pe_int (nomark _)) (pss_one (ps_par (i:=2) (j:=3) rfl S.nd rfl rfl (by decide) rfl rfl (pa_cons (pv 3) (pa_cons (pe_op op_mod (pv 2) (pv 3)) pa_nil)) rfl))) (pss_one (ps_ret (pe_tup (pa_cons (pe_op op_fdivB (pv 0) (pv 2)) (pa_cons (pe_op op_fdivB (pv 1) (pv 2)) pa_nil)))))))),?_⟩
  walk_at "w"
  have hg:0<Nat.gcd t b:=Nat.gcd_pos_of_pos_right _ h0
  have hl:=logN hg (Nat.lt_of_le_of_lt (gcd_le h0) h9)
  have hgi:(0:Int)<(Nat.gcd t b:Nat):=by lia
  refine join (fun σ' H'=>σ'=[some (.int t),some (.int b),some (.int (Nat.gcd t b:Nat)),some (.int 0)]∧H'=H) (fun nx hnx=>?_) (fun σ' H' hP=>?_)
  ·refine f_while (fun m σ' H'=>∃ (f:Nat),σ'=[some (.int t),some (.int b),some (.int f),some (.int m)]∧H'=H∧Nat.gcd f m=Nat.gcd t b) b ⟨_,rfl,rfl,rfl⟩ (fun m σ' H' hw=>?_)
   obtain ⟨f,rfl,rfl,hg2⟩:=hw
   walk_at "w"
   refine if_both (fun hc=>?_) (fun hc=>?_)
   ·have hm:0<m:=by simp at hc;lia
    refine w_go ?_
    walk_at "w"
    refine⟨f % m,Nat.mod_lt _ hm,m,by rw [Int.natCast_emod] <;> rfl,rfl,?_⟩
    rw [Mth.gcd_turn]
    exact hg2
   ·have hm:m=0:=by simp at hc;lia
    subst hm
    rw [Nat.gcd_zero_right] at hg2
    subst hg2
    exact hnx _ _ ⟨rfl,rfl⟩
  obtain ⟨rfl,rfl⟩:=hP
  walk_at "w"
  rename_i p2 H2 s2 m2
  refine k _ _ s2 ?_
  rw [m2,Int.natCast_ediv,Int.natCast_ediv]
theorem sc_law_mixed:FnScope ["_law_cell","_law_k","_law_first"] ["_law_cell","_law_k"] (defScope s_law_mixed):=⟨rfl,rfl,rfl,by decide +kernel,rfl,by decide +kernel,by decide +kernel⟩
theorem ok_law_mixed (D:Def K mg "_law_mixed" s_law_mixed ["_law_cell","_law_k"]) (T:Txt K mg G) (Y:base.NoSeer∧P.given.tree=none):Ok P w K mg base 1 "_law_mixed" ["_law_cell","_law_k"] (sp_law_mixed K):=by
 have S:=sc_law_mixed
 refine D.ok S (fun vs H Q E h=>?_) (fun f cdv A outer s H vs Q E hr h=>?_)
 ·obtain ⟨c,j,rfl,hj,k⟩:=h;rfl
 ·obtain ⟨c,j,rfl,hj,k⟩:=h
  have hu:=hu_of hr
  have c_Tuning:=T.c_Tuning
  have c_CommaTuning:=T.c_CommaTuning
  have n_CommaTuning_steps:=T.n_CommaTuning_steps
  have c_KeyTuning:=T.c_KeyTuning
  have n_KeyTuning_own_keys:=T.n_KeyTuning_own_keys
  have c_Board:=T.c_Board
  have n_Board_own_keys:=T.n_Board_own_keys
  have n_Board_octave:=T.n_Board_octave
  refine⟨_,(pss_cons (ps_set (i:=2) S.nd rfl (Or.inl rfl) (pe_op op_mod (pe_op op_mul (pe_op op_mod (pe_op op_add (pe_op op_add (pe_op op_mul (pe_op op_mod (pv 0) (pe_op op_pow pe_int pe_int)) pe_int) (pe_op op_mul (pe_op op_mul (pv 1) (pv 1)) pe_int)) pe_int) pe_int) pe_int) pe_int)) (pss_one (ps_ret (pe_op op_mod (pe_op op_add (pe_op op_add (pe_op op_mul (pv 2) (pv 2)) (pe_op op_mul pe_int (pv 2))) (pv 1)) pe_int)))),?_⟩
  walk_at "w"
  exact k _ (Int.emod_nonneg _ (by decide)) (Int.emod_lt_of_pos _ (by decide))
theorem sc_law_name_row:FnScope ["_law_mixed_here","_law_rows","_law_name","_law_row","_law_steps_here","_law_signs","_law_step","_law_share","_law_count","_law_octave"] ["_law_mixed_here"] (defScope s_law_name_row):=⟨rfl,rfl,rfl,by decide +kernel,rfl,by decide +kernel,by decide +kernel⟩
set_option maxHeartbeats 4000000 in
theorem ok_law_name_row (D:Def K mg "_law_name_row" s_law_name_row ["_law_mixed_here"]) (T:Txt K mg G) (Y:base.NoSeer∧P.given.tree=none):Ok P w K mg base 1 "_law_name_row" ["_law_mixed_here"] (sp_law_name_row K):=by
 have S:=sc_law_name_row
 refine D.ok S (fun vs H Q E h=>?_) (fun f cdv A outer s H vs Q E hr h=>?_)
 ·obtain ⟨c,rfl,hc,k⟩:=h;rfl
 ·obtain ⟨c,rfl,hc,k⟩:=h
  have hu:=hu_of hr
  have c_Tuning:=T.c_Tuning
  have c_CommaTuning:=T.c_CommaTuning
  have n_CommaTuning_steps:=T.n_CommaTuning_steps
  have c_KeyTuning:=T.c_KeyTuning
  have n_KeyTuning_own_keys:=T.n_KeyTuning_own_keys
  have c_Board:=T.c_Board
  have n_Board_own_keys:=T.n_Board_own_keys
  have n_Board_octave:=T.n_Board_octave
  refine⟨_,(@pss_cons _ _ _ _ _ (ps_if (pt_cmpR op_eq (pe_op op_mod (pe_op op_fdiv (pv 0) pe_int) pe_int) pe_int (nomark _)) (pss_one (ps_ret (pe_tup (pa_cons pe_str (pa_cons pe_non pa_nil))))) pss_nil) (@pss_cons _ _ _ _ _ (@ps_set _ _ 1 _ _ _ _ S.nd rfl (Or.inl rfl) (@pe_lst _ _ _ _ (@pa_cons _ _ _ _ _ (@pe_tup _ _ _ _ _ (pa_cons pe_int (pa_cons (pe_un un_neg pe_int) (pa_cons pe_int (pa_cons pe_int (pa_cons pe_int pa_nil)))))) (@pa_cons _ _ _ _ _ (@pe_tup _ _ _ _ _ (pa_cons pe_int (pa_cons pe_int (pa_cons pe_int (pa_cons pe_int (pa_cons pe_int pa_nil)))))) (@pa_cons _ _ _ _ _ (@pe_tup _ _ _ _ _ (pa_cons (pe_un un_neg pe_int) (pa_cons pe_int (pa_cons pe_int (pa_cons pe_int (pa_cons pe_int pa_nil)))))) (@pa_cons _ _ _ _ _ (@pe_tup _ _ _ _ _ (pa_cons (pe_un un_neg pe_int) (pa_cons pe_int (pa_cons pe_int (pa_cons pe_int (pa_cons pe_int pa_nil)))))) (@pa_cons _ _ _ _ _ (@pe_tup _ _ _ _ _ (pa_cons (pe_un un_neg pe_int) (pa_cons pe_int (pa_cons pe_int (pa_cons pe_int (pa_cons pe_int pa_nil)))))) pa_nil (by rfl)) (by rfl)) (by rfl)) (by rfl)) (by rfl))) (by rfl) (by first|exact .inl rfl|exact .inr rfl|assumption)) (@pss_cons _ _ _ _ _ (@ps_set _ _ 1 _ _ _ _ S.nd rfl (Or.inl rfl) (@pe_op _ _ _ _ _ _ _ _ op_cat (pv 1) (@pe_lst _ _ _ _ (@pa_cons _ _ _ _ _ (@pe_tup _ _ _ _ _ (pa_cons (pe_un un_neg pe_int) (pa_cons pe_int (pa_cons pe_int (pa_cons pe_int (pa_cons pe_int pa_nil)))))) (@pa_cons _ _ _ _ _ (@pe_tup _ _ _ _ _ (pa_cons (pe_un un_neg pe_int) (pa_cons pe_int (pa_cons pe_int (pa_cons pe_int (pa_cons pe_int pa_nil)))))) pa_nil (by rfl)) (by rfl)))) (by rfl) (by first|exact .inl rfl|exact .inr rfl|assumption)) (@pss_cons _ _ _ _ _ (ps_set (i:=2) S.nd rfl (Or.inl rfl) (pe_ix ix_str pe_str (pe_op op_mod (pv 0) pe_int) (fun _ _=>rfl))) (@pss_cons _ _ _ _ _ (ps_set (i:=3) S.nd rfl (Or.inl rfl) (pe_ix (kx_seq K rfl) (pv 1) (pe_op op_mod (pv 0) pe_int) (fun _ _=>rfl))) (@pss_cons _ _ _ _ _ (@ps_set _ _ 4 _ _ _ _ S.nd rfl (Or.inl rfl) (@pe_lst _ _ _ _ (@pa_cons _ _ _ _ _ (@pe_tup _ _ _ _ _ (pa_cons (pe_un un_neg pe_int) (pa_cons pe_int (pa_cons pe_int (pa_cons pe_int (pa_cons pe_int pa_nil)))))) (@pa_cons _ _ _ _ _ (@pe_tup _ _ _ _ _ (pa_cons (pe_un un_neg pe_int) (pa_cons pe_int (pa_cons (pe_un un_neg pe_int) (pa_cons pe_int (pa_cons pe_int pa_nil)))))) (@pa_cons _ _ _ _ _ (@pe_tup _ _ _ _ _ (pa_cons pe_int (pa_cons (pe_un un_neg pe_int) (pa_cons pe_int (pa_cons (pe_un un_neg pe_int) (pa_cons pe_int pa_nil)))))) (@pa_cons _ _ _ _ _ (@pe_tup _ _ _ _ _ (pa_cons (pe_un un_neg pe_int) (pa_cons pe_int (pa_cons pe_int (pa_cons pe_int (pa_cons pe_int pa_nil)))))) pa_nil (by rfl)) (by rfl)) (by rfl)) (by rfl))) (by rfl) (by first|exact .inl rfl|exact .inr rfl|assumption)) (pss_cons (ps_for PassesOwn.never rfl (kpi_zip3 K rfl false false false rfl T.b_zip (@pa_cons _ _ _ _ _ (pe_lst (pa_cons pe_str (pa_cons pe_str (pa_cons pe_str (pa_cons pe_str pa_nil))))) (@pa_cons _ _ _ _ _ (pv 4) (@pa_cons _ _ _ _ _ (pe_lst (pa_cons pe_int (pa_cons pe_int (pa_cons pe_int (pa_cons pe_int pa_nil))))) pa_nil (by rfl)) (by rfl)) (by rfl))) (kpg_tup (n:=3) K rfl rfl (pgs_cons (pg_name (i:=5) S.nd rfl (Or.inl rfl)) (pgs_cons (pg_name (i:=6) S.nd rfl (Or.inl rfl)) (pgs_cons (pg_name (i:=7) S.nd rfl (Or.inl rfl)) pgs_nil)))) (pss_cons (ps_set (i:=8) S.nd rfl (Or.inr rfl) (pe_op op_sub (pe_op op_mod (pe_op op_fdiv (pv 0) (pv 7)) pe_int) pe_int)) (pss_cons (ps_set (i:=2) S.nd rfl (Or.inl rfl) (pe_op op_addS (pe_op op_addS (pv 2) (pe_op op_mul1 (pe_ix ix_str (pv 5) pe_int (fun _ _=>rfl)) (pv 8))) (pe_op op_mul1 (pe_ix ix_str (pv 5) pe_int (fun _ _=>rfl)) (pe_op op_sub pe_int (pv 8))))) (pss_one (ps_set (i:=3) S.nd rfl (Or.inl rfl) (pe_callTy (kN_tuple K rfl) rfl T.b_tuple PyProof.Rows.boot_tuple (pa_cons (pe_comp (N:=["_law_x","_law_y","_law_count"]) (ix:=[none,none,some 8]) rfl (kpi_zip2 K rfl true true rfl T.b_zip (pa_cons (pv 3) (pa_cons (pv 6) pa_nil))) (fun _ _ _ _ _=>(kpg_tup (n:=2) K rfl rfl (pgs_cons (pg_name (i:=0) (show List.Nodup (["_law_x","_law_y","_law_count"]:List Str) by decide +kernel) rfl (Or.inl rfl)) (pgs_cons (pg_name (i:=1) (show List.Nodup (["_law_x","_law_y","_law_count"]:List Str) by decide +kernel) rfl (Or.inl rfl)) pgs_nil)))) (fun _ _ _ _ _=>rfl) (fun _ _ _ _ _=>(pe_op op_add (pv 0) (pe_op op_mul (pv 2) (pv 1)))) rfl (by decide +kernel) (by decide +kernel) rfl ⟨⟨rfl,Or.inr (Or.inl rfl),rfl,rfl⟩,True.intro⟩) pa_nil))))))) (pss_cons (ps_set (i:=9) S.nd rfl (Or.inl rfl) (pe_op op_sub (pe_op op_mod (pe_op op_fdiv (pv 0) pe_int) pe_int) pe_int)) (pss_one (ps_ret (pe_tup (pa_cons (pe_op op_addS (pe_op op_addS (pv 2) pe_str) (pe_callTy callN_str rfl T.b_str PyProof.Rows.boot_str (pa_cons (pv 9) pa_nil))) (pa_cons (pe_op (kop_catT K rfl) (pe_tup (pa_cons (pe_op op_add (pe_ix (kx_seq K rfl) (pv 3) pe_int (fun _ _=>rfl)) (pv 9)) pa_nil)) (pe_slice (ksl_tup K rfl) (pv 3) (po_some pe_int) po_none)) pa_nil))))))))))))),?_⟩
  walk_at "w"
  refine if_both (fun h1=>?_) (fun h1=>?_)
  ·walk_at "w"
   rename_i p1 H1 s1 m1
   exact k p1 H1 _ _ none s1 m1 rfl trivial
  ·obtain ⟨j,hj⟩:∃ j:Nat,c % 7=(j:Int):=⟨(c % 7).toNat,by lia⟩
   have hj7:j<7:=by lia
   walk_at "w"
   rw [hj]
   obtain ⟨L,hL⟩:∃ L,([70,67,71,68,65,69,66]:List Nat)[j]?=some L:=⟨_,List.getElem?_eq_getElem (by simpa using hj7)⟩
   refine r_ixS (c:=L) (small2000 (by decide +kernel)) (atI_nat (by rw [show (PySem.Str.ofString "FCGDAEB").cps.toList=[70,67,71,68,65,69,66] by decide];exact hL)) ?_
   walk_at "w"
   rename_i p0 H0 s0 m0 p1 H1 s1 m1 p2 H2 s2 m2 p3 H3 s3 m3 p4 H4 s4 m4 pa Ha na sa ma p5 H5 s5 m5 p6 H6 s6 m6 pb Hb nb sb mb pc Hc nc sc mc
   have e6:=sc _ _ (sb _ _ m6)
   have e5:=sc _ _ (sb _ _ (s6 _ _ m5))
   have sA:Same Ha Hc:=((s5.trans s6).trans sb).trans sc
   have sT:Same H Hc:=(((((s0.trans s1).trans s2).trans s3).trans s4).trans sa).trans sA
   have e4:=sA _ _ (sa _ _ m4)
   have e3:=sA _ _ (sa _ _ (s4 _ _ m3))
   have e2:=sA _ _ (sa _ _ (s4 _ _ (s3 _ _ m2)))
   have e1:=sA _ _ (sa _ _ (s4 _ _ (s3 _ _ (s2 _ _ m1))))
   have e0:=sA _ _ (sa _ _ (s4 _ _ (s3 _ _ (s2 _ _ (s1 _ _ m0)))))
   obtain ⟨q,r0,r1,hq,hqr,hLg,hrg,hr1,hr0b⟩:∃ (q:Addr) (r0 r1:Int),atI ([V.ref p0,V.ref p1,V.ref p2,V.ref p3,V.ref p4]++[V.ref p5,V.ref p6]) (j:Int)=some (.ref q)∧Hc q=some (.tup [.int r0,.int r1,.int 0,.int 0,.int 0])∧([70,67,71,68,65,69,66]:List Nat).getD j 0=L∧([2,0,-1,-3,-4,-6,-7]:List Int).getD j 0=r0∧r1+1=(j:Int)∧(-7≤r0∧r0≤2):=by
    match j,hj7 with
    | 0,_=>cases hL;exact⟨_,_,_,rfl,e0,rfl,rfl,rfl,by decide⟩
    | 1,_=>cases hL;exact⟨_,_,_,rfl,e1,rfl,rfl,rfl,by decide⟩
    | 2,_=>cases hL;exact⟨_,_,_,rfl,e2,rfl,rfl,rfl,by decide⟩
    | 3,_=>cases hL;exact⟨_,_,_,rfl,e3,rfl,rfl,rfl,by decide⟩
    | 4,_=>cases hL;exact⟨_,_,_,rfl,e4,rfl,rfl,rfl,by decide⟩
    | 5,_=>cases hL;exact⟨_,_,_,rfl,e5,rfl,rfl,rfl,by decide⟩
    | 6,_=>cases hL;exact⟨_,_,_,rfl,e6,rfl,rfl,rfl,by decide⟩
   rw [hj]
   refine r_ixL (SqL.of mc) hq ?_
   clear e0 e1 e2 e3 e4 e5 e6 m0 m1 m2 m3 m4 ma m5 m6 mb s0 s1 s2 s3 s4 sa s5 s6 sb sc sA na nb nc hq
   walk_at "w"
   rename_i t0 T0 y0 v0 t1 T1 y1 v1 t2 T2 y2 v2 t3 T3 y3 v3 ls Ts ns ys vs lg Tg ng yg vg li Ti ni yi vi
   obtain ⟨cf,hcf⟩:∃ cf:Nat→Int,cf=fun i=>c / ([7,21,63,189]:List Int).getD i 1 % 3 - 1:=⟨_,rfl⟩
   have hcb:∀ i,i<4→-1≤cf i∧cf i≤1:=by
    intro i hi
    rw [hcf]
    show -1≤c / _ % 3 - 1∧c / _ % 3 - 1≤1
    lia
   have sH:Same Hc Ti:=(((((y0.trans y1).trans y2).trans y3).trans ys).trans yg).trans yi
   have w3:=yi _ _ (yg _ _ (ys _ _ v3))
   have w2:=yi _ _ (yg _ _ (ys _ _ (y3 _ _ v2)))
   have w1:=yi _ _ (yg _ _ (ys _ _ (y3 _ _ (y2 _ _ v1))))
   have w0:=yi _ _ (yg _ _ (ys _ _ (y3 _ _ (y2 _ _ (y1 _ _ v0)))))
   have wg:=yi _ _ vg
   have ws:=yi _ _ (yg _ _ vs)
   have wq:=sH _ _ hqr
   clear y0 y1 y2 y3 ys yg yi v0 v1 v2 v3 vg vs hqr ns ng ni
   refine f_invZ3 (K:=K) (k1:=false) (k2:=false) (k3:=false) (xs:=[V.str (PySem.Str.ofString "#b"),V.str (PySem.Str.ofString "+-"),V.str (PySem.Str.ofString "><"),V.str (PySem.Str.ofString "^v")]) (ys:=[V.ref t0,V.ref t1,V.ref t2,V.ref t3]) (zs:=[V.int 7,V.int 21,V.int 63,V.int 189]) rfl rfl (fun i σ Hn=>∃ (o5 o6 o7 o8:Option V) (p:Addr) (T':PySem.Str),σ=[some (.int c),some (.ref pc),some (.str T'),some (.ref p),some (.ref ls),o5,o6,o7,o8,none]∧Same Ti Hn∧Hn p=some (.tup [.int (sx r0 cf [-11,-4,6,-5] (i)),.int (sx r1 cf [7,4,-2,1] (i)),.int (sx 0 cf [0,-1,0,0] (i)),.int (sx 0 cf [0,0,-1,0] (i)),.int (sx 0 cf [0,0,0,1] (i))])∧T'.cps.toList=L::([Nam.seg 35 98 (cf 0),Nam.seg 43 45 (cf 1),Nam.seg 62 60 (cf 2),Nam.seg 94 118 (cf 3)].take i).flatten∧T'.length≤1+2*i) ⟨_,_,_,_,q,_,rfl,Same.refl _,wq,rfl,Nat.le_refl _⟩ (fun i σ Hn hp=>by obtain ⟨_,_,_,_,_,_,rfl,sn,_⟩:=hp;exact⟨sql_sq (SqL.of (sn _ _ wg)),sql_sq (SqL.of (sn _ _ ws)),sql_sq (SqL.of (sn _ _ vi))⟩) (fun i x y z σ Hn Hm hx hy hz hp sm=>?_) (fun σ Hn hp=>?_)
   ·obtain ⟨o5,o6,o7,o8,p,T',rfl,sn,mp,hT,lT⟩:=hp
    have hi:i<4:=(List.getElem?_eq_some_iff.mp hx).1
    obtain ⟨S',c1,d1,tA,x0,x1,x2,x3,x4,sh,rfl,rfl,rfl,hS,htA,hx0,hx1,hx2,hx3,hx4,hsh,hsh0,hsg,hxb⟩:∃ (S':PySem.Str) (c1 d1:Nat) (tA:Addr) (x0 x1 x2 x3 x4 sh:Int),x=.str S'∧y=.ref tA∧z=.int sh∧S'.cps.toList=[c1,d1]∧Ti tA=some (.tup [.int x0,.int x1,.int x2,.int x3,.int x4])∧x0=([-11,-4,6,-5]:List Int).getD i 0∧x1=([7,4,-2,1]:List Int).getD i 0∧x2=([0,-1,0,0]:List Int).getD i 0∧x3=([0,0,-1,0]:List Int).getD i 0∧x4=([0,0,0,1]:List Int).getD i 0∧c / sh % 3 - 1=cf i∧(0<sh∧sh≤200)∧[Nam.seg 35 98 (cf 0),Nam.seg 43 45 (cf 1),Nam.seg 62 60 (cf 2),Nam.seg 94 118 (cf 3)][i]?=some (Nam.seg c1 d1 (cf i))∧(∀ v∈[x0,x1,x2,x3,x4],-1000≤v∧v≤1000):=by
     rw [hcf]
     match i,hi with
     | 0,_=>cases hx;cases hy;cases hz;exact⟨_,35,98,t0,_,_,_,_,_,7,rfl,rfl,rfl,by decide,w0,rfl,rfl,rfl,rfl,rfl,rfl,by decide,rfl,by decide⟩
     | 1,_=>cases hx;cases hy;cases hz;exact⟨_,43,45,t1,_,_,_,_,_,21,rfl,rfl,rfl,by decide,w1,rfl,rfl,rfl,rfl,rfl,rfl,by decide,rfl,by decide⟩
     | 2,_=>cases hx;cases hy;cases hz;exact⟨_,62,60,t2,_,_,_,_,_,63,rfl,rfl,rfl,by decide,w2,rfl,rfl,rfl,rfl,rfl,rfl,by decide,rfl,by decide⟩
     | 3,_=>cases hx;cases hy;cases hz;exact⟨_,94,118,t3,_,_,_,_,_,189,rfl,rfl,rfl,by decide,w3,rfl,rfl,rfl,rfl,rfl,rfl,by decide,rfl,by decide⟩
    have lS:S'.length=2:=by show S'.cps.size=2;rw [← Array.length_toList,hS];rfl
    have kb:=hcb i hi
    obtain ⟨kk,hkk⟩:∃ kk,cf i=kk:=⟨_,rfl⟩
    rw [hkk] at hsh hsg kb
    have ha1:=SqT.of (K:=K) (sm _ _ mp)
    have hb1:=SqT.of (K:=K) ((sn.trans sm) _ _ htA)
    clear w0 w1 w2 w3 wg ws wq htA mp vi mc
    walk_at "w"
    rw [hsh]
    refine r_ixS (c:=c1) (small2000 (by lia)) (atI_nat (j:=0) (by rw [hS];rfl)) ?_
    walk_at "w"
    refine r_mul1 (by lia) ?_
    have q1:(reps c1 kk.toNat).length=kk.toNat:=Array.size_replicate
    have q2:(reps d1 (0 - kk).toNat).length=(0 - kk).toNat:=Array.size_replicate
    walk_at "w"
    refine r_ixS (c:=d1) (small2000 (by lia)) (atI_nat (j:=1) (by rw [hS];rfl)) ?_
    walk_at "w"
    refine r_mul1 (by lia) ?_
    refine r_addS (small2000 (by rw [PySem.strLen_append];lia)) ?_
    walk_at "w"
    obtain ⟨a0,ea0⟩:∃ a,sx r0 cf [-11,-4,6,-5] i=a:=⟨_,rfl⟩
    obtain ⟨a1,ea1⟩:∃ a,sx r1 cf [7,4,-2,1] i=a:=⟨_,rfl⟩
    obtain ⟨a2,ea2⟩:∃ a,sx 0 cf [0,-1,0,0] i=a:=⟨_,rfl⟩
    obtain ⟨a3,ea3⟩:∃ a,sx 0 cf [0,0,-1,0] i=a:=⟨_,rfl⟩
    obtain ⟨a4,ea4⟩:∃ a,sx 0 cf [0,0,0,1] i=a:=⟨_,rfl⟩
    rw [ea0,ea1,ea2,ea3,ea4] at ha1
    refine rd_compZ (k1:=true) (k2:=true) [some (.int kk)] (fun n=>.int (([a0,a1,a2,a3,a4]:List Int).getD n 0+kk*([x0,x1,x2,x3,x4]:List Int).getD n 0)) rfl (sqt_sq ha1) (sqt_sq hb1) rfl (by show 5≤1000000;decide) (fun n x y H' Qc hx hy s kc=>?_) (fun l1 H1 hl1 s1 m1'=>?_)
    ·obtain ⟨rfl,_⟩:=int_get (r:=[a0,a1,a2,a3,a4]) hx
     obtain ⟨rfl,hn⟩:=int_get (r:=[x0,x1,x2,x3,x4]) hy
     have hmem:([x0,x1,x2,x3,x4]:List Int).getD n 0∈[x0,x1,x2,x3,x4]:=by rw [List.getD,List.getElem?_eq_getElem hn];exact List.getElem_mem _
     walk_at "w"
     exact kc _ (Same.refl _)
    walk_at "w"
    rename_i p9 H9 s9 m9
    refine⟨_,_,_,_,p9,_,rfl,((sn.trans sm).trans s1).trans s9,?_,?_,?_⟩
    ·rw [m9]
     unfold sx
     rw [ea0,ea1,ea2,ea3,ea4,hkk,← hx0,← hx1,← hx2,← hx3,← hx4]
     rfl
    ·rw [Nam.app_list,Nam.app_list,hT,List.take_succ,hsg]
     simp [Nam.seg,reps,List.append_assoc]
    ·rw [PySem.strLen_append,PySem.strLen_append,q1,q2];lia
   ·obtain ⟨o5,o6,o7,o8,p,T',rfl,sn,mp,hT,lT⟩:=hp
    have lT':T'.length≤1+2*4:=lT
    have c0:=hcb 0 (by decide)
    have c1:=hcb 1 (by decide)
    have c2:=hcb 2 (by decide)
    have c3:=hcb 3 (by decide)
    obtain ⟨k0,ek0⟩:∃ a,cf 0=a:=⟨_,rfl⟩
    obtain ⟨k1,ek1⟩:∃ a,cf 1=a:=⟨_,rfl⟩
    obtain ⟨k2,ek2⟩:∃ a,cf 2=a:=⟨_,rfl⟩
    obtain ⟨k3,ek3⟩:∃ a,cf 3=a:=⟨_,rfl⟩
    rw [ek0] at c0;rw [ek1] at c1;rw [ek2] at c2;rw [ek3] at c3
    have mp':Hn p=some (.tup [.int (r0+k0*-11+k1*-4+k2*6+k3*-5),.int (r1+k0*7+k1*4+k2*-2+k3*1),.int (0+k0*0+k1*-1+k2*0+k3*0),.int (0+k0*0+k1*0+k2*-1+k3*0),.int (0+k0*0+k1*0+k2*0+k3*1)]):=by rw [mp,← ek0,← ek1,← ek2,← ek3];rfl
    have hpp:=SqT.of (K:=K) mp'
    clear mp mp' w0 w1 w2 w3 wg ws wq vi mc
    walk_at "w"
    obtain ⟨o,ho⟩:∃ o,c / 567 % 9 - 4=o:=⟨_,rfl⟩
    have hob:-4≤o∧o≤4:=by lia
    have hoo:=Nam.oct_of (o:=o) (by lia) (by lia)
    rw [ho]
    refine r_addS (small2000 (show T'.length+1≤2000 by lia)) ?_
    walk_at "w"
    refine r_str1 (Sgn.log_bd (Nat.lt_of_le_of_lt (show o.natAbs≤9999 by lia) (by decide +kernel))) ?_
    walk_at "w"
    refine r_addS (small2000 (by rw [PySem.strLen_append];show T'.length+1+_≤2000;lia)) ?_
    have e46:(PySem.Str.ofString ".").cps.toList=[46]:=by decide
    have hZ:(T'++PySem.Str.ofString "."++PySem.Str.ofString (toString o)).cps.toList=L::(Nam.seg 35 98 k0++(Nam.seg 43 45 k1++(Nam.seg 62 60 k2++(Nam.seg 94 118 k3++(46::(PySem.Str.ofString (toString o)).cps.toList))))):=by
     rw [Nam.app_list,Nam.app_list,hT,e46,ek0,ek1,ek2,ek3]
     simp [List.append_assoc]
    generalize T'++PySem.Str.ofString "."++PySem.Str.ofString (toString o)=Z at hZ ⊢
    walk_at "w"
    rename_i pu Hu su mu pw Hw sw mw px Hx sX mx pz Hz sz mz
    obtain ⟨u0,hu0⟩:∃ t,r0+k0*-11+k1*-4+k2*6+k3*-5+o=t:=⟨_,rfl⟩
    obtain ⟨u1,hu1⟩:∃ t,r1+k0*7+k1*4+k2*-2+k3*1=t:=⟨_,rfl⟩
    obtain ⟨u2,hu2⟩:∃ t,0+k0*0+k1*-1+k2*0+k3*0=t:=⟨_,rfl⟩
    obtain ⟨u3,hu3⟩:∃ t,0+k0*0+k1*0+k2*-1+k3*0=t:=⟨_,rfl⟩
    obtain ⟨u4,hu4⟩:∃ t,0+k0*0+k1*0+k2*0+k3*1=t:=⟨_,rfl⟩
    rw [hu0,hu1,hu2,hu3,hu4] at mx
    exact k pz Hz Z (.ref px) (some (.row [u0,u1,u2,u3,u4])) (sT.trans (sH.trans (sn.trans (su.trans (sw.trans (sX.trans sz)))))) mz ⟨px,rfl,sz.at (SqT.of mx),by show 5≤100;decide⟩ ⟨u0,u1,u2,u3,u4,rfl,by lia,by lia,by lia,by lia,by lia⟩
theorem sc_law_copy:FnScope ["_law_tune_here"] ["_law_tune_here"] (defScope s_law_copy):=⟨rfl,rfl,rfl,by decide +kernel,rfl,by decide +kernel,by decide +kernel⟩
set_option maxHeartbeats 4000000 in
theorem ok_law_copy (D:Def K mg "_law_copy" s_law_copy ["_law_tune_here"]) (T:Txt K mg G) (Y:base.NoSeer∧P.given.tree=none):Ok P w K mg base 1 "_law_copy" ["_law_tune_here"] (sp_law_copy K):=by
 have S:=sc_law_copy
 refine D.ok S (fun vs H Q E h=>?_) (fun f cdv A outer s H vs Q E hr h=>?_)
 ·obtain ⟨a,m,l,mt,xs,bs,rfl,⟨ha,hm,hl,hbs⟩,h12,k⟩:=h;rfl
 ·obtain ⟨a,m,l,mt,xs,bs,rfl,⟨ha,hm,hl,hbs⟩,h12,k⟩:=h
  have hu:=hu_of hr
  have c_Tuning:=T.c_Tuning
  have c_CommaTuning:=T.c_CommaTuning
  have n_CommaTuning_steps:=T.n_CommaTuning_steps
  have c_KeyTuning:=T.c_KeyTuning
  have n_KeyTuning_own_keys:=T.n_KeyTuning_own_keys
  have c_Board:=T.c_Board
  have n_Board_own_keys:=T.n_Board_own_keys
  have n_Board_octave:=T.n_Board_octave
  refine⟨_,(pss_one (ps_ret (pe_tup (pa_cons (pe_ix (kx_seq K rfl) (pv 0) pe_int (fun _ _=>rfl)) (pa_cons (pe_comp (N:=["_law_bar"]) (ix:=[none]) rfl (kpi_list K rfl (pe_ix (kx_seq K rfl) (pv 0) pe_int (fun _ _=>rfl))) (fun _ _ _ _ _=>(pg_name (i:=0) (show List.Nodup (["_law_bar"]:List Str) by decide +kernel) rfl (Or.inl rfl))) (fun _ _ _ _ _=>rfl) (fun _ _ _ _ _=>(pe_callTy (kN_list K rfl) rfl T.b_list PyProof.Rows.boot_list (pa_cons (pv 0) pa_nil))) rfl (by decide +kernel) (by decide +kernel) rfl True.intro) pa_nil))))),?_⟩
  have lx:=hbs.length
  walk_at "w"
  refine comp_gen 1 [] bs.length (fun l i ys H'=>BarsL K H' ys (bs.take i)∧(V.ref l∉ys)) rfl (fun l H' _ _ _=>⟨.nil,fun z=>nomatch z⟩) (fun l i ys H' h=>by have:=h.1.length;rw [List.length_take] at this;lia) (fun H' s=>⟨xs,s.seq (SqL.of hl),by lia⟩) (fun i H' hi s=>⟨xs,xs[i]'(by lia),s.seq (SqL.of hl),List.getElem?_eq_getElem (by lia)⟩) (fun l2 i x H' H2 own ys ho hi hl0 s9 hl' hp hy Qy Qn ky kn=>?_) (fun l2 H' ys hl0 s9 hl' hp=>?_)
  ·obtain ⟨o1,rfl⟩:∃ o1,own=[o1]:=by match own,ho with|[o1],_=>exact⟨o1,rfl⟩
   obtain ⟨rfl,e⟩:=hy
   obtain ⟨a1,zs,ns,rfl,hz,hns,hni⟩:=(hbs.same s9).get (e xs (s9.seq (SqL.of hl)))
   have et:bs.take (i+1)=bs.take i++[ns]:=by rw [List.take_add_one,hni];rfl
   walk_at "w"
   refine iteT ?_
   walk_at "w"
   rename_i l3 H9 n9 s99 m9
   have hl9:=s99 _ _ hl'
   have ne:l3≠l2:=fun z=>by rw [z,hl'] at n9;cases n9
   refine ky [some (.ref a1)] _ H9 rfl s99 ⟨?_,fun z=>?_⟩
   ·rw [et]
    exact ((hp.1.same s99).off hl9 hp.2).snoc (by rw [upd_ne ne];exact m9) ((hns.same s99).off hl9)
   ·rcases List.mem_append.mp z with z|z
    ·exact hp.2 z
    ·have:=List.mem_singleton.mp z
     cases this
     exact ne rfl
  ·rw [List.take_length] at hp
   have ha9:=s9.at ha
   walk_at "w"
   rename_i p5 H5 s5 m5
   exact k p5 l2 H5 ys hl0 (s9.trans s5) ⟨SqT.of m5,(s9.trans s5).at hm,s5 _ _ hl',hp.1.same s5⟩
theorem sc_law_rest:FnScope ["_law_steps_here","_law_row","_law_found","_law_step","_law_place","_law_by"] ["_law_steps_here","_law_row"] (defScope s_law_rest):=⟨rfl,rfl,rfl,by decide +kernel,rfl,by decide +kernel,by decide +kernel⟩
set_option maxHeartbeats 8000000 in
theorem ok_law_rest (D:Def K mg "_law_rest" s_law_rest ["_law_steps_here","_law_row"]) (T:Txt K mg G) (Y:base.NoSeer∧P.given.tree=none):Ok P w K mg base 1 "_law_rest" ["_law_steps_here","_law_row"] (sp_law_rest K):=by
 have S:=sc_law_rest
 refine D.ok S (fun vs H Q E h=>?_) (fun f cdv A outer s H vs Q E hr h=>?_)
 ·obtain ⟨l,a,ys,rs,r,rfl,hl,hR,hSt,ha,lr,hb,k⟩:=h;rfl
 ·obtain ⟨l,a,ys,rs,r,rfl,hl,hR,hSt,ha,lr,hb,k⟩:=h
  have hu:=hu_of hr
  have c_Tuning:=T.c_Tuning
  have c_CommaTuning:=T.c_CommaTuning
  have n_CommaTuning_steps:=T.n_CommaTuning_steps
  have c_KeyTuning:=T.c_KeyTuning
  have n_KeyTuning_own_keys:=T.n_KeyTuning_own_keys
  have c_Board:=T.c_Board
  have n_Board_own_keys:=T.n_Board_own_keys
  have n_Board_octave:=T.n_Board_octave
  refine⟨_,(pss_cons (ps_set (i:=2) S.nd rfl (Or.inl rfl) (pe_callTy (kN_list K rfl) rfl T.b_list PyProof.Rows.boot_list (pa_cons (pv 1) pa_nil))) (pss_cons (ps_for PassesOwn.never rfl (kpi_list K rfl (pv 0)) (pg_name (i:=3) S.nd rfl (Or.inr rfl)) (pss_cons (ps_set (i:=4) S.nd rfl (Or.inl rfl) (pe_callB (kN_maxL K rfl rfl) rfl T.b_max PyProof.Rows.boot_max (pa_cons (pe_comp (N:=["_law_k","_law_step"]) (ix:=[none,some 3]) rfl (pi_range1 rfl T.b_range (pa_cons pe_int pa_nil)) (fun _ _ _ _ _=>(pg_name (i:=0) (show List.Nodup (["_law_k","_law_step"]:List Str) by decide +kernel) rfl (Or.inl rfl))) (fun _ _ _ _ _=>(pt_cmpR op_ne (pe_ix (kx_seq K rfl) (pv 1) (pv 0) (fun _ _=>rfl)) pe_int (nomark _))) (fun _ _ _ _ _=>(pv 0)) rfl (by decide +kernel) (by decide +kernel) rfl ⟨⟨rfl,Or.inr (Or.inl rfl),rfl,rfl⟩,True.intro⟩) pa_nil))) (pss_cons (ps_set (i:=5) S.nd rfl (Or.inr rfl) (pe_op op_fdiv (pe_ix (kx_seq K rfl) (pv 2) (pv 4) (fun _ _=>rfl)) (pe_ix (kx_seq K rfl) (pv 3) (pv 4) (fun _ _=>rfl)))) (pss_one (ps_setC (k:=2) (N:=["_law_x","_law_y","_law_by"]) (ix:=[none,none,some 5]) S.nd rfl (Or.inl rfl) rfl (kpi_zip2 K rfl false false rfl T.b_zip (pa_cons (pv 2) (pa_cons (pv 3) pa_nil))) (fun _ _ _ _ _=>(kpg_tup (n:=2) K rfl rfl (pgs_cons (pg_name (i:=0) (show List.Nodup (["_law_x","_law_y","_law_by"]:List Str) by decide +kernel) rfl (Or.inl rfl)) (pgs_cons (pg_name (i:=1) (show List.Nodup (["_law_x","_law_y","_law_by"]:List Str) by decide +kernel) rfl (Or.inl rfl)) pgs_nil)))) (fun _ _ _ _ _=>rfl) (fun _ _ _ _ _=>(pe_op op_sub (pv 0) (pe_op op_mul (pv 2) (pv 1)))) rfl (by decide +kernel) (by decide +kernel) rfl ⟨⟨rfl,Or.inr (Or.inl rfl),rfl,rfl⟩,True.intro⟩))))) (pss_one (ps_ret (pe_callTy (kN_tuple K rfl) rfl T.b_tuple PyProof.Rows.boot_tuple (pa_cons (pv 2) pa_nil)))))),?_⟩
  have lR:=hR.length
  have h3:=hSt.cnt
  walk_at "w"
  rename_i p1 H1 n1 s1 m1
  refine f_invL (xs:=ys) (fun i σ Hn=>∃ (o1 o2 o3:Option V) (fd:Addr) (v:List Int),σ=[some (.ref l),some (.ref a),some (.ref fd),o1,o2,o3]∧Same H Hn∧Hn fd=some (.lst (v.map V.int))∧RB rs i r v∧∀ x∈v,-(200*4 ^ i)≤x∧x≤200*4 ^ i) ⟨_,_,_,p1,r,rfl,s1,m1,⟨lr,by rw [Mth.sub_self' lr];exact Mth.Span.zero,fun j s k hj=>by lia⟩,fun x hx=>by have:=hb x hx;lia⟩ (fun i σ Hn hp=>by obtain ⟨_,_,_,_,_,rfl,sn,_⟩:=hp;exact SqL.of (sn _ _ hl)) (fun i x σ Hn hx hp=>?_) (fun σ Hn hp=>?_)
  ·obtain ⟨o1,o2,o3,fd,v,rfl,sn,mf,hRB,hvb⟩:=hp
   have hi:i<ys.length:=(List.getElem?_eq_some_iff.mp hx).1
   obtain ⟨as,s,rfl,hs,hsi⟩:=(hR.same sn).get hx
   have hsm:=List.mem_of_getElem? hsi
   obtain ⟨kk,hk⟩:=hSt.ech.1 s hsm
   have ls:=hSt.len s hsm
   have hk5:kk<5:=Mth.led5 ls hk
   have lv:=hRB.1
   have hsb:=hSt.sm s hsm
   walk_at "w"
   refine rd_rangeFilter [some (.ref as)] (fun i=>s.getD i 0 != 0) rfl (by decide) (fun i' H' Qc hi' s' kc=>?_) (fun i' H' Qc hi' s' kc=>?_) (fun l2 H2 n2 s2 m2=>?_)
   ·walk_at "v"
    refine r_ixL (SqL.of (s' _ _ hs)) (atI_nat (int_at (by rw [ls];exact hi'))) ?_
    walk_at "w"
    have e:(!decide (s.getD i' 0=0))=(s.getD i' 0 != 0):=by
     by_cases h:s.getD i' 0=0
     ·rw [h];rfl
     ·rw [decide_eq_false h,bne_iff_ne.mpr h];rfl
    rw [e]
    exact kc _ (Same.refl _)
   ·walk_at "w"
    exact kc _ (Same.refl _)
   have m2':H2 l2=some (.lst ((((List.range 5).filter fun i=>s.getD i 0 != 0).map fun (i:Nat)=>(i:Int)).map V.int)):=by rw [List.map_map];exact m2
   have hmem:(kk:Int)∈((List.range 5).filter fun i=>s.getD i 0 != 0).map fun (i:Nat)=>(i:Int):=by
    refine List.mem_map.mpr ⟨kk,List.mem_filter.mpr ⟨List.mem_range.mpr hk5,?_⟩,rfl⟩
    have:=hk.1
    exact bne_iff_ne.mpr (by lia)
   walk_at "w"
   refine r_maxL (SqL.of m2') (fun z=>by rw [z] at hmem;simp at hmem) fun mx hm hx'=>?_
   have e:mx=kk:=by
    have h1:=hx' _ hmem
    obtain ⟨j,hj,rfl⟩:=List.mem_map.mp hm
    have h2:=(List.mem_filter.mp hj).2
    by_cases c:kk<j
    ·rw [hk.2 j c] at h2
     exact absurd h2 (by decide)
    ·lia
   rw [e]
   have mf2:=s2 _ _ mf
   have hs2:=s2 _ _ hs
   have pp:(4:Int) ^ (i+1)=4*4 ^ i:=by rw [Int.pow_succ,Int.mul_comm]
   have p4:(4:Int) ^ i≤4 ^ 2∧0<(4:Int) ^ i:=by
    rcases (show i=0∨i=1∨i=2 by lia) with rfl|rfl|rfl <;> decide
   obtain ⟨B,hB⟩:∃ B:Int,200*4 ^ i=B:=⟨_,rfl⟩
   rw [hB] at hvb
   have hB0:0≤B∧B≤3200:=by lia
   obtain ⟨vk,hvk⟩:∃ z,v.getD kk 0=z:=⟨_,rfl⟩
   obtain ⟨sk,hsk⟩:∃ z,s.getD kk 0=z:=⟨_,rfl⟩
   have hskp:0<sk:=by rw [← hsk];exact hk.1
   have hvkb:-B≤vk∧vk≤B:=by
    rw [← hvk]
    exact hvb _ (by rw [List.getD,List.getElem?_eq_getElem (show kk<v.length by lia)];exact List.getElem_mem _)
   have hskb:sk≤3:=by
    rw [← hsk]
    exact (hsb _ (by rw [List.getD,List.getElem?_eq_getElem (show kk<s.length by lia)];exact List.getElem_mem _)).2
   walk_at "w"
   refine r_ixL (SqL.of mf2) (atI_nat (int_at (by lia))) ?_
   walk_at "w"
   refine r_ixL (SqL.of hs2) (atI_nat (int_at (by lia))) ?_
   rw [hvk,hsk]
   have hqb:-B≤vk / sk∧vk / sk≤B:=by
    rcases (show sk=1∨sk=2∨sk=3 by lia) with rfl|rfl|rfl <;> lia
   have hst:=hRB.step hSt lr hsi hk
   rw [hvk,hsk,← zip_low _ lv ls] at hst
   walk_at "w"
   obtain ⟨qq,hqq⟩:∃ z,vk / sk=z:=⟨_,rfl⟩
   rw [hqq] at hst hqb ⊢
   obtain ⟨v0,v1,v2,v3,v4,rfl⟩:=Mth.five_of lv
   obtain ⟨w0,w1,w2,w3,w4,rfl⟩:=Mth.five_of ls
   refine rd_compZ (k1:=false) (k2:=false) [some (.int qq)] (fun n=>.int (([v0,v1,v2,v3,v4]:List Int).getD n 0 - qq*([w0,w1,w2,w3,w4]:List Int).getD n 0)) rfl (sql_sq (SqL.of mf2)) (sql_sq (SqL.of hs2)) rfl (by show 5≤1000000;decide) (fun n x y H' Qc hx hy s kc=>?_) (fun l3 H3 n3 s3 m3=>?_)
   ·obtain ⟨rfl,_⟩:=int_get (r:=[v0,v1,v2,v3,v4]) hx
    obtain ⟨rfl,hn⟩:=int_get (r:=[w0,w1,w2,w3,w4]) hy
    have hwb:=hsb (([w0,w1,w2,w3,w4]:List Int).getD n 0) (by rw [List.getD,List.getElem?_eq_getElem hn];exact List.getElem_mem _)
    walk_at "w"
    exact kc _ (Same.refl _)
   walk_at "w"
   refine⟨_,_,_,l3,List.zipWith (fun x y=>x - qq*y) [v0,v1,v2,v3,v4] [w0,w1,w2,w3,w4],rfl,(sn.trans s2).trans s3,m3,hst,fun x hx2=>?_⟩
   have hm:x∈[v0 - qq*w0,v1 - qq*w1,v2 - qq*w2,v3 - qq*w3,v4 - qq*w4]:=hx2
   have fin:∀ a b,a∈[v0,v1,v2,v3,v4]→b∈[w0,w1,w2,w3,w4]→-(200*4 ^ (i+1))≤a - qq*b∧a - qq*b≤200*4 ^ (i+1):=fun a b ha' hb'=>by
    have z1:=hvb a ha'
    have z2:=mulb hqb (hsb b hb')
    rw [pp]
    lia
   simp only [List.mem_cons,List.not_mem_nil,or_false] at hm
   rcases hm with rfl|rfl|rfl|rfl|rfl <;> exact fin _ _ (by simp) (by simp)
  ·obtain ⟨o1,o2,o3,fd,v,rfl,sn,mf,hRB,hvb⟩:=hp
   rw [← lR] at hRB
   walk_at "w"
   rename_i p5 H5 s5 m5
   exact k p5 H5 v (sn.trans s5) m5 hRB
theorem sc_law_value:FnScope ["_law_w","_law_ring","_law_row","_law_total"] ["_law_w","_law_ring","_law_row"] (defScope s_law_value):=⟨rfl,rfl,rfl,by decide +kernel,rfl,by decide +kernel,by decide +kernel⟩
set_option maxHeartbeats 4000000 in
theorem ok_law_value (D:Def K mg "_law_value" s_law_value ["_law_w","_law_ring","_law_row"]) (T:Txt K mg G) (Y:base.NoSeer∧P.given.tree=none):Ok P w K mg base 1 "_law_value" ["_law_w","_law_ring","_law_row"] (sp_law_value K):=by
 have S:=sc_law_value
 refine D.ok S (fun vs H Q E h=>?_) (fun f cdv A outer s H vs Q E hr h=>?_)
 ·obtain ⟨w,a,m,ws,row,rfl,hw,ha,lw,lrow,hm,hwb,k⟩:=h;rfl
 ·obtain ⟨w,a,m,ws,row,rfl,hw,ha,lw,lrow,hm,hwb,k⟩:=h
  have hu:=hu_of hr
  have c_Tuning:=T.c_Tuning
  have c_CommaTuning:=T.c_CommaTuning
  have n_CommaTuning_steps:=T.n_CommaTuning_steps
  have c_KeyTuning:=T.c_KeyTuning
  have n_KeyTuning_own_keys:=T.n_KeyTuning_own_keys
  have c_Board:=T.c_Board
  have n_Board_own_keys:=T.n_Board_own_keys
  have n_Board_octave:=T.n_Board_octave
  refine⟨_,(pss_cons (ps_set (i:=3) S.nd rfl (Or.inl rfl) (pe_callB (kN_sum K rfl rfl) rfl T.b_sum PyProof.Rows.boot_sum (pa_cons (pe_comp (N:=["_law_x","_law_y"]) (ix:=[none,none]) rfl (kpi_zip2 K rfl true true rfl T.b_zip (pa_cons (pv 0) (pa_cons (pv 2) pa_nil))) (fun _ _ _ _ _=>(kpg_tup (n:=2) K rfl rfl (pgs_cons (pg_name (i:=0) (show List.Nodup (["_law_x","_law_y"]:List Str) by decide +kernel) rfl (Or.inl rfl)) (pgs_cons (pg_name (i:=1) (show List.Nodup (["_law_x","_law_y"]:List Str) by decide +kernel) rfl (Or.inl rfl)) pgs_nil)))) (fun _ _ _ _ _=>rfl) (fun _ _ _ _ _=>(pe_op op_mul (pv 0) (pv 1))) rfl (by decide +kernel) (by decide +kernel) rfl True.intro) pa_nil))) (pss_cons (ps_if (pt_cmpR op_eq (pv 1) pe_int (nomark _)) (pss_one (ps_ret (pv 3))) pss_nil) (pss_one (ps_ret (pe_op op_mod (pv 3) (pv 1)))))),?_⟩
  obtain ⟨w0,w1,w2,w3,w4,rfl⟩:=Mth.five_of lw
  obtain ⟨r0,r1,r2,r3,r4,rfl⟩:=Mth.five_of lrow
  walk_at "w"
  refine rd_compZ (k1:=true) (k2:=true) [] (fun n=>.int (([w0,w1,w2,w3,w4]:List Int).getD n 0*([r0,r1,r2,r3,r4]:List Int).getD n 0)) rfl (sqt_sq hw) (sqt_sq ha) rfl (by show 5≤1000000;decide) (fun n x y H' Qc hx hy s kc=>?_) (fun l3 H3 n3 s3 m3=>?_)
  ·obtain ⟨rfl,hn⟩:=int_get (r:=[w0,w1,w2,w3,w4]) hx
   obtain ⟨rfl,_⟩:=int_get (r:=[r0,r1,r2,r3,r4]) hy
   have hmem:=hwb (([w0,w1,w2,w3,w4]:List Int).getD n 0) (by rw [List.getD,List.getElem?_eq_getElem hn];exact List.getElem_mem _)
   walk_at "w"
   exact kc _ (Same.refl _)
  have m3':H3 l3=some (.lst ([w0*r0,w1*r1,w2*r2,w3*r3,w4*r4].map V.int)):=m3
  have ed:[w0*r0,w1*r1,w2*r2,w3*r3,w4*r4].sum=dot [r0,r1,r2,r3,r4] [w0,w1,w2,w3,w4]:=by
   show w0*r0+(w1*r1+(w2*r2+(w3*r3+(w4*r4+0))))=r0*w0+(r1*w1+(r2*w2+(r3*w3+(r4*w4+0))))
   rw [Int.mul_comm w0,Int.mul_comm w1,Int.mul_comm w2,Int.mul_comm w3,Int.mul_comm w4]
  walk_at "w"
  refine r_sum (SqL.of m3') ?_
  rw [ed]
  walk_at "w"
  refine if_both (fun h4=>?_) (fun h4=>?_)
  ·have h4':m=0:=by simpa using h4
   have e:val [w0,w1,w2,w3,w4] m [r0,r1,r2,r3,r4]=dot [r0,r1,r2,r3,r4] [w0,w1,w2,w3,w4]:=by unfold val;rw [if_pos h4']
   rw [e] at k
   walk_at "w"
   exact k _ s3
  ·have h4':m≠0:=by simpa using h4
   have e:val [w0,w1,w2,w3,w4] m [r0,r1,r2,r3,r4]=dot [r0,r1,r2,r3,r4] [w0,w1,w2,w3,w4] % m:=by unfold val;rw [if_neg h4']
   rw [e] at k
   have hm2:0<m:=by lia
   walk_at "w"
   exact k _ s3
theorem sc_Tuning_sound:FnScope ["self","row"] ["self","row"] (defScope s_Tuning_sound):=⟨rfl,rfl,rfl,by decide +kernel,rfl,by decide +kernel,by decide +kernel⟩
theorem ok_Tuning_sound (D:DefM K G.f_Tuning_sound "sound" "Tuning.sound" s_Tuning_sound ["self","row"]) (T:Txt K mg G) (Y:base.NoSeer∧P.given.tree=none):OkM P w K mg base 1 G.f_Tuning_sound ["self","row"] (sp_Tuning_sound K):=by
 have S:=sc_Tuning_sound
 refine D.ok S (fun vs H Q E h=>?_) (fun f cdv A outer s H vs Q E hr h=>?_)
 ·obtain ⟨x,y,rfl,k⟩:=h;rfl
 ·obtain ⟨x,y,rfl,k⟩:=h
  have hu:=hu_of hr
  have c_Tuning:=T.c_Tuning
  have c_CommaTuning:=T.c_CommaTuning
  have n_CommaTuning_steps:=T.n_CommaTuning_steps
  have c_KeyTuning:=T.c_KeyTuning
  have n_KeyTuning_own_keys:=T.n_KeyTuning_own_keys
  have c_Board:=T.c_Board
  have n_Board_own_keys:=T.n_Board_own_keys
  have n_Board_octave:=T.n_Board_octave
  refine⟨_,(pss_one (ps_ret (pv 1))),?_⟩
  walk_at "w"
  exact k
theorem sc_value:FnScope ["key","row","total"] ["key","row"] (defScope s_value):=⟨rfl,rfl,rfl,by decide +kernel,rfl,by decide +kernel,by decide +kernel⟩
structure Os_value (P:Program) (w:World) (K:PySem.W.Frag) (mg:Str→Option Value) (base:Heap) (G:Adr):Prop where
 heard:Ok P w K mg base 1 "heard" ["weights","row"] (sp_heard K)
theorem ok_value (D:Def K mg "value" s_value ["key","row"]) (T:Txt K mg G) (O:Os_value P w K mg base G) (Y:base.NoSeer∧P.given.tree=none):Ok P w K mg base 2 "value" ["key","row"] (sp_value K):=by
 have S:=sc_value
 refine D.ok S (fun vs H Q E h=>?_) (fun f cdv A outer s H vs Q E hr h=>?_)
 ·obtain ⟨kk,w,r,m,ws,rs,rfl,hk,hw,hra,hl,hn,hm,h0,k⟩:=h;rfl
 ·obtain ⟨kk,w,r,m,ws,rs,rfl,hk,hw,hra,hl,hn,hm,h0,k⟩:=h
  have hu:=hu_of hr
  have c_Tuning:=T.c_Tuning
  have c_CommaTuning:=T.c_CommaTuning
  have n_CommaTuning_steps:=T.n_CommaTuning_steps
  have c_KeyTuning:=T.c_KeyTuning
  have n_KeyTuning_own_keys:=T.n_KeyTuning_own_keys
  have c_Board:=T.c_Board
  have n_Board_own_keys:=T.n_Board_own_keys
  have n_Board_octave:=T.n_Board_octave
  refine⟨_,(pss_cons (ps_set (i:=2) S.nd rfl (Or.inl rfl) (pcall O.heard (hr.mono (by decide)) (pa_cons (pe_ix (kx_seq K rfl) (pv 0) pe_int (fun _ _=>rfl)) (pa_cons (pv 1) pa_nil)))) (pss_one (ps_ret (pe_ifExp (pt_cmpR op_eq (pe_ix (kx_seq K rfl) (pv 0) pe_int (fun _ _=>rfl)) pe_int (nomark _)) (pv 2) (pe_op op_mod (pv 2) (pe_ix (kx_seq K rfl) (pv 0) pe_int (fun _ _=>rfl))))))),?_⟩
  walk_at "w"
  refine c_heard ws rs hw hra hl hn hm fun H1 s1=>?_
  walk_at "w"
  refine if_both (fun hc=>?_) (fun hc=>?_)
  ·walk_at "w"
   unfold val at k
   rw [if_pos (of_decide_eq_true hc)] at k
   exact k _ s1
  ·have hz:m≠0:=of_decide_eq_false hc
   unfold val at k
   rw [if_neg hz] at k
   walk_at "w"
   exact k _ s1
theorem sc_law_pieces:FnScope ["_law_cell","_law_count","_law_total","_law_pieces_here","_law_left","_law_k","_law_more"] ["_law_cell","_law_count","_law_total"] (defScope s_law_pieces):=⟨rfl,rfl,rfl,by decide +kernel,rfl,by decide +kernel,by decide +kernel⟩
structure Os_law_pieces (P:Program) (w:World) (K:PySem.W.Frag) (mg:Str→Option Value) (base:Heap) (G:Adr):Prop where
 law_mixed:Ok P w K mg base 1 "_law_mixed" ["_law_cell","_law_k"] (sp_law_mixed K)
set_option maxHeartbeats 4000000 in
theorem ok_law_pieces (D:Def K mg "_law_pieces" s_law_pieces ["_law_cell","_law_count","_law_total"]) (T:Txt K mg G) (O:Os_law_pieces P w K mg base G) (Y:base.NoSeer∧P.given.tree=none):Ok P w K mg base 2 "_law_pieces" ["_law_cell","_law_count","_law_total"] (sp_law_pieces K):=by
 have S:=sc_law_pieces
 refine D.ok S (fun vs H Q E h=>?_) (fun f cdv A outer s H vs Q E hr h=>?_)
 ·obtain ⟨c,n,t,rfl,h1,h2,h3,h4,k⟩:=h;rfl
 ·obtain ⟨c,n,t,rfl,h1,h2,h3,h4,k⟩:=h
  have hu:=hu_of hr
  have c_Tuning:=T.c_Tuning
  have c_CommaTuning:=T.c_CommaTuning
  have n_CommaTuning_steps:=T.n_CommaTuning_steps
  have c_KeyTuning:=T.c_KeyTuning
  have n_KeyTuning_own_keys:=T.n_KeyTuning_own_keys
  have c_Board:=T.c_Board
  have n_Board_own_keys:=T.n_Board_own_keys
  have n_Board_octave:=T.n_Board_octave
  refine⟨_,(pss_cons (ps_set (i:=3) S.nd rfl (Or.inl rfl) (pe_lst pa_nil)) (pss_cons (ps_set (i:=4) S.nd rfl (Or.inl rfl) (pe_op op_sub (pv 2) (pv 1))) (pss_cons (ps_for PassesOwn.never rfl (pi_range1 rfl T.b_range (pa_cons (pe_op op_sub (pv 1) pe_int) pa_nil)) (pg_name (i:=5) S.nd rfl (Or.inl rfl)) (pss_cons (ps_set (i:=6) S.nd rfl (Or.inl rfl) (pe_op op_mod (pcall O.law_mixed (hr.mono (by decide)) (pa_cons (pv 0) (pa_cons (pe_op op_add pe_int (pv 5)) pa_nil))) (pe_op op_add (pv 4) pe_int))) (pss_cons (ps_expr (pe_bm PySem.F.plainAttrs_list PySem.F.slot_list_append PySem.F.type_list_append mt_append (pv 3) (pa_cons (pe_op op_add pe_int (pv 6)) pa_nil))) (pss_one (ps_set (i:=4) S.nd rfl (Or.inl rfl) (pe_op op_sub (pv 4) (pv 6))))))) (pss_one (ps_ret (pe_op op_cat (pv 3) (pe_lst (pa_cons (pe_op op_add pe_int (pv 4)) pa_nil)))))))),?_⟩
  walk_at "w"
  rename_i p1 H1 n1 s1 m1
  refine f_invR (fun i σ Hn=>∃ (o1 o2:Option V) (ps:List Int) (left:Int),σ=[some (.int c),some (.int (n:Int)),some (.int (t:Int)),some (.ref p1),some (.int left),o1,o2]∧Same H Hn∧Hn p1=some (.lst (ps.map V.int))∧ps.length=i∧(∀ p∈ps,1≤p∧p≤(t:Int))∧0≤left∧(i:Int)≤ps.sum∧ps.sum+left+n=t+i) ⟨_,_,[],_,rfl,s1,m1,rfl,(fun _ z=>nomatch z),by lia,by simp,by simp <;> lia⟩ (fun i σ Hn hi hp=>?_) (fun σ Hn hp=>?_)
  ·obtain ⟨o1,o2,ps,left,rfl,sn,mp,lp,hpb,hl0,hsi,hsum⟩:=hp
   have hi':i+1<n:=by lia
   walk_at "w"
   refine c_law_mixed (by lia) fun q1 z1 z2=>?_
   have b1:=Int.emod_nonneg q1 (show left+1≠0 by lia)
   have b2:=Int.emod_lt_of_pos q1 (show 0<left+1 by lia)
   have hlp:0<left+1:=by lia
   walk_at "w"
   refine r_append mp (by rw [List.length_map];lia) ?_
   walk_at "w"
   refine⟨_,_,ps++[1+q1 % (left+1)],_,rfl,sn.upd_old n1,?_,by simp [lp],fun p hp=>?_,by lia,?_,?_⟩
   ·rw [upd_same,List.map_append];rfl
   ·rcases List.mem_append.mp hp with z|z
    ·exact hpb p z
    ·rw [List.mem_singleton.mp z];lia
   ·rw [List.sum_append,List.sum_singleton];lia
   ·rw [List.sum_append,List.sum_singleton];lia
  ·obtain ⟨o1,o2,ps,left,rfl,sn,mp,lp,hpb,hl0,hsi,hsum⟩:=hp
   walk_at "w"
   rename_i p2 H2 n2 s2 m2 p3 H3 n3 s3 m3
   refine k p3 H3 (ps++[1+left]) ((sn.trans s2).new n3) ((sn.trans s2).trans s3) (by rw [m3,List.map_append];rfl) (by rw [List.length_append];show ps.length+1=n;lia) (fun p hp=>?_) ?_
   ·rcases List.mem_append.mp hp with z|z
    ·exact hpb p z
    ·rw [List.mem_singleton.mp z];lia
   ·rw [List.sum_append,List.sum_singleton];lia
theorem sc_law_steps:FnScope ["_law_script","_law_at","_law_some","_law_places","_law_steps_here","_law_k","_law_cell","_law_step"] ["_law_script","_law_at"] (defScope s_law_steps):=⟨rfl,rfl,rfl,by decide +kernel,rfl,by decide +kernel,by decide +kernel⟩
structure Os_law_steps (P:Program) (w:World) (K:PySem.W.Frag) (mg:Str→Option Value) (base:Heap) (G:Adr):Prop where
 law_cell_at:Ok P w K mg base 1 "_law_cell_at" ["_law_script","_law_k"] (sp_law_cell_at K)
 law_mixed:Ok P w K mg base 1 "_law_mixed" ["_law_cell","_law_k"] (sp_law_mixed K)
set_option maxHeartbeats 8000000 in
theorem ok_law_steps (D:Def K mg "_law_steps" s_law_steps ["_law_script","_law_at"]) (T:Txt K mg G) (O:Os_law_steps P w K mg base G) (Y:base.NoSeer∧P.given.tree=none):Ok P w K mg base 2 "_law_steps" ["_law_script","_law_at"] (sp_law_steps K):=by
 have S:=sc_law_steps
 refine D.ok S (fun vs H Q E h=>?_) (fun f cdv A outer s H vs Q E hr h=>?_)
 ·obtain ⟨a,ns,j,rfl,ha,hj0,hj1,k⟩:=h;rfl
 ·obtain ⟨a,ns,j,rfl,ha,hj0,hj1,k⟩:=h
  have hu:=hu_of hr
  have c_Tuning:=T.c_Tuning
  have c_CommaTuning:=T.c_CommaTuning
  have n_CommaTuning_steps:=T.n_CommaTuning_steps
  have c_KeyTuning:=T.c_KeyTuning
  have n_KeyTuning_own_keys:=T.n_KeyTuning_own_keys
  have c_Board:=T.c_Board
  have n_Board_own_keys:=T.n_Board_own_keys
  have n_Board_octave:=T.n_Board_octave
  refine⟨_,(@pss_cons _ _ _ _ _ (@ps_set _ _ 2 _ _ _ _ S.nd rfl (Or.inl rfl) (@pe_lst _ _ _ _ (@pa_cons _ _ _ _ _ (@pe_tup _ _ _ _ _ (pa_cons pe_int (pa_cons pe_int (pa_cons pe_int pa_nil)))) (@pa_cons _ _ _ _ _ (@pe_tup _ _ _ _ _ (pa_cons pe_int (pa_cons pe_int (pa_cons pe_int pa_nil)))) (@pa_cons _ _ _ _ _ (@pe_tup _ _ _ _ _ (pa_cons pe_int (pa_cons pe_int (pa_cons pe_int pa_nil)))) (@pa_cons _ _ _ _ _ (@pe_tup _ _ _ _ _ (pa_cons pe_int (pa_cons pe_int (pa_cons pe_int pa_nil)))) (@pa_cons _ _ _ _ _ (@pe_tup _ _ _ _ _ (pa_cons pe_int (pa_cons pe_int (pa_cons pe_int pa_nil)))) (@pa_cons _ _ _ _ _ (@pe_tup _ _ _ _ _ (pa_cons pe_int (pa_cons pe_int (pa_cons pe_int pa_nil)))) (@pa_cons _ _ _ _ _ (@pe_tup _ _ _ _ _ (pa_cons pe_int (pa_cons pe_int (pa_cons pe_int pa_nil)))) (@pa_cons _ _ _ _ _ (@pe_tup _ _ _ _ _ (pa_cons pe_int (pa_cons pe_int (pa_cons pe_int pa_nil)))) pa_nil (by rfl)) (by rfl)) (by rfl)) (by rfl)) (by rfl)) (by rfl)) (by rfl)) (by rfl))) (by rfl) (by first|exact .inl rfl|exact .inr rfl|assumption)) (pss_cons (ps_set (i:=3) S.nd rfl (Or.inl rfl) (pe_ix (kx_seq K rfl) (pv 2) (pe_op op_mod (pe_op op_fdiv (pcall O.law_cell_at (hr.mono (by decide)) (pa_cons (pv 0) (pa_cons (pv 1) pa_nil))) pe_int) pe_int) (fun _ _=>rfl))) (pss_cons (ps_set (i:=4) S.nd rfl (Or.inl rfl) (pe_lst pa_nil)) (pss_cons (ps_for PassesOwn.never rfl (pi_range1 rfl T.b_range (pa_cons (pe_op op_mod (pcall O.law_cell_at (hr.mono (by decide)) (pa_cons (pv 0) (pa_cons (pv 1) pa_nil))) pe_int) pa_nil)) (pg_name (i:=5) S.nd rfl (Or.inl rfl)) (pss_cons (ps_set (i:=6) S.nd rfl (Or.inr rfl) (pe_op op_add (pcall O.law_cell_at (hr.mono (by decide)) (pa_cons (pv 0) (pa_cons (pe_op op_add (pe_op op_add (pv 1) pe_int) (pv 5)) pa_nil))) (pv 5))) (pss_cons (ps_setC (k:=7) (N:=["_law_j","_law_cell"]) (ix:=[none,some 6]) S.nd rfl (Or.inl rfl) rfl (pi_range1 rfl T.b_range (pa_cons (pe_ix (kx_seq K rfl) (pv 3) (pv 5) (fun _ _=>rfl)) pa_nil)) (fun _ _ _ _ _=>(pg_name (i:=0) (show List.Nodup (["_law_j","_law_cell"]:List Str) by decide +kernel) rfl (Or.inl rfl))) (fun _ _ _ _ _=>rfl) (fun _ _ _ _ _=>(pe_op op_sub (pe_op op_mod (pcall O.law_mixed (hr.mono (by decide)) (pa_cons (pv 1) (pa_cons (pe_op op_add pe_int (pv 0)) pa_nil))) pe_int) pe_int)) rfl (by decide +kernel) (by decide +kernel) rfl ⟨⟨rfl,Or.inr (Or.inl rfl),rfl,rfl⟩,True.intro⟩) (pss_one (ps_expr (pe_bm PySem.F.plainAttrs_list PySem.F.slot_list_append PySem.F.type_list_append mt_append (pv 4) (pa_cons (pe_op op_cat (pe_op op_cat (pv 7) (pe_lst (pa_cons (pe_op op_add pe_int (pe_op op_mod (pcall O.law_mixed (hr.mono (by decide)) (pa_cons (pv 6) (pa_cons pe_int pa_nil))) pe_int)) pa_nil))) (pe_op op_rep (pe_lst (pa_cons pe_int pa_nil)) (pe_op op_sub pe_int (pe_ix (kx_seq K rfl) (pv 3) (pv 5) (fun _ _=>rfl))))) pa_nil))))))) (pss_one (ps_ret (pv 4))))))),?_⟩
  walk_at "w"
  rename_i p0 H0 s0 m0 p1 H1 s1 m1 p2 H2 s2 m2 p3 H3 s3 m3 p4 H4 s4 m4 p5 H5 s5 m5 p6 H6 s6 m6 p7 H7 s7 m7 p8 H8 n8 s8 m8
  have e7:=s8 _ _ m7
  have e6:=s8 _ _ (s7 _ _ m6)
  have e5:=s8 _ _ (s7 _ _ (s6 _ _ m5))
  have e4:=s8 _ _ (s7 _ _ (s6 _ _ (s5 _ _ m4)))
  have e3:=s8 _ _ (s7 _ _ (s6 _ _ (s5 _ _ (s4 _ _ m3))))
  have e2:=s8 _ _ (s7 _ _ (s6 _ _ (s5 _ _ (s4 _ _ (s3 _ _ m2)))))
  have e1:=s8 _ _ (s7 _ _ (s6 _ _ (s5 _ _ (s4 _ _ (s3 _ _ (s2 _ _ m1))))))
  have e0:=s8 _ _ (s7 _ _ (s6 _ _ (s5 _ _ (s4 _ _ (s3 _ _ (s2 _ _ (s1 _ _ m0)))))))
  have sT:Same H H8:=(((((((s0.trans s1).trans s2).trans s3).trans s4).trans s5).trans s6).trans s7).trans s8
  obtain ⟨c,hc⟩:∃ c,ns.getD j.toNat 0=c:=⟨_,rfl⟩
  rw [hc]
  obtain ⟨i8,hi8,hi88⟩:∃ i:Nat,c / 4 % 8=(i:Int)∧i<8:=⟨(c / 4 % 8).toNat,by lia,by lia⟩
  rw [hi8]
  obtain ⟨q,x0,x1,x2,hq,hqr,b0,b1,b2⟩:∃ (q:Addr) (x0 x1 x2:Nat),atI [V.ref p0,V.ref p1,V.ref p2,V.ref p3,V.ref p4,V.ref p5,V.ref p6,V.ref p7] (i8:Int)=some (.ref q)∧H8 q=some (.tup [.int x0,.int x1,.int x2])∧x0≤4∧x1<x0∧x2<x1:=by
   match i8,hi88 with
   | 0,_=>exact⟨_,4,3,2,rfl,e0,by decide,by decide,by decide⟩
   | 1,_=>exact⟨_,4,3,1,rfl,e1,by decide,by decide,by decide⟩
   | 2,_=>exact⟨_,4,2,1,rfl,e2,by decide,by decide,by decide⟩
   | 3,_=>exact⟨_,3,2,1,rfl,e3,by decide,by decide,by decide⟩
   | 4,_=>exact⟨_,4,3,0,rfl,e4,by decide,by decide,by decide⟩
   | 5,_=>exact⟨_,4,2,0,rfl,e5,by decide,by decide,by decide⟩
   | 6,_=>exact⟨_,3,1,0,rfl,e6,by decide,by decide,by decide⟩
   | 7,_=>exact⟨_,2,1,0,rfl,e7,by decide,by decide,by decide⟩
  refine r_ixL (SqL.of m8) hq ?_
  clear e0 e1 e2 e3 e4 e5 e6 e7 m0 m1 m2 m3 m4 m5 m6 m7 s0 s1 s2 s3 s4 s5 s6 s7 s8 n8 hq hi8
  have haT:=sT.seq ha
  walk_at "w"
  rename_i pl HL nL sL mL
  have hqL:=sL _ _ hqr
  obtain ⟨N,hN,hN3⟩:∃ N:Nat,(c % 4).toNat=N∧N≤3:=⟨_,rfl,by lia⟩
  rw [hc,hN]
  obtain ⟨px,hpx⟩:∃ px:Nat→Nat,px=fun i=>([x0,x1,x2]:List Nat).getD i 0:=⟨_,rfl⟩
  have hpd:∀ i j,i<j→j<3→px j<px i:=fun i j h1 h2=>by
   rw [hpx]
   rcases (show (i=0∧j=1)∨(i=0∧j=2)∨(i=1∧j=2) by lia) with ⟨rfl,rfl⟩|⟨rfl,rfl⟩|⟨rfl,rfl⟩
   ·exact b1
   ·exact Nat.lt_trans b2 b1
   ·exact b2
  have hp4:∀ i,i<3→px i≤4:=fun i h=>by
   rw [hpx]
   match i,h with
   | 0,_=>exact b0
   | 1,_=>show x1≤4;lia
   | 2,_=>show x2≤4;lia
  refine f_invR (fun i σ Hn=>∃ (o1 o2 o3:Option V) (ys:List V) (rs:List (List Int)),σ=[some (.ref a),some (.int j),some (.ref p8),some (.ref q),some (.ref pl),o1,o2,o3]∧Same H8 Hn∧Hn pl=some (.lst ys)∧LstsL Hn ys rs∧(∀ x∈ys,x≠V.ref pl)∧rs.length=i∧(∀ (j:Nat) (r:List Int),rs[j]?=some r→Mth.Led r (px j)∧r.length=5∧∀ x∈r,-3≤x∧x≤3)) ⟨_,_,_,[],[],rfl,sL,mL,.nil,(fun _ z=>nomatch z),rfl,fun j r h=>by simp at h⟩ (fun i σ Hn hi hp=>?_) (fun σ Hn hp=>?_)
  ·obtain ⟨o1,o2,o3,ys,rs,rfl,sn,mp,hR,hno,lrs,hl⟩:=hp
   have hi3:i<3:=by lia
   have haN:=sn.seq haT
   have hqN:SqT K Hn q [.int x0,.int x1,.int x2]:=SqT.of (sn _ _ hqr)
   have h4:=hp4 i hi3
   obtain ⟨P,hP,hix⟩:∃ P:Nat,px i=P∧atI [V.int x0,V.int x1,V.int x2] (0+(i:Int))=some (.int P):=by
    rw [hpx]
    match i,hi3 with
    | 0,_=>exact⟨_,rfl,rfl⟩
    | 1,_=>exact⟨_,rfl,rfl⟩
    | 2,_=>exact⟨_,rfl,rfl⟩
   rw [hP] at h4
   walk_at "w"
   refine r_ixT hqN hix ?_
   walk_at "w"
   refine rd_rangeI [some (.int _)] (fun _ x=>-2≤x∧x≤2) rfl (by lia) (fun i' H' Qc hi' s' kc=>?_) (fun l5 H5 xs n5 s5 m5 lx hx=>?_)
   ·walk_at "w"
    refine c_law_mixed (by lia) fun mm g1 g2=>?_
    walk_at "w"
    exact kc _ _ (by lia) (Same.refl _)
   have lx':xs.length=P:=by rw [lx];lia
   walk_at "w"
   refine c_law_mixed (by lia) fun mm g1 g2=>?_
   walk_at "w"
   rename_i p6 H6 n6 s6 m6 p7 H7 n7 s7 m7 p9 H9 n9 s9 m9
   have s59:=((s5.trans s6).trans s7).trans s9
   refine r_ixT (s59.at hqN) hix ?_
   refine r_I0 ?_
   rw [show (4:Int) - (P:Int)=((4 - P:Nat):Int) by lia]
   refine r_rep m9 (by show 1*(4 - P)≤1000;lia) (fun pA HA nA sA mA=>?_) (by lia)
   have er:(List.replicate (4 - P) [V.int 0]).flatten=(List.replicate (4 - P) (0:Int)).map V.int:=by rw [List.map_replicate,List.flatten_replicate_singleton]
   rw [er] at mA
   refine r_cat (sA _ _ (s9 _ _ m7)) mA (by rw [List.length_append,List.length_map,List.length_map,List.length_replicate];show _+1+_≤_;lia) fun pB HB nB sB mB=>?_
   have s5B:=(s59.trans sA).trans sB
   have eB:=s5B _ _ mp
   have lR:=hR.length
   walk_at "w"
   refine r_append eB (by lia) ?_
   walk_at "w"
   have hv0:0<1+mm % 3:=by lia
   have nB0:Hn pB=none:=(s59.trans sA).new nB
   have neB:pB≠pl:=fun z=>by rw [z,mp] at nB0;cases nB0
   refine⟨_,_,_,ys++[.ref pB],rs++[xs++[1+mm % 3]++List.replicate (4 - P) 0],rfl,(sn.trans s5B).upd_old nL,upd_same,?_,fun x hx'=>?_,by simp [lrs],fun j' r hr=>?_⟩
   ·refine ((hR.same s5B).off hno).append (.cons ?_ .nil)
    rw [upd_ne neB,mB,List.map_append,List.map_append]
    rfl
   ·rcases List.mem_append.mp hx' with z|z
    ·exact hno x z
    ·rw [List.mem_singleton.mp z]
     intro e
     cases e
     exact neB rfl
   ·by_cases hlt:j'<rs.length
    ·rw [List.getElem?_append_left hlt] at hr
     exact hl j' r hr
    ·have hlt2:=(List.getElem?_eq_some_iff.mp hr).1
     rw [List.length_append,List.length_singleton] at hlt2
     obtain rfl:j'=i:=by lia
     rw [List.getElem?_append_right (by lia),show j' - rs.length=0 by lia] at hr
     cases hr
     rw [hP]
     refine⟨led_mk lx' hv0,by rw [List.length_append,List.length_append,List.length_replicate,lx'];show P+1+(4 - P)=5;lia,fun x hx2=>?_⟩
     rcases List.mem_append.mp hx2 with z|z
     ·rcases List.mem_append.mp z with z|z
      ·obtain ⟨j3,hj3,e3⟩:=List.getElem_of_mem z
       have:=hx j3 x (by rw [List.getElem?_eq_getElem hj3,e3])
       lia
      ·rw [List.mem_singleton.mp z];lia
     ·rw [(List.mem_replicate.mp z).2];lia
  ·obtain ⟨o1,o2,o3,ys,rs,rfl,sn,mp,hR,hno,lrs,hl⟩:=hp
   walk_at "w"
   exact k pl Hn ys rs (sT.new nL) (sT.trans sn) mp hR hno (Stp.of (pl:=px) (by lia) hpd hl)
theorem sc_law_commas:FnScope ["_law_steps_here","_law_cell","_law_commas_here","_law_k","_law_at","_law_by"] ["_law_steps_here","_law_cell"] (defScope s_law_commas):=⟨rfl,rfl,rfl,by decide +kernel,rfl,by decide +kernel,by decide +kernel⟩
structure Os_law_commas (P:Program) (w:World) (K:PySem.W.Frag) (mg:Str→Option Value) (base:Heap) (G:Adr):Prop where
 law_mixed:Ok P w K mg base 1 "_law_mixed" ["_law_cell","_law_k"] (sp_law_mixed K)
set_option maxHeartbeats 8000000 in
theorem ok_law_commas (D:Def K mg "_law_commas" s_law_commas ["_law_steps_here","_law_cell"]) (T:Txt K mg G) (O:Os_law_commas P w K mg base G) (Y:base.NoSeer∧P.given.tree=none):Ok P w K mg base 2 "_law_commas" ["_law_steps_here","_law_cell"] (sp_law_commas K):=by
 have S:=sc_law_commas
 refine D.ok S (fun vs H Q E h=>?_) (fun f cdv A outer s H vs Q E hr h=>?_)
 ·obtain ⟨l,c,ys,rs,rfl,hl,hR,hSt,k⟩:=h;rfl
 ·obtain ⟨l,c,ys,rs,rfl,hl,hR,hSt,k⟩:=h
  have hu:=hu_of hr
  have c_Tuning:=T.c_Tuning
  have c_CommaTuning:=T.c_CommaTuning
  have n_CommaTuning_steps:=T.n_CommaTuning_steps
  have c_KeyTuning:=T.c_KeyTuning
  have n_KeyTuning_own_keys:=T.n_KeyTuning_own_keys
  have c_Board:=T.c_Board
  have n_Board_own_keys:=T.n_Board_own_keys
  have n_Board_octave:=T.n_Board_octave
  refine⟨_,(@pss_cons _ _ _ _ _ (ps_setC (k:=2) (N:=["_law_step"]) (ix:=[none]) S.nd rfl (Or.inl rfl) rfl (kpi_list K rfl (pv 0)) (fun _ _ _ _ _=>(pg_name (i:=0) (show List.Nodup (["_law_step"]:List Str) by decide +kernel) rfl (Or.inl rfl))) (fun _ _ _ _ _=>rfl) (fun _ _ _ _ _=>(pe_callTy (kN_list K rfl) rfl T.b_list PyProof.Rows.boot_list (pa_cons (pv 0) pa_nil))) rfl (by decide +kernel) (by decide +kernel) rfl True.intro) (@pss_cons _ _ _ _ _ (ps_for PassesOwn.never rfl (pi_range1 rfl T.b_range (pa_cons pe_int pa_nil)) (pg_name (i:=3) S.nd rfl (Or.inl rfl)) (pss_one (ps_if (pt_cmpR op_gt (pe_callB (kN_len K rfl) rfl T.b_len PySem.boot_len (pa_cons (pv 2) pa_nil)) pe_int (nomark _)) (pss_cons (ps_set (i:=4) S.nd rfl (Or.inl rfl) (pe_op op_mod (pv 3) (pe_callB (kN_len K rfl) rfl T.b_len PySem.boot_len (pa_cons (pv 2) pa_nil)))) (pss_cons (ps_set (i:=5) S.nd rfl (Or.inr rfl) (pe_op op_sub (pe_op op_mod (pcall O.law_mixed (hr.mono (by decide)) (pa_cons (pv 1) (pa_cons (pe_op op_add pe_int (pv 3)) pa_nil))) pe_int) pe_int)) (pss_one (ps_asg (pe_comp (N:=["_law_x","_law_y","_law_by"]) (ix:=[none,none,some 5]) rfl (kpi_zip2 K rfl false false rfl T.b_zip (pa_cons (pe_ix (kx_seq K rfl) (pv 2) (pv 4) (fun _ _=>rfl)) (pa_cons (pe_ix (kx_seq K rfl) (pv 2) (pe_op op_mod (pe_op op_add (pv 3) pe_int) (pe_callB (kN_len K rfl) rfl T.b_len PySem.boot_len (pa_cons (pv 2) pa_nil))) (fun _ _=>rfl)) pa_nil))) (fun _ _ _ _ _=>(kpg_tup (n:=2) K rfl rfl (pgs_cons (pg_name (i:=0) (show List.Nodup (["_law_x","_law_y","_law_by"]:List Str) by decide +kernel) rfl (Or.inl rfl)) (pgs_cons (pg_name (i:=1) (show List.Nodup (["_law_x","_law_y","_law_by"]:List Str) by decide +kernel) rfl (Or.inl rfl)) pgs_nil)))) (fun _ _ _ _ _=>rfl) (fun _ _ _ _ _=>(pe_op op_add (pv 0) (pe_op op_mul (pv 2) (pv 1)))) rfl (by decide +kernel) (by decide +kernel) rfl ⟨⟨rfl,Or.inr (Or.inl rfl),rfl,rfl⟩,True.intro⟩) (pg_sub (pv 2) (pv 4) set_list))))) pss_nil))) (@pss_cons _ _ _ _ _ (ps_if (PW.pt (pw_and (pt_cmpR op_gt (pe_callB (kN_len K rfl) rfl T.b_len PySem.boot_len (pa_cons (pv 2) pa_nil)) pe_int (nomark _)) (pw_and1 (pt_cmpR op_eq (pe_op op_mod (pv 1) pe_int) pe_int (nomark _))))) (pss_one (ps_asg (pe_comp (N:=["_law_x"]) (ix:=[none]) rfl (kpi_list K rfl (pe_ix (kx_seq K rfl) (pv 2) pe_int (fun _ _=>rfl))) (fun _ _ _ _ _=>(pg_name (i:=0) (show List.Nodup (["_law_x"]:List Str) by decide +kernel) rfl (Or.inl rfl))) (fun _ _ _ _ _=>rfl) (fun _ _ _ _ _=>(pe_op op_sub pe_int (pv 0))) rfl (by decide +kernel) (by decide +kernel) rfl True.intro) (pg_sub (pv 2) pe_int set_list))) pss_nil) (@pss_cons _ _ _ _ _ (ps_if (pt_cmpR op_eq (pe_op op_mod (pe_op op_fdiv (pv 1) pe_int) pe_int) pe_int (nomark _)) (pss_one (ps_set (i:=2) S.nd rfl (Or.inl rfl) (pe_op op_cat (pv 2) (pe_slice (ksl_list K rfl) (pv 2) po_none (po_some pe_int))))) pss_nil) (@pss_cons _ _ _ _ _ (ps_if (pt_cmpR op_eq (pe_op op_mod (pe_op op_fdiv (pv 1) pe_int) pe_int) pe_int (nomark _)) (@pss_one _ _ _ (@ps_set _ _ 2 _ _ _ _ S.nd rfl (Or.inl rfl) (@pe_op _ _ _ _ _ _ _ _ op_cat (pe_lst (@pa_cons _ _ _ _ _ (@pe_lstC _ _ _ _ (by rfl)) pa_nil (by rfl))) (pv 2)) (by rfl) (by first|exact .inl rfl|exact .inr rfl|assumption))) pss_nil) (pss_one (ps_ret (pe_comp (N:=["_law_comma"]) (ix:=[none]) rfl (kpi_list K rfl (pv 2)) (fun _ _ _ _ _=>(pg_name (i:=0) (show List.Nodup (["_law_comma"]:List Str) by decide +kernel) rfl (Or.inl rfl))) (fun _ _ _ _ _=>rfl) (fun _ _ _ _ _=>(pe_callTy (kN_tuple K rfl) rfl T.b_tuple PyProof.Rows.boot_tuple (pa_cons (pv 0) pa_nil))) rfl (by decide +kernel) (by decide +kernel) rfl True.intro)))))))),?_⟩
  have lR:=hR.length
  have h3:=hSt.cnt
  walk_at "w"
  refine comp_gen 1 [] rs.length (fun l i zs H'=>LstsL H' zs (rs.take i)∧∀ x∈zs,x≠V.ref l) rfl (fun l H' _ _ _=>⟨.nil,fun _ z=>nomatch z⟩) (fun l i zs H' h=>by have:=h.1.length;rw [List.length_take] at this;lia) (fun H' s=>⟨ys,s.seq (SqL.of hl),by lia⟩) (fun i H' hi s=>⟨ys,ys[i]'(by lia),s.seq (SqL.of hl),List.getElem?_eq_getElem (by lia)⟩) (fun l2 i x H' H2 own zs ho hi hl0 s9 hl' hp hy Qy Qn ky kn=>?_) (fun pl HA zs0 nA sA mA hp=>?_)
  ·obtain ⟨o1,rfl⟩:∃ o1,own=[o1]:=by match own,ho with|[o1],_=>exact⟨o1,rfl⟩
   obtain ⟨rfl,e⟩:=hy
   obtain ⟨a1,r,rfl,hz,hri⟩:=(hR.same s9).get (e ys (s9.seq (SqL.of hl)))
   have et:rs.take (i+1)=rs.take i++[r]:=by rw [List.take_add_one,hri];rfl
   walk_at "w"
   refine iteT ?_
   walk_at "w"
   rename_i l3 H9 n9 s99 m9
   have hl9:=s99 _ _ hl'
   have ne:l3≠l2:=fun z=>by rw [z,hl'] at n9;cases n9
   refine ky [some (.ref a1)] _ H9 rfl s99 ⟨?_,fun x hx=>?_⟩
   ·rw [et]
    exact ((hp.1.same s99).off hp.2).append (.cons (by rw [upd_ne ne];exact m9) .nil)
   ·rcases List.mem_append.mp hx with z|z
    ·exact hp.2 x z
    ·rw [List.mem_singleton.mp z]
     intro w
     cases w
     exact ne rfl
  rw [List.take_length] at hp
  walk_at "w"
  refine f_invR (fun i σ Hn=>∃ (o1 o2 o3:Option V) (zs:List V) (qs:List (List Int)),σ=[some (.ref l),some (.int c),some (.ref pl),o1,o2,o3]∧Same H Hn∧CmI Hn pl zs rs qs (3*2 ^ i)) ⟨_,_,_,zs0,rs,rfl,sA,mA,hp.1,hp.2,Mth.Eqv.refl,hSt.len,rfl,(fun v hv x hx=>by have:=hSt.sm v hv x hx;show -(3*1)≤x∧x≤3*1;lia)⟩ (fun i σ Hn hi hP=>?_) (fun σ Hn hP=>?_)
  ·have p2:(2:Int) ^ (i+1)=2*2 ^ i:=by rw [Int.pow_succ,Int.mul_comm]
   have p0:(0:Int)<2 ^ i:=by
    rcases (show i=0∨i=1∨i=2 by lia) with rfl|rfl|rfl <;> decide
   obtain ⟨o1,o2,o3,zs,qs,rfl,sn,mp,hL,hno,hE,hLn,lq,hb⟩:=hP
   have hi3:i<3:=by lia
   have lz:=hL.length
   walk_at "w"
   refine if_both (fun h1=>?_) (fun h1=>?_)
   ·have h1':1<zs.length:=by have:=of_decide_eq_true h1;lia
    obtain ⟨j1,j2,e1,e2,b1,b2,nej⟩:∃ j1 j2:Nat,(0+(i:Int)) % (zs.length:Int)=(j1:Int)∧(0+(i:Int)+1) % (zs.length:Int)=(j2:Int)∧j1<zs.length∧j2<zs.length∧j1≠j2:=by
     rcases (show zs.length=2∨zs.length=3 by lia) with e|e
     ·rw [e]
      exact⟨i % 2,(i+1) % 2,by lia,by lia,by lia,by lia,by lia⟩
     ·rw [e]
      exact⟨i % 3,(i+1) % 3,by lia,by lia,by lia,by lia,by lia⟩
    have hz0:(0:Int)<(zs.length:Int):=by lia
    obtain ⟨a1,r1,ez1,ha1,hq1⟩:=hL.get (i:=j1) (List.getElem?_eq_getElem b1)
    obtain ⟨a2,r2,ez2,ha2,hq2⟩:=hL.get (i:=j2) (List.getElem?_eq_getElem b2)
    have l51:=hLn r1 (List.mem_of_getElem? hq1)
    have l52:=hLn r2 (List.mem_of_getElem? hq2)
    have bb1:=hb r1 (List.mem_of_getElem? hq1)
    have bb2:=hb r2 (List.mem_of_getElem? hq2)
    walk_at "w"
    refine c_law_mixed (by lia) fun mm g1 g2=>?_
    rw [e1]
    walk_at "w"
    refine r_ixL (SqL.of mp) (atI_nat (by rw [List.getElem?_eq_getElem b1,ez1])) ?_
    walk_at "w"
    rw [e2]
    refine r_ixL (SqL.of mp) (atI_nat (by rw [List.getElem?_eq_getElem b2,ez2])) ?_
    walk_at "w"
    obtain ⟨bb,hbb,hbb1⟩:∃ bb,mm % 3 - 1=bb∧(bb=-1∨bb=0∨bb=1):=⟨_,rfl,by lia⟩
    rw [hbb]
    have enew:List.zipWith (fun x y=>x+bb*y) r1 r2=Mth.low r1 r2 (-bb):=by
     refine Mth.ext_at (n:=5) (by simp [l51,l52]) (Mth.low_len l51 l52) fun n hn=>?_
     rw [Mth.low_at l51 l52]
     simp [List.getD,List.getElem?_zipWith,List.getElem?_eq_getElem (show n<r1.length by lia),List.getElem?_eq_getElem (show n<r2.length by lia),Int.mul_comm]
     rw [Int.neg_mul]
     lia
    have nb:∀ x∈Mth.low r1 r2 (-bb),-(3*2 ^ (i+1))≤x∧x≤3*2 ^ (i+1):=fun x hx=>by
     rw [← enew] at hx
     obtain ⟨n,hn,e⟩:=List.getElem_of_mem hx
     rw [List.getElem_zipWith] at e
     have z1:=bb1 _ (List.getElem_mem (l:=r1) (by simp at hn;lia:n<r1.length))
     have z2:=bb2 _ (List.getElem_mem (l:=r2) (by simp at hn;lia:n<r2.length))
     rw [p2,← e]
     rcases hbb1 with rfl|rfl|rfl <;> lia
    have hset:=eqv_set hLn hq1 hq2 nej (-bb)
    rw [← enew] at hset nb
    have lnew:(List.zipWith (fun x y=>x+bb*y) r1 r2).length=5:=by simp [l51,l52]
    obtain ⟨u0,u1,u2,u3,u4,rfl⟩:=Mth.five_of l51
    obtain ⟨w0,w1,w2,w3,w4,rfl⟩:=Mth.five_of l52
    have hbbm:-1000≤bb∧bb≤1000:=by lia
    refine rd_compZ (k1:=false) (k2:=false) [some (.int bb)] (fun n=>.int (([u0,u1,u2,u3,u4]:List Int).getD n 0+bb*([w0,w1,w2,w3,w4]:List Int).getD n 0)) rfl (sql_sq (SqL.of ha1)) (sql_sq (SqL.of ha2)) rfl (by show 5≤1000000;decide) (fun n x y H' Qc hx hy s kc=>?_) (fun l5 H5 n5 s5 m5=>?_)
    ·obtain ⟨rfl,_⟩:=int_get (r:=[u0,u1,u2,u3,u4]) hx
     obtain ⟨rfl,hn⟩:=int_get (r:=[w0,w1,w2,w3,w4]) hy
     walk_at "w"
     exact kc _ (Same.refl _)
    have ne5:l5≠pl:=fun z=>by rw [z,mp] at n5;cases n5
    walk_at "w"
    refine r_setL (j:=j1) (s5 _ _ mp) (ixN_nat b1) ?_
    have hset':LstsL H5 (zs.set j1 (.ref l5)) (qs.set j1 (List.zipWith (fun x y=>x+bb*y) [u0,u1,u2,u3,u4] [w0,w1,w2,w3,w4])):=lsts_set m5 j1 (hL.same s5)
    have hno':∀ x∈zs.set j1 (.ref l5),x≠V.ref pl:=fun x hx=>by
     rcases List.mem_or_eq_of_mem_set hx with z|z
     ·exact hno x z
     ·rw [z]
      intro w
      cases w
      exact ne5 rfl
    walk_at "w"
    refine⟨_,_,_,zs.set j1 (.ref l5),_,rfl,(sn.trans s5).upd_old nA,upd_same,hset'.off hno',hno',hE.trans hset,fun v hv=>?_,by rw [List.length_set];exact lq,fun v hv x hx=>?_⟩
    ·rcases List.mem_or_eq_of_mem_set hv with z|z
     ·exact hLn v z
     ·rw [z];exact lnew
    ·rcases List.mem_or_eq_of_mem_set hv with z|z
     ·have:=hb v z x hx
      rw [p2]
      lia
     ·rw [z] at hx
      exact nb x hx
   ·walk_at "w"
    refine⟨_,_,_,zs,qs,rfl,sn,mp,hL,hno,hE,hLn,lq,fun v hv x hx=>?_⟩
    have:=hb v hv x hx
    rw [p2]
    lia
  ·obtain ⟨o1,o2,o3,zs,qs,rfl,sn,mp,hL,hno,hE,hLn,lq,hb⟩:=hP
   have hb:∀ v∈qs,∀ x∈v,-24≤x∧x≤24:=hb
   have lz:=hL.length
   walk_at "j"
   refine join (fun σ' H'=>∃ (zs:List V) (qs:List (List Int)),σ'=[some (.ref l),some (.int c),some (.ref pl),o1,o2,o3]∧Same H H'∧CmI H' pl zs rs qs 24) (fun nx hnx=>?_) (fun σ' HB hB=>?_)
   ·have old:=hnx _ _ ⟨zs,qs,rfl,sn,mp,hL,hno,hE,hLn,lq,hb⟩
    walk_at "w"
    refine if_both (fun h1=>?_) (fun h1=>?_)
    ·walk_at "w"
     refine if_both (fun h2=>?_) (fun h2=>?_)
     ·have h1':0<zs.length:=by have:=of_decide_eq_true h1;lia
      obtain ⟨a1,r1,ez1,ha1,hq1⟩:=hL.get (i:=0) (List.getElem?_eq_getElem h1')
      have l51:=hLn r1 (List.mem_of_getElem? hq1)
      have bb1:=hb r1 (List.mem_of_getElem? hq1)
      have hneg:=eqv_neg hLn hq1
      have eneg:Mth.mulv r1 (-1)=r1.map fun x=>0 - x:=List.map_congr_left fun x _=>by lia
      rw [eneg] at hneg
      walk_at "w"
      refine r_ixL (SqL.of mp) (atI_nat (j:=0) (by rw [List.getElem?_eq_getElem h1',ez1])) ?_
      walk_at "w"
      refine rd_mapList (r:=r1) (fun x=>.int (0 - x)) [] rfl (SqL.of ha1) (by lia) (fun x H' Qc hx s kc=>?_) (fun l5 H5 n5 s5 m5=>?_)
      ·walk_at "w"
       exact kc _ (Same.refl _)
      have m5':H5 l5=some (.lst ((r1.map fun x=>0 - x).map V.int)):=by rw [List.map_map];exact m5
      have ne5:l5≠pl:=fun z=>by rw [z,mp] at n5;cases n5
      walk_at "w"
      refine r_setL (j:=0) (s5 _ _ mp) (ixN_nat h1') ?_
      have hset':LstsL H5 (zs.set 0 (.ref l5)) (qs.set 0 (r1.map fun x=>0 - x)):=lsts_set m5' 0 (hL.same s5)
      have hno':∀ x∈zs.set 0 (.ref l5),x≠V.ref pl:=fun x hx=>by
       rcases List.mem_or_eq_of_mem_set hx with z|z
       ·exact hno x z
       ·rw [z]
        intro w
        cases w
        exact ne5 rfl
      refine hnx _ _ ⟨zs.set 0 (.ref l5),_,rfl,(sn.trans s5).upd_old nA,upd_same,hset'.off hno',hno',hE.trans hneg,fun v hv=>?_,by rw [List.length_set];exact lq,fun v hv x hx=>?_⟩
      ·rcases List.mem_or_eq_of_mem_set hv with z|z
       ·exact hLn v z
       ·rw [z,List.length_map];exact l51
      ·rcases List.mem_or_eq_of_mem_set hv with z|z
       ·exact hb v z x hx
       ·rw [z] at hx
        obtain ⟨y,hy,rfl⟩:=List.mem_map.mp hx
        have:=bb1 y hy
        lia
     ·walk_at "w"
      exact old
    ·walk_at "w"
     exact old
   clear mp hL hno hE hLn lq hb lz sn
   obtain ⟨zs,qs,rfl,sn,mp,hL,hno,hE,hLn,lq,hb⟩:=hB
   have lz:=hL.length
   walk_at "j"
   refine join (fun σ' H'=>∃ (pl:Addr) (zs:List V) (qs:List (List Int)),σ'=[some (.ref l),some (.int c),some (.ref pl),o1,o2,o3]∧Same H H'∧H' pl=some (.lst zs)∧LstsL H' zs qs∧Mth.Eqv 5 rs qs∧Mth.Len 5 qs∧qs.length≤4∧(c / 2 % 3=2→qs.length≤3)∧∀ v∈qs,∀ x∈v,-24≤x∧x≤24) (fun nx hnx=>?_) (fun σ' HC hC=>?_)
   ·walk_at "w"
    refine if_both (fun h1=>?_) (fun h1=>?_)
    ·have h1':c / 2 % 3=1:=by simpa using h1
     walk_at "w"
     refine r_slHi (j:=1) (SqL.of mp) fun p5 H5 n5 s5 m5=>?_
     have lt:(zs.take 1).length≤1:=List.length_take_le _ _
     walk_at "w"
     rename_i p6 H6 n6 s6 m6
     have hL6:=hL.same (s5.trans s6)
     refine hnx _ _ ⟨p6,zs++zs.take 1,qs++qs.take 1,rfl,(sn.trans s5).trans s6,m6,hL6.append (lsts_take 1 hL6),hE.trans (Mth.Eqv.mem fun x=>?_),fun v hv=>?_,?_,fun z=>by lia,fun v hv=>?_⟩
     ·rw [List.mem_append]
      exact⟨.inl,fun z=>z.elim id List.mem_of_mem_take⟩
     ·exact (List.mem_append.mp hv).elim (hLn v) fun z=>hLn v (List.mem_of_mem_take z)
     ·have lt2:(qs.take 1).length≤1:=List.length_take_le _ _
      rw [List.length_append]
      lia
     ·exact (List.mem_append.mp hv).elim (hb v) fun z=>hb v (List.mem_of_mem_take z)
    ·walk_at "w"
     exact hnx _ _ ⟨pl,zs,qs,rfl,sn,mp,hL,hE,hLn,by lia,fun _=>by lia,hb⟩
   clear mp hL hno hE hLn lq hb lz sn
   obtain ⟨pl2,zs,qs,rfl,sn,mp,hL,hE,hLn,lq,lq3,hb⟩:=hC
   have lz:=hL.length
   walk_at "j"
   refine join (fun σ' H'=>∃ (pl:Addr) (zs:List V) (qs:List (List Int)),σ'=[some (.ref l),some (.int c),some (.ref pl),o1,o2,o3]∧Same H H'∧H' pl=some (.lst zs)∧LstsL H' zs qs∧Mth.Eqv 5 rs qs∧Mth.Len 5 qs∧qs.length≤4∧∀ v∈qs,∀ x∈v,-24≤x∧x≤24) (fun nx hnx=>?_) (fun σ' HC hC=>?_)
   ·walk_at "w"
    refine if_both (fun h1=>?_) (fun h1=>?_)
    ·have h1':c / 2 % 3=2:=by simpa using h1
     have l3:=lq3 h1'
     walk_at "w"
     rename_i p5 H5 n5 s5 m5 p6 H6 n6 s6 m6 p7 H7 n7 s7 m7
     have s57:=(s5.trans s6).trans s7
     refine hnx _ _ ⟨p7,_,[0,0,0,0,0]::qs,rfl,sn.trans s57,m7,.cons ((s6.trans s7) _ _ m5) (hL.same s57),⟨fun r hr=>Mth.Span.of (hE.1 r hr) fun q hq=>Mth.Span.mem (.tail _ hq),fun q hq=>?_⟩,fun v hv=>?_,by rw [List.length_cons];lia,fun v hv x hx=>?_⟩
     ·rcases List.mem_cons.mp hq with rfl|hq
      ·exact Mth.Span.zero (n:=5)
      ·exact hE.2 q hq
     ·rcases List.mem_cons.mp hv with rfl|hv
      ·rfl
      ·exact hLn v hv
     ·rcases List.mem_cons.mp hv with rfl|hv
      ·simp only [List.mem_cons,List.not_mem_nil,or_false,or_self] at hx
       rw [hx]
       decide
      ·exact hb v hv x hx
    ·walk_at "w"
     exact hnx _ _ ⟨pl2,zs,qs,rfl,sn,mp,hL,hE,hLn,lq,hb⟩
   clear mp hL hE hLn lq lq3 hb lz sn
   obtain ⟨pl3,zs,qs,rfl,sn,mp,hL,hE,hLn,lq,hb⟩:=hC
   have lz:=hL.length
   walk_at "w"
   refine comp_gen 1 [] qs.length (fun l i ws H'=>RowsL K H' ws (qs.take i)) rfl (fun l H' _ _ _=>.nil) (fun l i ws H' h=>by have:=h.length;rw [List.length_take] at this;lia) (fun H' s=>⟨zs,s.seq (SqL.of mp),by lia⟩) (fun i H' hi s=>⟨zs,zs[i]'(by lia),s.seq (SqL.of mp),List.getElem?_eq_getElem (by lia)⟩) (fun l2 i x H' H2 own ws ho hi hl0 s9 hl' hp' hy Qy Qn ky kn=>?_) (fun l2 H' ws hl0 s9 hl' hp'=>?_)
   ·obtain ⟨o1,rfl⟩:∃ o1,own=[o1]:=by match own,ho with|[o1],_=>exact⟨o1,rfl⟩
    obtain ⟨rfl,e⟩:=hy
    obtain ⟨a1,r,rfl,hz,hri⟩:=(hL.same s9).get (e zs (s9.seq (SqL.of mp)))
    have et:qs.take (i+1)=qs.take i++[r]:=by rw [List.take_add_one,hri];rfl
    walk_at "w"
    refine iteT ?_
    walk_at "w"
    rename_i l3 H9 s99 m9
    have hl9:=s99 _ _ hl'
    refine ky [some (.ref a1)] _ H9 rfl s99 ?_
    rw [et]
    exact ((hp'.same s99).off hl9).append (.cons (upd_sqT (SqT.of m9) hl9) .nil)
   ·rw [List.take_length] at hp'
    exact k l2 H' ws qs (sn.new hl0) (sn.trans s9) hl' hp' hE hLn hb lq
theorem sc_law_keys:FnScope ["_law_script","_law_at","_law_keys_here","_law_k","_law_cell","_law_w"] ["_law_script","_law_at"] (defScope s_law_keys):=⟨rfl,rfl,rfl,by decide +kernel,rfl,by decide +kernel,by decide +kernel⟩
structure Os_law_keys (P:Program) (w:World) (K:PySem.W.Frag) (mg:Str→Option Value) (base:Heap) (G:Adr):Prop where
 law_cell_at:Ok P w K mg base 1 "_law_cell_at" ["_law_script","_law_k"] (sp_law_cell_at K)
 law_mixed:Ok P w K mg base 1 "_law_mixed" ["_law_cell","_law_k"] (sp_law_mixed K)
set_option maxHeartbeats 8000000 in
theorem ok_law_keys (D:Def K mg "_law_keys" s_law_keys ["_law_script","_law_at"]) (T:Txt K mg G) (O:Os_law_keys P w K mg base G) (Y:base.NoSeer∧P.given.tree=none):Ok P w K mg base 2 "_law_keys" ["_law_script","_law_at"] (sp_law_keys K):=by
 have S:=sc_law_keys
 refine D.ok S (fun vs H Q E h=>?_) (fun f cdv A outer s H vs Q E hr h=>?_)
 ·obtain ⟨a,ns,j,rfl,ha,hj0,hj1,k⟩:=h;rfl
 ·obtain ⟨a,ns,j,rfl,ha,hj0,hj1,k⟩:=h
  have hu:=hu_of hr
  have c_Tuning:=T.c_Tuning
  have c_CommaTuning:=T.c_CommaTuning
  have n_CommaTuning_steps:=T.n_CommaTuning_steps
  have c_KeyTuning:=T.c_KeyTuning
  have n_KeyTuning_own_keys:=T.n_KeyTuning_own_keys
  have c_Board:=T.c_Board
  have n_Board_own_keys:=T.n_Board_own_keys
  have n_Board_octave:=T.n_Board_octave
  refine⟨_,(@pss_cons _ _ _ _ _ (ps_set (i:=2) S.nd rfl (Or.inl rfl) (pe_lst pa_nil)) (@pss_cons _ _ _ _ _ (ps_for PassesOwn.never rfl (pi_range1 rfl T.b_range (pa_cons (pe_op op_mod (pcall O.law_cell_at (hr.mono (by decide)) (pa_cons (pv 0) (pa_cons (pv 1) pa_nil))) pe_int) pa_nil)) (pg_name (i:=3) S.nd rfl (Or.inl rfl)) (@pss_cons _ _ _ _ _ (ps_set (i:=4) S.nd rfl (Or.inr rfl) (pe_op op_add (pcall O.law_cell_at (hr.mono (by decide)) (pa_cons (pv 0) (pa_cons (pe_op op_add (pe_op op_add (pv 1) pe_int) (pv 3)) pa_nil))) (pv 3))) (@pss_cons _ _ _ _ _ (ps_set (i:=5) S.nd rfl (Or.inl rfl) (pe_callTy (kN_tuple K rfl) rfl T.b_tuple PyProof.Rows.boot_tuple (pa_cons (pe_comp (N:=["_law_j","_law_cell"]) (ix:=[none,some 4]) rfl (pi_range1 rfl T.b_range (pa_cons pe_int pa_nil)) (fun _ _ _ _ _=>(pg_name (i:=0) (show List.Nodup (["_law_j","_law_cell"]:List Str) by decide +kernel) rfl (Or.inl rfl))) (fun _ _ _ _ _=>rfl) (fun _ _ _ _ _=>(pe_op op_sub (pe_op op_mod (pcall O.law_mixed (hr.mono (by decide)) (pa_cons (pv 1) (pa_cons (pe_op op_add pe_int (pv 0)) pa_nil))) pe_int) pe_int)) rfl (by decide +kernel) (by decide +kernel) rfl ⟨⟨rfl,Or.inr (Or.inl rfl),rfl,rfl⟩,True.intro⟩) pa_nil))) (@pss_cons _ _ _ _ _ (ps_if (PW.pt (pw_and (pt_cmpR op_gt (pv 3) pe_int (nomark _)) (pw_and1 (pt_cmpR op_eq (pe_op op_mod (pv 4) pe_int) pe_int (nomark _))))) (pss_one (ps_set (i:=5) S.nd rfl (Or.inl rfl) (pe_callTy (kN_tuple K rfl) rfl T.b_tuple PyProof.Rows.boot_tuple (pa_cons (pe_comp (N:=["_law_x","_law_cell"]) (ix:=[none,some 4]) rfl (kpi_tup K rfl (pe_ix (kx_seq K rfl) (pe_ix (kx_seq K rfl) (pv 2) pe_int (fun _ _=>rfl)) pe_int (fun _ _=>rfl))) (fun _ _ _ _ _=>(pg_name (i:=0) (show List.Nodup (["_law_x","_law_cell"]:List Str) by decide +kernel) rfl (Or.inl rfl))) (fun _ _ _ _ _=>rfl) (fun _ _ _ _ _=>(pe_op op_mul (pv 0) (pe_op op_sub (pe_op op_mod (pe_op op_fdiv (pv 1) pe_int) pe_int) pe_int))) rfl (by decide +kernel) (by decide +kernel) rfl ⟨⟨rfl,Or.inr (Or.inl rfl),rfl,rfl⟩,True.intro⟩) pa_nil)))) pss_nil) (@pss_one _ _ _ (ps_expr (pe_bm PySem.F.plainAttrs_list PySem.F.slot_list_append PySem.F.type_list_append mt_append (pv 2) (@pa_cons _ _ _ _ _ (@pe_tup _ _ _ _ _ (pa_cons (pv 5) (pa_cons (pe_ix (kx_seq K rfl) (@pe_lstC _ _ _ _ (by rfl)) (pe_op op_mod (pcall O.law_mixed (hr.mono (by decide)) (pa_cons (pv 4) (pa_cons pe_int pa_nil))) pe_int) (fun _ _=>rfl)) pa_nil))) pa_nil (by rfl))))))))) (pss_one (ps_ret (pv 2))))),?_⟩
  walk_at "w"
  rename_i pl HL nL sL mL
  obtain ⟨c,hc⟩:∃ c,ns.getD j.toNat 0=c:=⟨_,rfl⟩
  rw [hc]
  obtain ⟨N,hN,hN3⟩:∃ N:Nat,(c % 4).toNat=N∧N≤3:=⟨_,rfl,by lia⟩
  rw [hN]
  refine f_invR (fun i σ Hn=>∃ (o1 o2 o3:Option V) (ys:List V) (ks:List (List Int×Int)),σ=[some (.ref a),some (.int j),some (.ref pl),o1,o2,o3]∧Same H Hn∧Hn pl=some (.lst ys)∧KeysL K Hn ys ks∧ks.length=i∧(∀ k∈ks,k.1.length=5∧(∀ x∈k.1,-10≤x∧x≤10)∧(k.2=0∨2≤k.2)∧k.2≤12)∧(∀ k,ks[0]?=some k→∀ x∈k.1,-5≤x∧x≤5)) ⟨_,_,_,[],[],rfl,sL,mL,.nil,rfl,(fun _ z=>nomatch z),fun k h=>by simp at h⟩ (fun i σ Hn hi hp=>?_) (fun σ Hn hp=>?_)
  ·obtain ⟨o1,o2,o3,ys,ks,rfl,sn,mp,hK,lks,hk,hk0⟩:=hp
   have hi3:i<3:=by lia
   have haN:=sn.seq ha
   walk_at "w"
   refine rd_rangeI [some (.int _)] (fun _ x=>-5≤x∧x≤5) rfl (by decide) (fun i' H' Qc hi' s' kc=>?_) (fun l5 H5 xs n5 s5 m5 lx hx=>?_)
   ·walk_at "w"
    refine c_law_mixed (by lia) fun mm g1 g2=>?_
    walk_at "w"
    exact kc _ _ (by lia) (Same.refl _)
   have hxs:∀ x∈xs,-5≤x∧x≤5:=fun x hx'=>by
    obtain ⟨j3,hj3,e3⟩:=List.getElem_of_mem hx'
    exact hx j3 x (by rw [List.getElem?_eq_getElem hj3,e3])
   obtain ⟨cv,hcv⟩:∃ cv,ns.getD (j+1+(0+(i:Int))).toNat 0+(0+(i:Int))=cv:=⟨_,rfl⟩
   rw [hcv]
   walk_at "j"
   rename_i p6 H6 s6 m6
   have s56:=s5.trans s6
   refine join (fun σ' H'=>∃ (q:Addr) (ws:List Int),σ'=[some (.ref a),some (.int j),some (.ref pl),some (.int (0+(i:Int))),some (.int cv),some (.ref q)]∧Same Hn H'∧SqT K H' q (ws.map V.int)∧ws.length=5∧(∀ x∈ws,-10≤x∧x≤10)∧(i=0→∀ x∈ws,-5≤x∧x≤5)) (fun nx hnx=>?_) (fun σ' H7 hp=>?_)
   ·have old:nx [some (.ref a),some (.int j),some (.ref pl),some (.int (0+(i:Int))),some (.int cv),some (.ref p6)] H6:=hnx _ _ ⟨p6,xs,rfl,s56,SqT.of m6,lx,fun x hx'=>by have:=hxs x hx';lia,fun _=>hxs⟩
    walk_at "w"
    refine if_both (fun h1=>?_) (fun h1=>?_)
    ·walk_at "w"
     refine if_both (fun h2=>?_) (fun h2=>?_)
     ·have hi0:0<i:=by have:=of_decide_eq_true h1;lia
      obtain ⟨ak,wk,w0,m0,ys',ks',rfl,rfl,hak,hwk⟩:∃ (ak wk:Addr) (w0:List Int) (m0:Int) (ys':List V) (ks':List (List Int×Int)),ys=.ref ak::ys'∧ks=(w0,m0)::ks'∧SqT K Hn ak [.ref wk,.int m0]∧SqT K Hn wk (w0.map V.int):=by
       cases hK with
       | nil=>exact absurd lks (by simp;lia)
       | cons h hw t=>exact⟨_,_,_,_,_,_,rfl,rfl,h,hw⟩
      have b5:=hk0 _ rfl
      have l50:=(hk _ (.head _)).1
      have hwk6:=s56.at hwk
      have hak6:=s56.at hak
      walk_at "w"
      refine r_ixL (SqL.of (s56 _ _ mp)) (atI_nat (j:=0) rfl) ?_
      walk_at "w"
      have hf:-2≤cv / 3 % 5 - 2∧cv / 3 % 5 - 2≤2:=by lia
      refine rd_mapRow (r:=w0) (fun x=>.int (x*(cv / 3 % 5 - 2))) [some (.int cv)] rfl hwk6 (by rw [show w0.length=5 from l50];decide) (fun x H' Qc hx' s kc=>?_) (fun l8 H8 n8 s8 m8=>?_)
      ·walk_at "w"
       exact kc _ (Same.refl _)
      obtain ⟨ff,hff⟩:∃ ff,cv / 3 % 5 - 2=ff:=⟨_,rfl⟩
      rw [hff] at hf m8
      walk_at "w"
      rename_i p9 H9 s9 m9
      refine hnx _ _ ⟨p9,w0.map (fun x=>x*ff),rfl,(s56.trans s8).trans s9,SqT.of (by rw [m9,List.map_map];rfl),by rw [List.length_map];exact l50,fun x hx'=>?_,fun z=>by lia⟩
      obtain ⟨y,hy,rfl⟩:=List.mem_map.mp hx'
      have hy5:=b5 y hy
      rcases (show ff=-2∨ff=-1∨ff=0∨ff=1∨ff=2 by lia) with rfl|rfl|rfl|rfl|rfl <;> lia
     ·walk_at "w"
      exact old
    ·walk_at "w"
     exact old
   ·obtain ⟨q,ws,rfl,s7,hq,lw,hwb,hw0⟩:=hp
    have mp7:=s7 _ _ mp
    walk_at "w"
    refine c_law_mixed (by lia) fun mm g1 g2=>?_
    walk_at "w"
    rename_i p8 H8 n8 s8 m8
    obtain ⟨ring,hring,hrg,hrg2⟩:∃ ring:Int,atI [V.int 0,V.int 0,V.int 2,V.int 3,V.int 5,V.int 12] (mm % 6)=some (.int ring)∧(ring=0∨2≤ring)∧ring≤12:=by
     obtain ⟨i6,hi6,hi66⟩:∃ i:Nat,mm % 6=(i:Int)∧i<6:=⟨(mm % 6).toNat,by lia,by lia⟩
     rw [hi6]
     match i6,hi66 with
     | 0,_=>exact⟨_,rfl,by decide,by decide⟩
     | 1,_=>exact⟨_,rfl,by decide,by decide⟩
     | 2,_=>exact⟨_,rfl,by decide,by decide⟩
     | 3,_=>exact⟨_,rfl,by decide,by decide⟩
     | 4,_=>exact⟨_,rfl,by decide,by decide⟩
     | 5,_=>exact⟨_,rfl,by decide,by decide⟩
    refine r_ixL (SqL.of m8) hring ?_
    walk_at "w"
    rename_i pk HK sK mK
    have s8K:=s8.trans sK
    have s7K:=s7.trans s8K
    have eK:=s8K _ _ mp7
    have lK:=hK.length
    refine r_append eK (by lia) ?_
    walk_at "w"
    refine⟨_,_,_,ys++[.ref pk],ks++[(ws,ring)],rfl,(sn.trans s7K).upd_old nL,upd_same,((hK.same s7K).off eK).snoc (upd_sqT (SqT.of mK) eK) (upd_sqT (s8K.at hq) eK),by simp [lks],fun q' hq'=>?_,fun q' hq'=>?_⟩
    ·rcases List.mem_append.mp hq' with z|z
     ·exact hk q' z
     ·rw [List.mem_singleton.mp z]
      exact⟨lw,hwb,hrg,hrg2⟩
    ·cases ks with
     | nil =>
      cases hq'
      exact hw0 (by simp at lks;lia)
     | cons q0 ks'=>exact hk0 q' hq'
  ·obtain ⟨o1,o2,o3,ys,ks,rfl,sn,mp,hK,lks,hk,hk0⟩:=hp
   walk_at "w"
   exact k pl Hn ys ks nL sn mp hK (by lia) hk
theorem sc_law_sound:FnScope ["_law_kind","_law_told_here","_law_row"] ["_law_kind","_law_told_here","_law_row"] (defScope s_law_sound):=⟨rfl,rfl,rfl,by decide +kernel,rfl,by decide +kernel,by decide +kernel⟩
structure Os_law_sound (P:Program) (w:World) (K:PySem.W.Frag) (mg:Str→Option Value) (base:Heap) (G:Adr):Prop where
 law_rest:Ok P w K mg base 1 "_law_rest" ["_law_steps_here","_law_row"] (sp_law_rest K)
 law_value:Ok P w K mg base 1 "_law_value" ["_law_w","_law_ring","_law_row"] (sp_law_value K)
set_option maxHeartbeats 8000000 in
theorem ok_law_sound (D:Def K mg "_law_sound" s_law_sound ["_law_kind","_law_told_here","_law_row"]) (T:Txt K mg G) (O:Os_law_sound P w K mg base G) (Y:base.NoSeer∧P.given.tree=none):Ok P w K mg base 2 "_law_sound" ["_law_kind","_law_told_here","_law_row"] (sp_law_sound K):=by
 have S:=sc_law_sound
 refine D.ok S (fun vs H Q E h=>?_) (fun f cdv A outer s H vs Q E hr h=>?_)
 ·obtain ⟨b,a,d,r,rfl,hTo,hok,ha,hr',k⟩:=h;rfl
 ·obtain ⟨b,a,d,r,rfl,hTo,hok,ha,hr',k⟩:=h
  have hu:=hu_of hr
  have c_Tuning:=T.c_Tuning
  have c_CommaTuning:=T.c_CommaTuning
  have n_CommaTuning_steps:=T.n_CommaTuning_steps
  have c_KeyTuning:=T.c_KeyTuning
  have n_KeyTuning_own_keys:=T.n_KeyTuning_own_keys
  have c_Board:=T.c_Board
  have n_Board_own_keys:=T.n_Board_own_keys
  have n_Board_octave:=T.n_Board_octave
  refine⟨_,(pss_cons (ps_if (pt_cmpR op_eq (pv 0) pe_int (nomark _)) (pss_one (ps_ret (pv 2))) pss_nil) (pss_cons (ps_if (pt_cmpR op_eq (pv 0) pe_int (nomark _)) (pss_one (ps_ret (pcall O.law_rest (hr.mono (by decide)) (pa_cons (pv 1) (pa_cons (pv 2) pa_nil))))) pss_nil) (pss_cons (ps_if (pt_cmpR op_eq (pv 0) pe_int (nomark _)) (pss_one (ps_ret (pe_callTy (kN_tuple K rfl) rfl T.b_tuple PyProof.Rows.boot_tuple (pa_cons (pe_comp (N:=["_law_w","_law_ring","_law_row"]) (ix:=[none,none,some 2]) rfl (kpi_list K rfl (pv 1)) (fun _ _ _ _ _=>(kpg_tup (n:=2) K rfl rfl (pgs_cons (pg_name (i:=0) (show List.Nodup (["_law_w","_law_ring","_law_row"]:List Str) by decide +kernel) rfl (Or.inl rfl)) (pgs_cons (pg_name (i:=1) (show List.Nodup (["_law_w","_law_ring","_law_row"]:List Str) by decide +kernel) rfl (Or.inl rfl)) pgs_nil)))) (fun _ _ _ _ _=>rfl) (fun _ _ _ _ _=>(pcall O.law_value (hr.mono (by decide)) (pa_cons (pv 0) (pa_cons (pv 1) (pa_cons (pv 2) pa_nil))))) rfl (by decide +kernel) (by decide +kernel) rfl ⟨⟨rfl,Or.inr (Or.inl rfl),rfl,rfl⟩,True.intro⟩) pa_nil)))) pss_nil) (pss_one (ps_ret (pcall O.law_value (hr.mono (by decide)) (pa_cons (pv 1) (pa_cons pe_int (pa_cons (pv 2) pa_nil))))))))),?_⟩
  have lr:=hr'.len
  cases d with
  | plain w =>
   walk_at "w"
   refine if_tt rfl ?_
   walk_at "w"
   exact k _ _ (.row r) (Same.refl _) ⟨a,rfl,ha,by lia⟩ rfl
  | steps rs =>
   obtain ⟨ys,h1,h2,h3⟩:=hTo
   walk_at "w"
   refine if_ff rfl ?_
   walk_at "w"
   refine if_tt rfl ?_
   walk_at "w"
   refine c_law_rest ⟨h1,h2,hok,ha,lr,hr'.bd⟩ fun p H' v s m hRB=>?_
   exact k _ H' (.row v) s ⟨p,rfl,SqT.of m,by rw [hRB.1];decide⟩ ⟨v,rfl,hRB⟩
  | keys ks =>
   obtain ⟨ys,h1,h2⟩:=hTo
   have lK:=h2.length
   have h3:=hok.1
   walk_at "w"
   refine if_ff rfl ?_
   walk_at "w"
   refine if_ff rfl ?_
   walk_at "w"
   refine if_tt rfl ?_
   walk_at "w"
   refine comp_gen 2 [some (.ref a)] ks.length (fun l i zs H'=>zs=((ks.take i).map fun k=>val k.1 k.2 r).map V.int) rfl (fun _ _ _ _ _=>rfl) (fun l i zs H' h=>by rw [h,List.length_map,List.length_map,List.length_take];lia) (fun H' s=>⟨ys,s.seq (SqL.of h1),by lia⟩) (fun i H' hi s=>⟨ys,ys[i]'(by lia),s.seq (SqL.of h1),List.getElem?_eq_getElem (by lia)⟩) (fun l i x H' H2 own zs ho hi hl0 s9 hl' hp hy Qy Qn ky kn=>?_) (fun l H' zs hl0 s9 hl' hp=>?_)
   ·obtain ⟨o1,o2,rfl⟩:∃ o1 o2,own=[o1,o2]:=by match own,ho with|[o1,o2],_=>exact⟨o1,o2,rfl⟩
    obtain ⟨rfl,e⟩:=hy
    obtain ⟨ak,wk,⟨w0,m0⟩,rfl,hak,hwk,hki⟩:=(h2.same s9).get (e ys (s9.seq (SqL.of h1)))
    have hkm:=hok.2 _ (List.mem_of_getElem? hki)
    have et:ks.take (i+1)=ks.take i++[(w0,m0)]:=by rw [List.take_add_one,hki];rfl
    refine r_gtup2 hak ?_
    walk_at "w"
    refine iteT ?_
    walk_at "w"
    refine c_law_value ⟨hwk,s9.at ha,hkm.1,lr,hkm.2.2.1,fun x hx=>by have:=hkm.2.1 x hx;lia⟩ fun H3 s3=>?_
    refine ky [some (.ref wk),some (.int m0)] _ H3 rfl s3 ?_
    rw [hp,et,List.map_append,List.map_append]
    rfl
   ·rw [List.take_length] at hp
    rw [hp] at hl'
    walk_at "w"
    rename_i p5 H5 s5 m5
    exact k _ H5 (.row _) (s9.trans s5) ⟨p5,rfl,SqT.of m5,by rw [List.length_map];lia⟩ rfl
  | board w =>
   have hTo:SqT K H b (w.map V.int):=hTo
   walk_at "w"
   refine if_ff rfl ?_
   walk_at "w"
   refine if_ff rfl ?_
   walk_at "w"
   refine if_ff rfl ?_
   walk_at "w"
   refine c_law_value ⟨hTo,ha,hok.1,lr,.inl rfl,fun x hx=>by have:=hok.2.2 x hx;lia⟩ fun H' s=>?_
   exact k _ H' (.num _) s rfl rfl
theorem sc_KeyTuning_init:FnScope ["self","keys"] ["self","keys"] (defScope s_KeyTuning_init):=⟨rfl,rfl,rfl,by decide +kernel,rfl,by decide +kernel,by decide +kernel⟩
structure Os_KeyTuning_init (P:Program) (w:World) (K:PySem.W.Frag) (mg:Str→Option Value) (base:Heap) (G:Adr):Prop where
 checked_keys:Ok P w K mg base 1 "checked_keys" ["keys"] (sp_checked_keys K)
theorem ok_KeyTuning_init (D:DefM K G.f_KeyTuning_init "__init__" "KeyTuning.__init__" s_KeyTuning_init ["self","keys"]) (T:Txt K mg G) (O:Os_KeyTuning_init P w K mg base G) (Y:base.NoSeer∧P.given.tree=none):OkM P w K mg base 2 G.f_KeyTuning_init ["self","keys"] (sp_KeyTuning_init K):=by
 have S:=sc_KeyTuning_init
 refine D.ok S (fun vs H Q E h=>?_) (fun f cdv A outer s H vs Q E hr h=>?_)
 ·obtain ⟨x,l,C,dx,ys,ks,rfl,hC,hx,hl,hk,h6,hg,k⟩:=h;rfl
 ·obtain ⟨x,l,C,dx,ys,ks,rfl,hC,hx,hl,hk,h6,hg,k⟩:=h
  have hu:=hu_of hr
  have c_Tuning:=T.c_Tuning
  have c_CommaTuning:=T.c_CommaTuning
  have n_CommaTuning_steps:=T.n_CommaTuning_steps
  have c_KeyTuning:=T.c_KeyTuning
  have n_KeyTuning_own_keys:=T.n_KeyTuning_own_keys
  have c_Board:=T.c_Board
  have n_Board_own_keys:=T.n_Board_own_keys
  have n_Board_octave:=T.n_Board_octave
  refine⟨_,(pss_one (kps_fld K rfl (pv 0) (pe_callTy (kN_list K rfl) rfl T.b_list PyProof.Rows.boot_list (pa_cons (pcall O.checked_keys (hr.mono (by decide)) (pa_cons (pv 1) pa_nil)) pa_nil)) rfl)),?_⟩
  rcases hC with hC|hC
  ·obtain rfl:G.a_KeyTuning=C:=by have:=T.w_KeyTuning;rw [hC] at this;cases this;rfl
   walk_at "w"
   refine c_checked_keys ⟨hl,hk,h6,hg⟩ ?_
   walk_at "w"
   rename_i l1 H1 n1 s1 m1
   refine r_sfld1 (s1 _ _ hx) c_KeyTuning n_KeyTuning_own_keys (by decide) ?_
   exact k l1 H1 n1 s1 m1
  ·obtain rfl:G.a_Board=C:=by have:=T.w_Board;rw [hC] at this;cases this;rfl
   walk_at "w"
   refine c_checked_keys ⟨hl,hk,h6,hg⟩ ?_
   walk_at "w"
   rename_i l1 H1 n1 s1 m1
   refine r_sfld1 (s1 _ _ hx) c_Board n_Board_own_keys (by decide) ?_
   exact k l1 H1 n1 s1 m1
theorem sc_values:FnScope ["keys","row"] ["keys","row"] (defScope s_values):=⟨rfl,rfl,rfl,by decide +kernel,rfl,by decide +kernel,by decide +kernel⟩
structure Os_values (P:Program) (w:World) (K:PySem.W.Frag) (mg:Str→Option Value) (base:Heap) (G:Adr):Prop where
 value:Ok P w K mg base 2 "value" ["key","row"] (sp_value K)
 checked_keys:Ok P w K mg base 1 "checked_keys" ["keys"] (sp_checked_keys K)
theorem ok_values (D:Def K mg "values" s_values ["keys","row"]) (T:Txt K mg G) (O:Os_values P w K mg base G) (Y:base.NoSeer∧P.given.tree=none):Ok P w K mg base 3 "values" ["keys","row"] (sp_values K):=by
 have S:=sc_values
 refine D.ok S (fun vs H Q E h=>?_) (fun f cdv A outer s H vs Q E hr h=>?_)
 ·obtain ⟨l,a,xs,ks,row,rfl,hl,hks,h6,hg,hw,ha,lrow,hrf,k⟩:=h;rfl
 ·obtain ⟨l,a,xs,ks,row,rfl,hl,hks,h6,hg,hw,ha,lrow,hrf,k⟩:=h
  have hu:=hu_of hr
  have c_Tuning:=T.c_Tuning
  have c_CommaTuning:=T.c_CommaTuning
  have n_CommaTuning_steps:=T.n_CommaTuning_steps
  have c_KeyTuning:=T.c_KeyTuning
  have n_KeyTuning_own_keys:=T.n_KeyTuning_own_keys
  have c_Board:=T.c_Board
  have n_Board_own_keys:=T.n_Board_own_keys
  have n_Board_octave:=T.n_Board_octave
  refine⟨_,(pss_one (ps_ret (pe_callTy (kN_tuple K rfl) rfl T.b_tuple PyProof.Rows.boot_tuple (pa_cons (pe_comp (N:=["key","row"]) (ix:=[none,some 1]) rfl (kpi_list K rfl (pcall O.checked_keys (hr.mono (by decide)) (pa_cons (pv 0) pa_nil))) (fun _ _ _ _ _=>(pg_name (i:=0) (show List.Nodup (["key","row"]:List Str) by decide +kernel) rfl (Or.inl rfl))) (fun _ _ _ _ _=>rfl) (fun _ _ _ _ _=>(pcall O.value (hr.mono (by decide)) (pa_cons (pv 0) (pa_cons (pv 1) pa_nil)))) rfl (by decide +kernel) (by decide +kernel) rfl ⟨⟨rfl,Or.inr (Or.inl rfl),rfl,rfl⟩,True.intro⟩) pa_nil)))),?_⟩
  have lk:=hks.length
  walk_at "w"
  refine c_checked_keys ⟨hl,hks,h6,hg⟩ ?_
  walk_at "w"
  refine rd_compL (xs:=xs) [some (.ref a)] (fun i=>.int (val (ks.getD i ([],0)).1 (ks.getD i ([],0)).2 row)) rfl hl (by lia) (fun i x H' Qc hx s kc=>?_) (fun l2 H2 n2 s2 m2=>?_)
  ·obtain ⟨ak,wk,kk,rfl,h1,h2,h3⟩:=hks.get hx
   have hm:=List.mem_of_getElem? h3
   obtain ⟨q1,q2⟩:=hw kk hm
   have e:ks.getD i ([],0)=kk:=by rw [List.getD,h3];rfl
   rw [e] at kc
   walk_at "w"
   exact c_value kk.1 row (s.at h1) (s.at h2) (s.at ha) (by lia) (by lia) (Few.mul hrf q2 (by decide) (by lia)) (by have:=hg kk hm;lia) fun H3 s3=>kc _ s3
  have ev:(List.range xs.length).map (fun i=>V.int (val (ks.getD i ([],0)).1 (ks.getD i ([],0)).2 row))=(ks.map fun k=>val k.1 k.2 row).map V.int:=by
   rw [← lk,List.map_map]
   refine List.ext_getElem (by simp) fun i h1 h2=>?_
   simp at h1
   simp [List.getD,List.getElem?_eq_getElem h1]
  rw [ev] at m2
  walk_at "w"
  rename_i p3 H3 s3 m3
  exact k p3 H3 (s2.trans s3) (SqT.of m3)
theorem sc_law_tune:FnScope ["_law_script","_law_at","_law_bars","_law_total","_law_bottom","_law_form","_law_most","_law_k","_law_cell","_law_notes","_law_j","_law_piece"] ["_law_script","_law_at"] (defScope s_law_tune):=⟨rfl,rfl,rfl,by decide +kernel,rfl,by decide +kernel,by decide +kernel⟩
structure Os_law_tune (P:Program) (w:World) (K:PySem.W.Frag) (mg:Str→Option Value) (base:Heap) (G:Adr):Prop where
 law_cell_at:Ok P w K mg base 1 "_law_cell_at" ["_law_script","_law_k"] (sp_law_cell_at K)
 law_lowest:Ok P w K mg base 1 "_law_lowest" ["_law_top","_law_bottom"] (sp_law_lowest K)
 law_mixed:Ok P w K mg base 1 "_law_mixed" ["_law_cell","_law_k"] (sp_law_mixed K)
 law_name_row:Ok P w K mg base 1 "_law_name_row" ["_law_mixed_here"] (sp_law_name_row K)
 law_pieces:Ok P w K mg base 2 "_law_pieces" ["_law_cell","_law_count","_law_total"] (sp_law_pieces K)
set_option maxHeartbeats 8000000 in
theorem ok_law_tune (D:Def K mg "_law_tune" s_law_tune ["_law_script","_law_at"]) (T:Txt K mg G) (O:Os_law_tune P w K mg base G) (Y:base.NoSeer∧P.given.tree=none):Ok P w K mg base 3 "_law_tune" ["_law_script","_law_at"] (sp_law_tune K):=by
 have S:=sc_law_tune
 refine D.ok S (fun vs H Q E h=>?_) (fun f cdv A outer s H vs Q E hr h=>?_)
 ·obtain ⟨a,ns,j,rfl,ha,hj0,hj1,k⟩:=h;rfl
 ·obtain ⟨a,ns,j,rfl,ha,hj0,hj1,k⟩:=h
  have hu:=hu_of hr
  have c_Tuning:=T.c_Tuning
  have c_CommaTuning:=T.c_CommaTuning
  have n_CommaTuning_steps:=T.n_CommaTuning_steps
  have c_KeyTuning:=T.c_KeyTuning
  have n_KeyTuning_own_keys:=T.n_KeyTuning_own_keys
  have c_Board:=T.c_Board
  have n_Board_own_keys:=T.n_Board_own_keys
  have n_Board_octave:=T.n_Board_octave
  refine⟨_,(@pss_cons _ _ _ _ _ (ps_set (i:=2) S.nd rfl (Or.inl rfl) (pe_lst pa_nil)) (@pss_cons _ _ _ _ _ (ps_set (i:=3) S.nd rfl (Or.inl rfl) (pe_op op_add pe_int (pe_op op_mod (pcall O.law_cell_at (hr.mono (by decide)) (pa_cons (pv 0) (pa_cons (pv 1) pa_nil))) pe_int))) (@pss_cons _ _ _ _ _ (ps_set (i:=4) S.nd rfl (Or.inl rfl) (pe_op op_add pe_int (pe_op op_mod (pe_op op_fdiv (pcall O.law_cell_at (hr.mono (by decide)) (pa_cons (pv 0) (pa_cons (pv 1) pa_nil))) pe_int) pe_int))) (@pss_cons _ _ _ _ _ (ps_set (i:=5) S.nd rfl (Or.inl rfl) (pcall O.law_mixed (hr.mono (by decide)) (pa_cons (pcall O.law_cell_at (hr.mono (by decide)) (pa_cons (pv 0) (pa_cons (pv 1) pa_nil))) (pa_cons pe_int pa_nil)))) (@pss_cons _ _ _ _ _ (ps_set (i:=6) S.nd rfl (Or.inl rfl) (pe_tup (pa_cons pe_int (pa_cons pe_int pa_nil)))) (@pss_cons _ _ _ _ _ (ps_if (pt_cmpR op_gt (pe_op op_mod (pv 5) pe_int) pe_int (nomark _)) (@pss_one _ _ _ (@ps_set _ _ 6 _ _ _ _ S.nd rfl (Or.inl rfl) (pe_ix (kx_seq K rfl) (@pe_lst _ _ _ _ (@pa_cons _ _ _ _ _ (@pe_tup _ _ _ _ _ (pa_cons pe_int (pa_cons pe_int pa_nil))) (@pa_cons _ _ _ _ _ (@pe_tup _ _ _ _ _ (pa_cons pe_int (pa_cons pe_int pa_nil))) pa_nil (by rfl)) (by rfl))) (pe_op op_mod (pv 5) pe_int) (fun _ _=>rfl)) (by rfl) (by first|exact .inl rfl|exact .inr rfl|assumption))) pss_nil) (pss_cons (ps_for PassesOwn.never rfl (pi_range1 rfl T.b_range (pa_cons (pe_op op_add pe_int (pe_op op_mod (pe_op op_fdiv (pv 5) pe_int) (pe_ix (kx_seq K rfl) (pv 6) pe_int (fun _ _=>rfl)))) pa_nil)) (pg_name (i:=7) S.nd rfl (Or.inl rfl)) (pss_cons (ps_set (i:=8) S.nd rfl (Or.inl rfl) (pe_op op_add (pcall O.law_cell_at (hr.mono (by decide)) (pa_cons (pv 0) (pa_cons (pe_op op_add (pe_op op_add (pv 1) pe_int) (pv 7)) pa_nil))) (pv 7))) (pss_cons (ps_set (i:=9) S.nd rfl (Or.inl rfl) (pe_lst pa_nil)) (pss_cons (ps_for PassesOwn.never rfl (kpi_enum K rfl false rfl T.b_enumerate (pa_cons (pcall O.law_pieces (hr.mono (by decide)) (pa_cons (pv 8) (pa_cons (pe_op op_add pe_int (pe_op op_mod (pcall O.law_mixed (hr.mono (by decide)) (pa_cons (pv 8) (pa_cons pe_int pa_nil))) (pe_ix (kx_seq K rfl) (pv 6) pe_int (fun _ _=>rfl)))) (pa_cons (pv 3) pa_nil)))) pa_nil)) (kpg_tup (n:=2) K rfl rfl (pgs_cons (pg_name (i:=10) S.nd rfl (Or.inl rfl)) (pgs_cons (pg_name (i:=11) S.nd rfl (Or.inl rfl)) pgs_nil))) (pss_one (ps_expr (pe_bm PySem.F.plainAttrs_list PySem.F.slot_list_append PySem.F.type_list_append mt_append (pv 9) (@pa_cons _ _ _ _ _ (@pe_tup _ _ _ _ _ (pa_cons (pe_ix (kx_seq K rfl) (pcall O.law_name_row (hr.mono (by decide)) (pa_cons (pcall O.law_mixed (hr.mono (by decide)) (pa_cons (pv 8) (pa_cons (pv 10) pa_nil))) pa_nil)) pe_int (fun _ _=>rfl)) (pa_cons (pcall O.law_lowest (hr.mono (by decide)) (pa_cons (pv 11) (pa_cons (pv 4) pa_nil))) pa_nil))) pa_nil (by rfl)))))) (pss_one (ps_expr (pe_bm PySem.F.plainAttrs_list PySem.F.slot_list_append PySem.F.type_list_append mt_append (pv 2) (pa_cons (pv 9) pa_nil)))))))) (pss_one (ps_ret (pe_tup (pa_cons (pcall O.law_lowest (hr.mono (by decide)) (pa_cons (pv 3) (pa_cons (pv 4) pa_nil))) (pa_cons (pv 2) pa_nil)))))))))))),?_⟩
  walk_at "w"
  rename_i p1 H1 n1 s1 m1
  refine c_law_mixed (by lia) fun fm f1 f2=>?_
  have ha1:=s1.seq ha
  obtain ⟨tt,htt,bt0,bt1⟩:∃ t:Nat,12+ns.getD j.toNat 0 % 10=(t:Int)∧12≤t∧t≤21:=⟨(12+ns.getD j.toNat 0 % 10).toNat,by lia,by lia,by lia⟩
  obtain ⟨bb,hbb,bb0,bb1⟩:∃ t:Nat,1+ns.getD j.toNat 0 / 10 % 16=(t:Int)∧1≤t∧t≤16:=⟨(1+ns.getD j.toNat 0 / 10 % 16).toNat,by lia,by lia,by lia⟩
  rw [htt,hbb]
  clear htt hbb
  walk_at "j"
  rename_i p2 H2 s2 m2
  refine join (fun σ' H'=>∃ (q:Addr) (u v:Nat),σ'=[some (.ref a),some (.int j),some (.ref p1),some (.int (tt:Int)),some (.int (bb:Int)),some (.int fm),some (.ref q),none,none,none,none,none]∧Same H1 H'∧SqT K H' q [.int (u:Int),.int (v:Int)]∧(1≤u∧u≤12)∧(1≤v∧v≤12)) (fun nx hnx=>?_) (fun σ' H' hp=>?_)
  ·walk_at "w"
   refine if_both (fun h1=>?_) (fun h1=>?_)
   ·walk_at "w"
    rename_i p3 H3 s3 m3 p4 H4 s4 m4 p5 H5 n5 s5 m5
    rcases (show fm % 2=0∨fm % 2=1 by lia) with h2|h2
    ·rw [h2]
     refine r_ixL (SqL.of m5) (atI_nat (j:=0) rfl) ?_
     walk_at "w"
     exact hnx _ _ ⟨p3,6,2,rfl,((s2.trans s3).trans s4).trans s5,SqT.of (s5 _ _ (s4 _ _ m3)),by decide,by decide⟩
    ·rw [h2]
     refine r_ixL (SqL.of m5) (atI_nat (j:=1) rfl) ?_
     walk_at "w"
     exact hnx _ _ ⟨p4,2,6,rfl,((s2.trans s3).trans s4).trans s5,SqT.of (s5 _ _ m4),by decide,by decide⟩
   ·walk_at "w"
    exact hnx _ _ ⟨p2,2,2,rfl,s2,SqT.of m2,by decide,by decide⟩
  ·obtain ⟨q,u,v,rfl,s3,hq,hub,hvb⟩:=hp
   have hu0:(0:Int)<(u:Int):=by lia
   have hv0:(0:Int)<(v:Int):=by lia
   walk_at "w"
   have z1:=Int.emod_nonneg (fm / 8) (show (u:Int)≠0 by lia)
   have z2:=Int.emod_lt_of_pos (fm / 8) hu0
   obtain ⟨N,hN,N0,N1⟩:∃ N:Nat,1+fm / 8 % (u:Int)=(N:Int)∧1≤N∧N≤12:=⟨(1+fm / 8 % (u:Int)).toNat,by lia,by lia,by lia⟩
   rw [hN]
   clear hN z1 z2
   refine r_isr (by lia) (by lia) ?_
   have sA:=s1.trans s3
   refine f_invR (fun i σ Hn=>∃ (o1 o2 o3 o4 o5:Option V) (ys:List V) (bs:List (List Nt)),σ=[some (.ref a),some (.int j),some (.ref p1),some (.int (tt:Int)),some (.int (bb:Int)),some (.int fm),some (.ref q),o1,o2,o3,o4,o5]∧Same H Hn∧SqT K Hn q [.int (u:Int),.int (v:Int)]∧Hn p1=some (.lst ys)∧BarsL K Hn ys bs∧(V.ref p1∉ys)∧bs.length=i∧(∀ ns∈bs,1≤ns.length∧ns.length≤12∧∀ n∈ns,smO n.1∧lenOk n.2)) ⟨_,_,_,_,_,[],[],rfl,sA,hq,s3 _ _ m1,.nil,(fun z=>nomatch z),rfl,(fun _ z=>nomatch z)⟩ (fun i σ Hn hi hp=>?_) (fun σ Hn hp=>?_)
   ·obtain ⟨o1,o2,o3,o4,o5,ys,bs,rfl,sn,hqn,mp,hB,hno,lb,hok⟩:=hp
    have han:=sn.seq ha
    have hi':i<12:=by lia
    walk_at "w"
    rename_i p5 H5 n5 s5 m5
    have hq5:=s5.at hqn
    refine c_law_mixed (by lia) fun mm g1 g2=>?_
    walk_at "w"
    have z1:=Int.emod_nonneg mm (show (v:Int)≠0 by lia)
    have z2:=Int.emod_lt_of_pos mm hv0
    obtain ⟨C,hC,C0,C1⟩:∃ C:Nat,1+mm % (v:Int)=(C:Int)∧1≤C∧C≤12:=⟨(1+mm % (v:Int)).toNat,by lia,by lia,by lia⟩
    rw [hC]
    refine c_law_pieces ⟨C0,C1,by lia,by lia⟩ fun l6 H6 ps n6 s6 m6 lps hps hsum=>?_
    have ne51:p5≠p1:=fun z=>by rw [z,mp] at n5;cases n5
    walk_at "w"
    refine f_invN (k:=false) (xs:=ps.map V.int) (fun i' σ Hm=>∃ (o4 o5:Option V) (cv:Int) (ws:List V) (ns':List Nt),σ=[some (.ref a),some (.int j),some (.ref p1),some (.int (tt:Int)),some (.int (bb:Int)),some (.int fm),some (.ref q),some (.int (0+(i:Int))),some (.int cv),some (.ref p5),o4,o5]∧Same Hn Hm∧Hm l6=some (.lst (ps.map V.int))∧Hm p5=some (.lst ws)∧NotesL K Hm ws ns'∧ns'.length=i'∧∀ n∈ns',smO n.1∧lenOk n.2) ⟨_,_,_,[],[],rfl,s5.trans s6,m6,s6 _ _ m5,.nil,rfl,(fun _ z=>nomatch z)⟩ (fun i' σ Hm hp=>by obtain ⟨_,_,_,_,_,rfl,_,hl6,_⟩:=hp;exact sql_sq (SqL.of hl6)) (fun i' x σ Hm Hm' hx hp sm'=>?_) (fun σ Hm hp=>?_)
    ·obtain ⟨o4,o5,cv,ws,ns',rfl,sm,hl6,mw,hN,lw,hok'⟩:=hp
     obtain ⟨rfl,hi2⟩:=int_get hx
     have hpb:=hps _ (show ps.getD i' 0∈ps by rw [List.getD,List.getElem?_eq_getElem hi2];exact List.getElem_mem _)
     obtain ⟨pp,hpp,pp0,pp1⟩:∃ pp:Nat,ps.getD i' 0=(pp:Int)∧1≤pp∧pp≤21:=⟨(ps.getD i' 0).toNat,by lia,by lia,by lia⟩
     rw [hpp]
     walk_at "w"
     refine c_law_mixed (by lia) fun m7 g3 g4=>?_
     walk_at "w"
     refine c_law_name_row (by lia) fun p8 H8 z8 v8 o8 s8 m8 t8 nm8=>?_
     walk_at "w"
     refine c_law_lowest (by lia) (Nat.lt_of_le_of_lt bb1 (by decide +kernel)) fun p9 H9 s9 m9=>?_
     walk_at "w"
     rename_i pA HA sA' mA
     have sZ:=((sm'.trans s8).trans s9).trans sA'
     have e9:=sZ _ _ mw
     have lN:=hN.length
     rw [lps] at hi2
     have ne65:l6≠p5:=fun z=>by
      have:=s5.trans s6
      rw [z,m5] at n6
      cases n6
     refine r_append e9 (by lia) ?_
     walk_at "w"
     refine⟨_,_,_,ws++[.ref pA],ns'++[(o8,((pp / Nat.gcd pp bb:Nat):Int),((bb / Nat.gcd pp bb:Nat):Int))],rfl,(sm.trans sZ).upd_old n5,by rw [upd_ne ne65];exact sZ _ _ hl6,upd_same,?_,by simp [lw],fun n hn=>?_⟩
     ·exact ((hN.same sZ).off e9).snoc (n:=(o8,((pp / Nat.gcd pp bb:Nat):Int),((bb / Nat.gcd pp bb:Nat):Int))) (NoteAt.off ⟨pA,v8,p9,rfl,SqT.of mA,t8.same (s9.trans sA'),sA'.at (SqT.of m9)⟩ e9)
     ·rcases List.mem_append.mp hn with z|z
      ·exact hok' n z
      ·rw [List.mem_singleton.mp z]
       exact⟨nm8,len_low (by lia) (by lia)⟩
    ·obtain ⟨o4,o5,cv,ws,ns',rfl,sm,hl6,mw,hN,lw,hok'⟩:=hp
     have e1:=sm _ _ mp
     have lN:=hN.length
     have lB:=hB.length
     rw [List.length_map,lps] at lw
     walk_at "w"
     refine r_append e1 (by lia) ?_
     walk_at "w"
     refine⟨_,_,_,_,_,ys++[.ref p5],bs++[ns'],rfl,(sn.trans sm).upd_old n1,?_,upd_same,?_,fun z=>?_,by simp [lb],fun ns2 hn2=>?_⟩
     ·exact upd_sqT (sm.at hqn) e1
     ·exact ((hB.same sm).off e1 hno).snoc (by rw [upd_ne ne51];exact mw) (hN.off e1)
     ·rcases List.mem_append.mp z with z|z
      ·exact hno z
      ·have:=List.mem_singleton.mp z
       cases this
       exact ne51 rfl
     ·rcases List.mem_append.mp hn2 with z|z
      ·exact hok ns2 z
      ·rw [List.mem_singleton.mp z]
       exact⟨by lia,by lia,hok'⟩
   ·obtain ⟨o1,o2,o3,o4,o5,ys,bs,rfl,sn,hqn,mp,hB,hno,lb,hok⟩:=hp
    walk_at "w"
    refine c_law_lowest (by lia) (Nat.lt_of_le_of_lt bb1 (by decide +kernel)) fun p7 H7 s7 m7=>?_
    walk_at "w"
    rename_i p8 H8 s8 m8
    have sB:=s7.trans s8
    exact k p8 p7 p1 H8 (_,_) ys bs (sn.trans sB) ⟨SqT.of m8,s8.at (SqT.of m7),sB _ _ mp,hB.same sB⟩ ⟨by lia,by lia,hok,len_low (by lia) (by lia)⟩
theorem sc_law_told:FnScope ["_law_script","_law_kind","_law_at","_law_cell"] ["_law_script","_law_kind","_law_at"] (defScope s_law_told):=⟨rfl,rfl,rfl,by decide +kernel,rfl,by decide +kernel,by decide +kernel⟩
structure Os_law_told (P:Program) (w:World) (K:PySem.W.Frag) (mg:Str→Option Value) (base:Heap) (G:Adr):Prop where
 law_cell_at:Ok P w K mg base 1 "_law_cell_at" ["_law_script","_law_k"] (sp_law_cell_at K)
 law_mixed:Ok P w K mg base 1 "_law_mixed" ["_law_cell","_law_k"] (sp_law_mixed K)
 law_steps:Ok P w K mg base 2 "_law_steps" ["_law_script","_law_at"] (sp_law_steps K)
 law_keys:Ok P w K mg base 2 "_law_keys" ["_law_script","_law_at"] (sp_law_keys K)
set_option maxHeartbeats 8000000 in
theorem ok_law_told (D:Def K mg "_law_told" s_law_told ["_law_script","_law_kind","_law_at"]) (T:Txt K mg G) (O:Os_law_told P w K mg base G) (Y:base.NoSeer∧P.given.tree=none):Ok P w K mg base 3 "_law_told" ["_law_script","_law_kind","_law_at"] (sp_law_told K):=by
 have S:=sc_law_told
 refine D.ok S (fun vs H Q E h=>?_) (fun f cdv A outer s H vs Q E hr h=>?_)
 ·obtain ⟨a,ns,kn,j,rfl,ha,hkn,hj0,hj1,k⟩:=h;rfl
 ·obtain ⟨a,ns,kn,j,rfl,ha,hkn,hj0,hj1,k⟩:=h
  have hu:=hu_of hr
  have c_Tuning:=T.c_Tuning
  have c_CommaTuning:=T.c_CommaTuning
  have n_CommaTuning_steps:=T.n_CommaTuning_steps
  have c_KeyTuning:=T.c_KeyTuning
  have n_KeyTuning_own_keys:=T.n_KeyTuning_own_keys
  have c_Board:=T.c_Board
  have n_Board_own_keys:=T.n_Board_own_keys
  have n_Board_octave:=T.n_Board_octave
  refine⟨_,(pss_cons (ps_if (pt_cmpR op_eq (pv 1) pe_int (nomark _)) (pss_one (ps_ret (pcall O.law_steps (hr.mono (by decide)) (pa_cons (pv 0) (pa_cons (pv 2) pa_nil))))) pss_nil) (pss_cons (ps_if (pt_cmpR op_eq (pv 1) pe_int (nomark _)) (pss_one (ps_ret (pcall O.law_keys (hr.mono (by decide)) (pa_cons (pv 0) (pa_cons (pv 2) pa_nil))))) pss_nil) (pss_cons (ps_set (i:=3) S.nd rfl (Or.inr rfl) (pcall O.law_cell_at (hr.mono (by decide)) (pa_cons (pv 0) (pa_cons (pv 2) pa_nil)))) (pss_one (ps_ret (pe_op (kop_catT K rfl) (pe_tup (pa_cons (pe_op op_add pe_int (pe_op op_mod (pcall O.law_mixed (hr.mono (by decide)) (pa_cons (pv 3) (pa_cons pe_int pa_nil))) pe_int)) pa_nil)) (pe_callTy (kN_tuple K rfl) rfl T.b_tuple PyProof.Rows.boot_tuple (pa_cons (pe_comp (N:=["_law_j","_law_cell"]) (ix:=[none,some 3]) rfl (pi_range1 rfl T.b_range (pa_cons pe_int pa_nil)) (fun _ _ _ _ _=>(pg_name (i:=0) (show List.Nodup (["_law_j","_law_cell"]:List Str) by decide +kernel) rfl (Or.inl rfl))) (fun _ _ _ _ _=>rfl) (fun _ _ _ _ _=>(pe_op op_sub (pe_op op_mod (pcall O.law_mixed (hr.mono (by decide)) (pa_cons (pv 1) (pa_cons (pe_op op_add pe_int (pv 0)) pa_nil))) pe_int) pe_int)) rfl (by decide +kernel) (by decide +kernel) rfl ⟨⟨rfl,Or.inr (Or.inl rfl),rfl,rfl⟩,True.intro⟩) pa_nil)))))))),?_⟩
  walk_at "w"
  refine if_both (fun h1=>?_) (fun h1=>?_)
  ·have h1':kn=1:=by simpa using h1
   walk_at "w"
   refine c_law_steps ⟨ha,by lia,by lia⟩ fun l H' ys rs n s m hR hno hSt=>?_
   exact k l (.steps rs) H' s ⟨ys,m,hR,hno⟩ hSt h1'.symm
  ·have h1':kn≠1:=by simpa using h1
   walk_at "w"
   refine if_both (fun h2=>?_) (fun h2=>?_)
   ·have h2':kn=2:=by simpa using h2
    walk_at "w"
    refine c_law_keys ⟨ha,by lia,by lia⟩ fun l H' ys ks n s m hK l3 hk=>?_
    exact k l (.keys ks) H' s ⟨ys,m,hK⟩ ⟨l3,hk⟩ h2'.symm
   ·have h2':kn≠2:=by simpa using h2
    walk_at "w"
    refine c_law_mixed (by lia) fun mm g1 g2=>?_
    walk_at "w"
    rename_i p1 H1 s1 m1
    refine rd_rangeI [some (.int _)] (fun _ x=>-30≤x∧x≤30) rfl (by decide) (fun i' H' Qc hi' s' kc=>?_) (fun l5 H5 xs n5 s5 m5 lx hx=>?_)
    ·walk_at "w"
     refine c_law_mixed (by lia) fun mm g1 g2=>?_
     walk_at "w"
     exact kc _ _ (by lia) (Same.refl _)
    walk_at "w"
    rename_i p6 H6 s6 m6
    obtain ⟨x1,x2,x3,x4,rfl⟩:∃ x1 x2 x3 x4,xs=[x1,x2,x3,x4]:=by match xs,lx with|[x1,x2,x3,x4],_=>exact⟨_,_,_,_,rfl⟩
    refine r_catT ((s5.trans s6).at (SqT.of m1)) (SqT.of m6) (fun z=>nomatch z) (fun z=>nomatch z) (by show 1+4≤1000;decide) fun p7 H7 s7 m7=>?_
    have hw:SqT K H7 p7 ([1+mm % 19,x1,x2,x3,x4].map V.int):=SqT.of m7
    have sA:=((s1.trans s5).trans s6).trans s7
    have hb:∀ x∈[1+mm % 19,x1,x2,x3,x4],-30≤x∧x≤30:=fun x hx'=>by
     rcases List.mem_cons.mp hx' with rfl|hx'
     ·lia
     ·obtain ⟨j3,hj3,e3⟩:=List.getElem_of_mem hx'
      exact hx j3 x (by rw [List.getElem?_eq_getElem hj3,e3])
    rcases (show kn=0∨kn=3 by lia) with rfl|rfl
    ·exact k p7 (.plain _) H7 sA hw rfl rfl
    ·exact k p7 (.board _) H7 sA hw ⟨rfl,by show 1≤1+mm % 19;lia,hb⟩ rfl
theorem sc_Board_init:FnScope ["self","row"] ["self","row"] (defScope s_Board_init):=⟨rfl,rfl,rfl,by decide +kernel,rfl,by decide +kernel,by decide +kernel⟩
structure Os_Board_init (P:Program) (w:World) (K:PySem.W.Frag) (mg:Str→Option Value) (base:Heap) (G:Adr):Prop where
 KeyTuning_init:OkM P w K mg base 2 G.f_KeyTuning_init ["self","keys"] (sp_KeyTuning_init K)
set_option maxHeartbeats 4000000 in
theorem ok_Board_init (D:DefM K G.f_Board_init "__init__" "Board.__init__" s_Board_init ["self","row"]) (T:Txt K mg G) (O:Os_Board_init P w K mg base G) (Y:base.NoSeer∧P.given.tree=none):OkMX P w K mg base 3 G.f_Board_init ["self","row"] (sp_Board_init K):=by
 have S:=sc_Board_init
 refine D.okX S (fun vs H Q E h=>?_) (fun f cdv A outer s H vs Q E hr h=>?_)
 ·obtain ⟨x,a,C,dx,w,rfl,hC,hx,ha,lw,kE,k⟩:=h;rfl
 ·obtain ⟨x,a,C,dx,w,rfl,hC,hx,ha,lw,kE,k⟩:=h
  have hu:=hu_of hr
  have c_Tuning:=T.c_Tuning
  have c_CommaTuning:=T.c_CommaTuning
  have n_CommaTuning_steps:=T.n_CommaTuning_steps
  have c_KeyTuning:=T.c_KeyTuning
  have n_KeyTuning_own_keys:=T.n_KeyTuning_own_keys
  have c_Board:=T.c_Board
  have n_Board_own_keys:=T.n_Board_own_keys
  have n_Board_octave:=T.n_Board_octave
  refine⟨_,(@pss_cons _ _ _ _ _ (ps_if (pt_cmpR op_lt (pe_ix (kx_seq K rfl) (pv 1) pe_int (fun _ _=>rfl)) pe_int (nomark _)) (pss_one (ps_raise T.i_NoBoard PySem.F.excBase_ValueError (by decide +kernel) PySem.F.excBase_ValueError rfl (fun _ _ z=>z) rfl rfl T.g_NoBoard (pa_cons pe_str pa_nil))) pss_nil) (@pss_cons _ _ _ _ _ (ps_expr (pcls O.KeyTuning_init T.j_KeyTuning_init (hr.mono (by decide)) rfl T.g_KeyTuning (@pa_cons _ _ _ _ _ (pv 0) (@pa_cons _ _ _ _ _ (@pe_lst _ _ _ _ (@pa_cons _ _ _ _ _ (@pe_tup _ _ _ _ _ (pa_cons (pv 1) (pa_cons pe_int pa_nil))) pa_nil (by rfl))) pa_nil (by rfl)) (by rfl)))) (pss_one (kps_fld K rfl (pv 0) (pe_ix (kx_seq K rfl) (pv 1) pe_int (fun _ _=>rfl)) rfl)))),?_⟩
  obtain rfl:G.a_Board=C:=by have:=T.w_Board;rw [hC] at this;cases this;rfl
  walk_at "w"
  refine r_ixT ha (atI_nat (j:=0) (int_at (by lia))) ?_
  walk_at "w"
  refine if_both (fun h=>?_) (fun h=>?_)
  ·have h':=of_decide_eq_true h
   walk_at "w"
   exact⟨Nat.le_of_ble_eq_true rfl,kE h' _ _ T.m_NoBoard (Same.refl _)⟩
  ·have h':=of_decide_eq_false h
   walk_at "w"
   rename_i p1 H1 s1 m1 l2 H2 n2 s2 m2
   have s12:=s1.trans s2
   have kk:KeysL K H2 [.ref p1] [(w,0)]:=.cons (s2.at (SqT.of m1)) (s12.at ha) .nil
   refine c_KeyTuning_init ⟨.inr T.w_Board,s12 _ _ hx,SqL.of m2,kk,Nat.le_of_ble_eq_true rfl,fun k hk=>.inl (by rw [List.mem_singleton.mp hk])⟩ fun l3 H3 n3 s3 m3=>?_
   have s13:=s12.trans s3
   have hx3:=s13 _ _ hx
   have ha3:=s13.at ha
   have hax:SqT K (upd H3 x (.ins G.a_Board dx [("own_keys",.ref l3)])) a (w.map V.int):=sqT_ins ha3 hx3
   walk_at "w"
   refine r_ixT hax (atI_nat (j:=0) (int_at (by lia))) ?_
   walk_at "w"
   refine r_sfld1 upd_same c_Board n_Board_octave (Nat.le_of_ble_eq_true rfl) ?_
   exact k (by lia) l3 H3 [.ref p1] (s12.new n3) s13 m3 (kk.same s3) hx3
theorem sc_KeyTuning_sound:FnScope ["self","row"] ["self","row"] (defScope s_KeyTuning_sound):=⟨rfl,rfl,rfl,by decide +kernel,rfl,by decide +kernel,by decide +kernel⟩
structure Os_KeyTuning_sound (P:Program) (w:World) (K:PySem.W.Frag) (mg:Str→Option Value) (base:Heap) (G:Adr):Prop where
 values:Ok P w K mg base 3 "values" ["keys","row"] (sp_values K)
theorem ok_KeyTuning_sound (D:DefM K G.f_KeyTuning_sound "sound" "KeyTuning.sound" s_KeyTuning_sound ["self","row"]) (T:Txt K mg G) (O:Os_KeyTuning_sound P w K mg base G) (Y:base.NoSeer∧P.given.tree=none):OkM P w K mg base 4 G.f_KeyTuning_sound ["self","row"] (sp_KeyTuning_sound K):=by
 have S:=sc_KeyTuning_sound
 refine D.ok S (fun vs H Q E h=>?_) (fun f cdv A outer s H vs Q E hr h=>?_)
 ·obtain ⟨x,l,a,ks,r,rfl,⟨C,dx,ys,hC,hx,m1,k1⟩,⟨h6,hg,hw⟩,ha,lr,br,k⟩:=h;rfl
 ·obtain ⟨x,l,a,ks,r,rfl,⟨C,dx,ys,hC,hx,m1,k1⟩,⟨h6,hg,hw⟩,ha,lr,br,k⟩:=h
  have hu:=hu_of hr
  have c_Tuning:=T.c_Tuning
  have c_CommaTuning:=T.c_CommaTuning
  have n_CommaTuning_steps:=T.n_CommaTuning_steps
  have c_KeyTuning:=T.c_KeyTuning
  have n_KeyTuning_own_keys:=T.n_KeyTuning_own_keys
  have c_Board:=T.c_Board
  have n_Board_own_keys:=T.n_Board_own_keys
  have n_Board_octave:=T.n_Board_octave
  refine⟨_,(pss_one (ps_ret (pcall O.values (hr.mono (by decide)) (pa_cons (kpe_fld K rfl (pv 0) rfl) (pa_cons (pv 1) pa_nil))))),?_⟩
  obtain rfl:G.a_KeyTuning=C:=by have:=T.w_KeyTuning;rw [hC] at this;cases this;rfl
  walk_at "w"
  exact c_values ⟨SqL.of m1,k1,h6,hg,fun q hq=>⟨(hw q hq).1,fewB (hw q hq).2.1 (by decide)⟩,ha,lr,fewB br (by decide)⟩ k
theorem sc_Board_sound:FnScope ["self","row"] ["self","row"] (defScope s_Board_sound):=⟨rfl,rfl,rfl,by decide +kernel,rfl,by decide +kernel,by decide +kernel⟩
structure Os_Board_sound (P:Program) (w:World) (K:PySem.W.Frag) (mg:Str→Option Value) (base:Heap) (G:Adr):Prop where
 values:Ok P w K mg base 3 "values" ["keys","row"] (sp_values K)
theorem ok_Board_sound (D:DefM K G.f_Board_sound "sound" "Board.sound" s_Board_sound ["self","row"]) (T:Txt K mg G) (O:Os_Board_sound P w K mg base G) (Y:base.NoSeer∧P.given.tree=none):OkM P w K mg base 4 G.f_Board_sound ["self","row"] (sp_Board_sound K):=by
 have S:=sc_Board_sound
 refine D.ok S (fun vs H Q E h=>?_) (fun f cdv A outer s H vs Q E hr h=>?_)
 ·obtain ⟨x,l,a,w,r,rfl,⟨C,dx,ys,hC,hx,m1,k1⟩,⟨lw,bw⟩,ha,lr,br,k⟩:=h;rfl
 ·obtain ⟨x,l,a,w,r,rfl,⟨C,dx,ys,hC,hx,m1,k1⟩,⟨lw,bw⟩,ha,lr,br,k⟩:=h
  have hu:=hu_of hr
  have c_Tuning:=T.c_Tuning
  have c_CommaTuning:=T.c_CommaTuning
  have n_CommaTuning_steps:=T.n_CommaTuning_steps
  have c_KeyTuning:=T.c_KeyTuning
  have n_KeyTuning_own_keys:=T.n_KeyTuning_own_keys
  have c_Board:=T.c_Board
  have n_Board_own_keys:=T.n_Board_own_keys
  have n_Board_octave:=T.n_Board_octave
  refine⟨_,(pss_one (ps_ret (pe_ix (kx_seq K rfl) (pcall O.values (hr.mono (by decide)) (pa_cons (kpe_fld K rfl (pv 0) rfl) (pa_cons (pv 1) pa_nil))) pe_int (fun _ _=>rfl)))),?_⟩
  obtain rfl:G.a_Board=C:=by have:=T.w_Board;rw [hC] at this;cases this;rfl
  walk_at "w"
  refine c_values ⟨SqL.of m1,k1,Nat.le_of_ble_eq_true rfl,fun q hq=>.inl (by rw [List.mem_singleton.mp hq]),fun q hq=>by rw [List.mem_singleton.mp hq];exact⟨lw,fewB bw (by decide)⟩,ha,lr,fewB br (by decide)⟩ fun p H' s m=>?_
  walk_at "w"
  have e:val w 0 r=Mth.dt r w:=by unfold val;rw [if_pos rfl];rfl
  show Q (.int (val w 0 r)) H'
  rw [e]
  exact k H' s
theorem sc_law_alike:FnScope ["_law_found","_law_due","_law_one","_law_other"] ["_law_found","_law_due"] (defScope s_law_alike):=⟨rfl,rfl,rfl,by decide +kernel,rfl,by decide +kernel,by decide +kernel⟩
set_option maxHeartbeats 4000000 in
theorem ok_law_alike (D:Def K mg "_law_alike" s_law_alike ["_law_found","_law_due"]) (T:Txt K mg G) (Y:base.NoSeer∧P.given.tree=none):∀ n:Nat,Ok P w K mg base (0+n+1) "_law_alike" ["_law_found","_law_due"] (sp_law_alike K n):=by
 have S:=sc_law_alike
 intro n
 induction n with
 | zero=>exact D.ok S (fun vs H Q E h=>absurd h (sp0_law_alike K)) (fun f cdv A outer s H vs Q E hr h=>absurd h (sp0_law_alike K))
 | succ n ih =>
 refine D.ok (k:=0+n+1) S (fun vs H Q E h=>?_) (fun f cdv A outer s H vs Q E hr h=>?_)
 ·obtain ⟨x,y,rfl,hA,k⟩:=h;rfl
 ·obtain ⟨x,y,rfl,hA,k⟩:=h
  have hu:=hu_of hr
  have c_Tuning:=T.c_Tuning
  have c_CommaTuning:=T.c_CommaTuning
  have n_CommaTuning_steps:=T.n_CommaTuning_steps
  have c_KeyTuning:=T.c_KeyTuning
  have n_KeyTuning_own_keys:=T.n_KeyTuning_own_keys
  have c_Board:=T.c_Board
  have n_Board_own_keys:=T.n_Board_own_keys
  have n_Board_octave:=T.n_Board_octave
  refine⟨_,(pss_cons (ps_if (PW.pt (pw_or (pt_cmpR op_isN (pv 1) pe_non (nomark _)) (pw_or1 (pt_val (pe_callB (kN_isinst K rfl) rfl T.b_isinstance PyProof.Rows.boot_isinstance (pa_cons (pv 1) (pa_cons (pe_bltn (v:=V.ty "str") rfl T.b_str PyProof.Rows.boot_str rfl) pa_nil))))))) (pss_one (ps_ret (pe_or (pe_and (pe_cmpR op_isN (pv 1) pe_non (nomark _)) (pe_one (pe_cmpR op_isN (pv 0) pe_non (nomark _)))) (pe_one (pe_and (pe_callB (kN_isinst K rfl) rfl T.b_isinstance PyProof.Rows.boot_isinstance (pa_cons (pv 0) (pa_cons (pe_bltn (v:=V.ty "str") rfl T.b_str PyProof.Rows.boot_str rfl) pa_nil))) (pe_one (pe_cmpR op_eq (pv 0) (pv 1) (nomark _)))))))) pss_nil) (pss_cons (ps_if (pt_val (pe_callB (kN_isinst K rfl) rfl T.b_isinstance PyProof.Rows.boot_isinstance (pa_cons (pv 1) (pa_cons (pe_bltn (v:=V.ty "int") rfl T.b_int PyProof.Rows.boot_int rfl) pa_nil)))) (pss_one (ps_ret (pe_and (pe_callB (kN_isinst K rfl) rfl T.b_isinstance PyProof.Rows.boot_isinstance (pa_cons (pv 0) (pa_cons (pe_bltn (v:=V.ty "int") rfl T.b_int PyProof.Rows.boot_int rfl) pa_nil))) (pe_and (pe_not (pe_callB (kN_isinst K rfl) rfl T.b_isinstance PyProof.Rows.boot_isinstance (pa_cons (pv 0) (pa_cons (pe_bltn (v:=V.ty "bool") rfl T.b_bool PyProof.Rows.boot_bool rfl) pa_nil)))) (pe_one (pe_cmpR op_eq (pv 0) (pv 1) (nomark _))))))) pss_nil) (pss_cons (ps_if (PW.pt (pw_or (PW.pt (pw_and (pt_val (pe_callB (kN_isinst K rfl) rfl T.b_isinstance PyProof.Rows.boot_isinstance (pa_cons (pv 1) (pa_cons (pe_bltn (v:=V.ty "tuple") rfl T.b_tuple PyProof.Rows.boot_tuple rfl) pa_nil)))) (pw_and1 (pt_not (pt_val (pe_callB (kN_isinst K rfl) rfl T.b_isinstance PyProof.Rows.boot_isinstance (pa_cons (pv 0) (pa_cons (pe_bltn (v:=V.ty "tuple") rfl T.b_tuple PyProof.Rows.boot_tuple rfl) pa_nil)))))))) (pw_or1 (PW.pt (pw_and (pt_val (pe_callB (kN_isinst K rfl) rfl T.b_isinstance PyProof.Rows.boot_isinstance (pa_cons (pv 1) (pa_cons (pe_bltn (v:=V.ty "list") rfl T.b_list PyProof.Rows.boot_list rfl) pa_nil)))) (pw_and1 (pt_not (pt_val (pe_callB (kN_isinst K rfl) rfl T.b_isinstance PyProof.Rows.boot_isinstance (pa_cons (pv 0) (pa_cons (pe_bltn (v:=V.ty "list") rfl T.b_list PyProof.Rows.boot_list rfl) pa_nil))))))))))) (pss_one (ps_ret pe_bl)) pss_nil) (pss_cons (ps_if (pt_cmpR op_ne (pe_callB (kN_len K rfl) rfl T.b_len PySem.boot_len (pa_cons (pv 0) pa_nil)) (pe_callB (kN_len K rfl) rfl T.b_len PySem.boot_len (pa_cons (pv 1) pa_nil)) (nomark _)) (pss_one (ps_ret pe_bl)) pss_nil) (pss_cons (ps_for PassesOwn.never rfl (pi_eith (kpi_zip2 K rfl true true rfl T.b_zip (pa_cons (pv 0) (pa_cons (pv 1) pa_nil))) (kpi_zip2 K rfl false false rfl T.b_zip (pa_cons (pv 0) (pa_cons (pv 1) pa_nil)))) (kpg_tup (n:=2) K rfl rfl (pgs_cons (pg_name (i:=2) S.nd rfl (Or.inl rfl)) (pgs_cons (pg_name (i:=3) S.nd rfl (Or.inl rfl)) pgs_nil))) (pss_one (ps_if (pt_not (pt_val (pcall ih hr (pa_cons (pv 2) (pa_cons (pv 3) pa_nil))))) (pss_one (ps_ret pe_bl)) pss_nil))) (pss_one (ps_ret pe_bl))))))),?_⟩
  rcases hA with ⟨rfl,rfl⟩|⟨z,rfl,rfl⟩|⟨i,rfl,rfl⟩|⟨a,b,xs,ys,rfl,rfl,hk,hl,hb,hrec⟩
  ·iterate 20 (first|exact k _ (Same.refl _)|refine⟨rfl,?_⟩|refine if_tt rfl ?_|refine if_ff rfl ?_|(walk_at "w"))
  ·iterate 16 (first|exact k _ (Same.refl _)|refine⟨rfl,?_⟩|refine if_tt rfl ?_|refine if_ff rfl ?_|refine if_tt (decide_eq_true rfl) ?_|(walk_at "w"))
   rw [decide_eq_true rfl]
   exact k _ (Same.refl _)
  ·iterate 16 (first|exact k _ (Same.refl _)|refine⟨rfl,?_⟩|refine if_tt rfl ?_|refine if_ff rfl ?_|refine if_tt (decide_eq_true rfl) ?_|(walk_at "w"))
   rw [decide_eq_true rfl]
   exact k _ (Same.refl _)
  ·rcases hk with ⟨h1,h2⟩|⟨h1,h2⟩
   ·iterate 24 (first|refine⟨rfl,?_⟩|refine if_tt rfl ?_|refine if_ff rfl ?_|refine if_ff (by rw [decide_eq_true (by lia)];rfl) ?_|(walk_at "w"))
    refine i_left ?_
    walk_at "w"
    refine f_invZ (k1:=true) (k2:=true) (xs:=xs) (ys:=ys) hl (fun i σ H2=>∃ o1 o2:Option V,σ=[some (.ref a),some (.ref b),o1,o2]∧Same H H2) ⟨_,_,rfl,Same.refl _⟩ (fun i σ H2 hp=>by obtain ⟨_,_,rfl,sn⟩:=hp;exact⟨sqt_sq (sn.at h1),sqt_sq (sn.at h2)⟩) (fun i x y σ H2 H3 hx hy hp s3=>?_) (fun σ H2 hp=>?_)
    ·obtain ⟨o1,o2,rfl,s2⟩:=hp
     walk_at "w"
     refine c_law_alike ((hrec i x y hx hy).same (s2.trans s3)) fun H4 s4=>?_
     walk_at "w"
     refine if_ff rfl ?_
     walk_at "w"
     exact⟨_,_,rfl,(s2.trans s3).trans s4⟩
    ·obtain ⟨o1,o2,rfl,s2⟩:=hp
     walk_at "w"
     exact k _ s2
   ·iterate 24 (first|refine⟨rfl,?_⟩|refine if_tt rfl ?_|refine if_ff rfl ?_|refine if_ff (by rw [decide_eq_true (by lia)];rfl) ?_|(walk_at "w"))
    refine i_right ?_
    walk_at "w"
    refine f_invZ (k1:=false) (k2:=false) (xs:=xs) (ys:=ys) hl (fun i σ H2=>∃ o1 o2:Option V,σ=[some (.ref a),some (.ref b),o1,o2]∧Same H H2) ⟨_,_,rfl,Same.refl _⟩ (fun i σ H2 hp=>by obtain ⟨_,_,rfl,sn⟩:=hp;exact⟨sql_sq (SqL.of (sn _ _ h1)),sql_sq (SqL.of (sn _ _ h2))⟩) (fun i x y σ H2 H3 hx hy hp s3=>?_) (fun σ H2 hp=>?_)
    ·obtain ⟨o1,o2,rfl,s2⟩:=hp
     walk_at "w"
     refine c_law_alike ((hrec i x y hx hy).same (s2.trans s3)) fun H4 s4=>?_
     walk_at "w"
     refine if_ff rfl ?_
     walk_at "w"
     exact⟨_,_,rfl,(s2.trans s3).trans s4⟩
    ·obtain ⟨o1,o2,rfl,s2⟩:=hp
     walk_at "w"
     exact k _ s2
theorem sc_lowered:FnScope ["vector","step","place"] ["vector","step","place"] (defScope s_lowered):=⟨rfl,rfl,rfl,by decide +kernel,rfl,by decide +kernel,by decide +kernel⟩
structure Os_lowered (P:Program) (w:World) (K:PySem.W.Frag) (mg:Str→Option Value) (base:Heap) (G:Adr):Prop where
 over:Ok P w K mg base 1 "over" ["one","other"] (sp_over K)
 power:Ok P w K mg base 1 "power" ["row","n"] (sp_power K)
theorem ok_lowered (D:Def K mg "lowered" s_lowered ["vector","step","place"]) (T:Txt K mg G) (O:Os_lowered P w K mg base G) (Y:base.NoSeer∧P.given.tree=none):Ok P w K mg base 34 "lowered" ["vector","step","place"] (sp_lowered K):=by
 have S:=sc_lowered
 refine D.ok S (fun vs H Q E h=>?_) (fun f cdv A outer s H vs Q E hr h=>?_)
 ·obtain ⟨a,b,p,n,M,k,v,s,rfl,ha,hb,lv,ls,hn,hp,h0,bv,bs,hM,hk,kk⟩:=h;rfl
 ·obtain ⟨a,b,p,n,M,k,v,s,rfl,ha,hb,lv,ls,hn,hp,h0,bv,bs,hM,hk,kk⟩:=h
  have hu:=hu_of hr
  have c_Tuning:=T.c_Tuning
  have c_CommaTuning:=T.c_CommaTuning
  have n_CommaTuning_steps:=T.n_CommaTuning_steps
  have c_KeyTuning:=T.c_KeyTuning
  have n_KeyTuning_own_keys:=T.n_KeyTuning_own_keys
  have c_Board:=T.c_Board
  have n_Board_own_keys:=T.n_Board_own_keys
  have n_Board_octave:=T.n_Board_octave
  refine⟨_,(pss_one (ps_ret (pcall O.over (hr.mono (by decide)) (pa_cons (pv 0) (pa_cons (pcall O.power (hr.mono (by decide)) (pa_cons (pv 1) (pa_cons (pe_op (op_fdivP Y rfl rfl rfl rfl rfl (hr.mono (by decide))) (pe_ix (kx_seq K rfl) (pv 0) (pv 2) (fun _ _=>rfl)) (pe_ix (kx_seq K rfl) (pv 1) (pv 2) (fun _ _=>rfl))) pa_nil))) pa_nil))))),?_⟩
  walk_at "v"
  refine r_ixT ha (atI_nat (int_at (by lia))) ?_
  walk_at "v"
  refine r_ixT hb (atI_nat (int_at (by lia))) ?_
  walk_at "w"
  refine c_power s hb (by lia) (fun x hx=>?_) fun p1 H1 s1 m1=>?_
  ·have b1:bitsI x≤k:=by
    rw [Mth.bits_bl]
    exact Mth.bl_le (Nat.lt_of_le_of_lt (mem_bd bs hx) hM)
   have b2:bitsI ((v.getD p 0).fdiv (s.getD p 0))≤k:=by
    rw [Mth.bits_bl]
    exact Mth.bl_le (Nat.lt_of_le_of_lt (Nat.le_trans (Mth.fdiv_le _ h0) (bv p)) hM)
   unfold CMulW
   lia
  walk_at "w"
  refine c_over v (Mth.mulv s ((v.getD p 0).fdiv (s.getD p 0))) (s1.at ha) (SqT.of m1) (by rw [lv,Mth.mulv_len ls]) (by lia) fun p2 H2 s2 m2=>?_
  exact kk _ _ (s1.trans s2) m2
theorem sc_parted:FnScope ["vectors","place","led","others","least","left"] ["vectors","place"] (defScope s_parted):=⟨rfl,rfl,rfl,by decide +kernel,rfl,by decide +kernel,by decide +kernel⟩
structure Os_parted (P:Program) (w:World) (K:PySem.W.Frag) (mg:Str→Option Value) (base:Heap) (G:Adr):Prop where
 power:Ok P w K mg base 1 "power" ["row","n"] (sp_power K)
 lowered:Ok P w K mg base 34 "lowered" ["vector","step","place"] (sp_lowered K)
set_option maxHeartbeats 4000000 in
theorem ok_parted (D:DefT K mg "parted" s_parted ["vectors","place"] G.c_lam_parted) (T:Txt K mg G) (O:Os_parted P w K mg base G) (Y:base.NoSeer∧P.given.tree=none) (B:PySem.W.CodeHd base G.c_lam_parted (tabP K "parted")∧base.BuiltinsAt mg (tabP K "parted")):Ok P w K mg base 35 "parted" ["vectors","place"] (sp_parted K):=by
 have S:=sc_parted
 refine D.ok S (fun vs H Q E h=>?_) (fun f A outer s H vs Q E hr h=>?_)
 ·obtain ⟨l,p,n,M,A,k,xs,rs,rfl,hl,hrs,h64,hln,hn,hp,hbd,hA,hA0,hMk,hk,hT,kk⟩:=h;rfl
 ·obtain ⟨l,p,n,M,A,k,xs,rs,rfl,hl,hrs,h64,hln,hn,hp,hbd,hA,hA0,hMk,hk,hT,kk⟩:=h
  have hu:=hu_of hr
  have c_Tuning:=T.c_Tuning
  have c_CommaTuning:=T.c_CommaTuning
  have n_CommaTuning_steps:=T.n_CommaTuning_steps
  have c_KeyTuning:=T.c_KeyTuning
  have n_KeyTuning_own_keys:=T.n_KeyTuning_own_keys
  have c_Board:=T.c_Board
  have n_Board_own_keys:=T.n_Board_own_keys
  have n_Board_octave:=T.n_Board_octave
  refine⟨_,(pss_cons (ps_setC (k:=2) (N:=["vector","place"]) (ix:=[none,some 1]) S.nd rfl (Or.inl rfl) rfl (kpi_list K rfl (pv 0)) (fun _ _ _ _ _=>(pg_name (i:=0) (show List.Nodup (["vector","place"]:List Str) by decide +kernel) rfl (Or.inl rfl))) (fun _ _ _ _ _=>(pt_cmpR op_ne (pe_ix (kx_seq K rfl) (pv 0) (pv 1) (fun _ _=>rfl)) pe_int (nomark _))) (fun _ _ _ _ _=>(pv 0)) rfl (by decide +kernel) (by decide +kernel) rfl ⟨⟨rfl,Or.inr (Or.inl rfl),rfl,rfl⟩,True.intro⟩) (pss_cons (ps_setC (k:=3) (N:=["vector","place"]) (ix:=[none,some 1]) S.nd rfl (Or.inl rfl) rfl (kpi_list K rfl (pv 0)) (fun _ _ _ _ _=>(pg_name (i:=0) (show List.Nodup (["vector","place"]:List Str) by decide +kernel) rfl (Or.inl rfl))) (fun _ _ _ _ _=>(pt_cmpR op_eq (pe_ix (kx_seq K rfl) (pv 0) (pv 1) (fun _ _=>rfl)) pe_int (nomark _))) (fun _ _ _ _ _=>(pv 0)) rfl (by decide +kernel) (by decide +kernel) rfl ⟨⟨rfl,Or.inr (Or.inl rfl),rfl,rfl⟩,True.intro⟩) (pss_cons (ps_while PassesOwn.never (pt_cmpR op_gt (pe_callB (kN_len K rfl) rfl T.b_len PySem.boot_len (pa_cons (pv 2) pa_nil)) pe_int (nomark _)) (pss_cons (ps_set (i:=2) S.nd rfl (Or.inl rfl) (kpe_sortL (k:=0) (q:="parted.<locals>.<lambda>") (lp:=lpP) (y:="vector") (fns:=["place"]) (ixs:=[some 1]) K rfl rfl (hr.mono (by decide)) (pv 2) rfl B.1 B.2 (fun _ _ _ _ _=>rfl) (fun _ _ _ _=>(pe_callB callN_abs rfl T.b_abs PyProof.Rows.boot_abs (pa_cons (pe_ix (kx_seq K rfl) (pv 0) (pv 1) (fun _ _=>rfl)) pa_nil))) rfl rfl rfl rfl (by decide +kernel) rfl ⟨⟨rfl,Or.inr (Or.inl rfl),rfl,rfl⟩,True.intro⟩ rfl rfl T.b_sorted PyProof.Rows.boot_sorted)) (pss_cons (ps_set (i:=4) S.nd rfl (Or.inr rfl) (pe_ix (kx_seq K rfl) (pv 2) pe_int (fun _ _=>rfl))) (pss_cons (ps_setC (k:=5) (N:=["vector","least","place"]) (ix:=[none,some 4,some 1]) S.nd rfl (Or.inl rfl) rfl (kpi_list K rfl (pe_slice (ksl_list K rfl) (pv 2) (po_some pe_int) po_none)) (fun _ _ _ _ _=>(pg_name (i:=0) (show List.Nodup (["vector","least","place"]:List Str) by decide +kernel) rfl (Or.inl rfl))) (fun _ _ _ _ _=>rfl) (fun _ _ _ _ _=>(pcall O.lowered (hr.mono (by decide)) (pa_cons (pv 0) (pa_cons (pv 1) (pa_cons (pv 2) pa_nil))))) rfl (by decide +kernel) (by decide +kernel) rfl ⟨⟨rfl,Or.inr (Or.inl rfl),rfl,rfl⟩,⟨⟨rfl,Or.inr (Or.inl rfl),rfl,rfl⟩,True.intro⟩⟩) (pss_cons (ps_set (i:=2) S.nd rfl (Or.inl rfl) (pe_op op_cat (pe_lst (pa_cons (pv 4) pa_nil)) (pe_comp (N:=["vector","place"]) (ix:=[none,some 1]) rfl (kpi_list K rfl (pv 5)) (fun _ _ _ _ _=>(pg_name (i:=0) (show List.Nodup (["vector","place"]:List Str) by decide +kernel) rfl (Or.inl rfl))) (fun _ _ _ _ _=>(pt_cmpR op_ne (pe_ix (kx_seq K rfl) (pv 0) (pv 1) (fun _ _=>rfl)) pe_int (nomark _))) (fun _ _ _ _ _=>(pv 0)) rfl (by decide +kernel) (by decide +kernel) rfl ⟨⟨rfl,Or.inr (Or.inl rfl),rfl,rfl⟩,True.intro⟩))) (pss_one (ps_set (i:=3) S.nd rfl (Or.inl rfl) (pe_op op_cat (pv 3) (pe_comp (N:=["vector","place"]) (ix:=[none,some 1]) rfl (kpi_list K rfl (pv 5)) (fun _ _ _ _ _=>(pg_name (i:=0) (show List.Nodup (["vector","place"]:List Str) by decide +kernel) rfl (Or.inl rfl))) (fun _ _ _ _ _=>(pt_cmpR op_eq (pe_ix (kx_seq K rfl) (pv 0) (pv 1) (fun _ _=>rfl)) pe_int (nomark _))) (fun _ _ _ _ _=>(pv 0)) rfl (by decide +kernel) (by decide +kernel) rfl ⟨⟨rfl,Or.inr (Or.inl rfl),rfl,rfl⟩,True.intro⟩))))))))) (pss_one (ps_ret (pe_tup (pa_cons (pe_comp (N:=["vector","place"]) (ix:=[none,some 1]) rfl (kpi_list K rfl (pv 2)) (fun _ _ _ _ _=>(pg_name (i:=0) (show List.Nodup (["vector","place"]:List Str) by decide +kernel) rfl (Or.inl rfl))) (fun _ _ _ _ _=>rfl) (fun _ _ _ _ _=>(pe_ifExp (pt_cmpR op_lt (pe_ix (kx_seq K rfl) (pv 0) (pv 1) (fun _ _=>rfl)) pe_int (nomark _)) (pcall O.power (hr.mono (by decide)) (pa_cons (pv 0) (pa_cons (pe_un un_neg pe_int) pa_nil))) (pv 0))) rfl (by decide +kernel) (by decide +kernel) rfl ⟨⟨rfl,Or.inr (Or.inl rfl),rfl,rfl⟩,True.intro⟩) (pa_cons (pv 3) pa_nil)))))))),?_⟩
  walk_at "w"
  refine rd_filterRows [some (.int p)] (fun v=>v.getD p 0 != 0) rfl hl hrs (by lia) (fun a r H' Qt hr s ha kt=>?_) (fun a H' Qc s kc=>?_) (fun l1 H1 ys n1 s1 m1 r1=>?_)
  ·walk_at "v"
   refine r_ixT ha (atI_nat (int_at (by rw [hln r hr];exact hp))) ?_
   walk_at "w"
   exact kt _ (Same.refl _)
  ·walk_at "w"
   exact kc
  walk_at "w"
  have hrs1:=hrs.same s1
  refine rd_filterRows [some (.int p)] (fun v=>v.getD p 0 == 0) rfl (s1.seq hl) hrs1 (by lia) (fun a r H' Qt hr s ha kt=>?_) (fun a H' Qc s kc=>?_) (fun l2 H2 zs n2 s2 m2 r2=>?_)
  ·walk_at "v"
   refine r_ixT ha (atI_nat (int_at (by rw [hln r hr];exact hp))) ?_
   walk_at "w"
   exact kt _ (Same.refl _)
  ·walk_at "w"
   exact kc
  walk_at "j"
  refine join (fun σ' H'=>∃ (o4 o5:Option V) (l1 l2:Addr) (ys zs:List V) (led os:List (List Int)),σ'=[some (.ref l),some (.int p),some (.ref l1),some (.ref l2),o4,o5]∧SmT K H H'∧TabK K H'∧H' l1=some (.lst ys)∧H' l2=some (.lst zs)∧RowsL K H' ys led∧RowsL K H' zs os∧Mth.PJ n p M A led os∧Mth.Eqv n rs (led++os)∧led.length+os.length≤rs.length∧led.length≤1∧∀ v∈led,Mth.at' p v≤A) (fun nx kn=>?_) (fun σ' H' hP=>?_)
  ·refine f_while (fun m σ' H'=>∃ (o4 o5:Option V) (l1 l2:Addr) (ys zs:List V) (led os:List (List Int)),σ'=[some (.ref l),some (.int p),some (.ref l1),some (.ref l2),o4,o5]∧SmT K H H'∧TabK K H'∧H' l1=some (.lst ys)∧H' l2=some (.lst zs)∧RowsL K H' ys led∧RowsL K H' zs os∧Mth.PJ n p M A led os∧Mth.Eqv n rs (led++os)∧led.length+os.length≤rs.length∧(∀ v∈led,Mth.at' p v≤A)∧m=Mth.mz p led) (Mth.mz p (rs.filter fun v=>v.getD p 0 != 0)) ?_ (fun m σ' H' hw=>?_)
   ·have hc2:=cnt2 (fun v:List Int=>v.getD p 0 == 0) rs
    refine⟨_,_,l1,l2,ys,zs,_,_,rfl,SameS.of (s1.trans s2),hT.same (s1.trans s2),s2 _ _ m1,m2,r1.same s2,r2,⟨fun v hv=>?_,fun v hv=>?_,fun v hv=>?_,(fun v hv=>hA v (List.mem_filter.mp hv).1),.inl fun v hv=>?_⟩,Mth.Eqv.mem fun x=>?_,Nat.le_of_eq hc2,fun v hv=>hA v (List.mem_filter.mp hv).1,rfl⟩
    ·exact (List.mem_append.mp hv).elim (fun z=>hln v (List.mem_filter.mp z).1) fun z=>hln v (List.mem_filter.mp z).1
    ·simpa using (List.mem_filter.mp hv).2
    ·simpa using (List.mem_filter.mp hv).2
    ·exact (List.mem_append.mp hv).elim (fun z=>hbd v (List.mem_filter.mp z).1) fun z=>hbd v (List.mem_filter.mp z).1
    ·rw [List.mem_append,List.mem_filter,List.mem_filter]
     constructor
     ·intro h
      by_cases e:x.getD p 0=0
      ·exact .inr ⟨h,by simpa using e⟩
      ·exact .inl ⟨h,by simpa using e⟩
     ·rintro (h|h) <;> exact h.1
   obtain ⟨o4,o5,l3,l4,ys3,zs3,led,os,rfl,sm3,hT3,e3,e4,r3,r4,hPI,hE,hlen,hMp,rfl⟩:=hw
   walk_at "w"
   refine if_both (fun hc=>?_) (fun hc=>?_)
   ·refine w_go ?_
    walk_at "w"
    have hc':1<ys3.length:=by have:=of_decide_eq_true hc;lia
    have lys:=r3.length
    refine rd_sortL (led.map fun v=>((Mth.at' p v:Nat):Int)) (hT3.2 (tabP K "parted",lpP,"parted.<locals>.<lambda>") (.head _)) (SqL.of e3) (by rw [List.length_map,r3.length]) (by lia) (fun i x nn hx hnn H5 s5q=>?_) (fun pS H5 ysS s5q hT5q m5 so=>?_)
    ·have s5:SmT K H' H5:=SameT.s (t:=(tabP K "parted",lpP,"parted.<locals>.<lambda>")) s5q (.head _)
     obtain ⟨a,r,rfl,ha,hi⟩:=r3.get hx
     have er:nn=((Mth.at' p r:Nat):Int):=by rw [List.getElem?_map,hi] at hnn;exact (Option.some.inj hnn).symm
     subst er
     have hr5:=s5.at hT3 ha
     walk_at "v"
     refine r_ixT hr5 (atI_nat (int_at (by rw [hPI.1 r (List.mem_append_left _ (mem_of hi))];exact hp))) ?_
     walk_at "w"
     refine⟨?_,Same.refl _⟩
     unfold Mth.at'
     congr 1
     split <;> lia
    have s5:SmT K H' H5:=SameT.s (t:=(tabP K "parted",lpP,"parted.<locals>.<lambda>")) s5q (.head _)
    have hT5:TabK K H5:=TabsH.step (t:=(tabP K "parted",lpP,"parted.<locals>.<lambda>")) hT3 (.head _) s5q hT5q
    obtain ⟨qs,rq,pq,wq⟩:=sorted_rows (fun v=>((Mth.at' p v:Nat):Int)) r3 so (Same.refl _)
    have rq5:=rq.sameS s5 hT3
    have lq:=pq.length_eq
    obtain ⟨sL,rest,rfl⟩:∃ sL rest,qs=sL::rest:=by
     cases qs with
     | nil=>simp at lq;lia
     | cons x y=>exact⟨x,y,rfl⟩
    have hrne:rest≠[]:=fun z=>by rw [z] at lq;simp at lq;lia
    have hle:∀ v∈rest,Mth.at' p sL≤Mth.at' p v:=fun v hv=>by have:=(List.pairwise_cons.mp wq).1 v hv;lia
    obtain ⟨tPI,tmz,tE⟩:=hPI.turn hA0 pq hrne hle
    have e4':=s5.lst hT3 e4
    have r4':=r4.sameS s5 hT3
    obtain ⟨aL,ysR,rfl,haL,hR⟩:=rq5.uncons
    have mq:∀ v,v∈sL::rest→v∈led:=fun v hv=>pq.mem_iff.mp hv
    have hB:=hPI.bd hA0
    have lsL:sL.length=n:=hPI.1 sL (List.mem_append_left _ (mq sL (.head _)))
    have lrs:∀ v∈rest,v.length=n:=fun v hv=>hPI.1 v (List.mem_append_left _ (mq v (List.mem_cons_of_mem _ hv)))
    have lrest:rest.length≤63:=by have:=lq;simp at this;lia
    walk_at "w"
    refine r_ixL (SqL.of m5) (atI_nat (j:=0) rfl) ?_
    walk_at "w"
    rename_i p6 H6 n6 s6 m6
    refine rd_mapRows [some (.ref aL),some (.int p)] (Mth.low1 p sL) rfl (SqL.of m6) (hR.same s6) (by lia) (fun a r H7 Qc hr s7 ha kc=>?_) (fun l7 H7 ys7 n7 s7 m7 r7=>?_)
    ·walk_at "w"
     exact c_lowered r sL ha ((s6.trans s7).at haL) (lrs r hr) lsL hn hp (hPI.2.1 sL (mq sL (.head _))) (hB r (List.mem_append_left _ (mq r (List.mem_cons_of_mem _ hr)))) (hB sL (List.mem_append_left _ (mq sL (.head _)))) hMk hk fun p8 H8 s8 m8=>kc _ _ s8 (SqT.of m8)
    have ll7:∀ r∈rest.map (Mth.low1 p sL),r.length=n:=fun r hr=>by
     obtain ⟨u,hu,rfl⟩:=List.mem_map.mp hr
     exact Mth.low1_len (lrs u hu) lsL
    walk_at "w"
    rename_i p8 H8 n8 s8 m8
    refine rd_filterRows [some (.int p)] (fun v=>v.getD p 0 != 0) rfl (SqL.of (s8 _ _ m7)) (r7.same s8) (by rw [List.length_map];lia) (fun a r H9 Qt hr s9 ha kt=>?_) (fun a H9 Qc s9 kc=>?_) (fun l9 H9 ys9 n9 s9 m9 r9=>?_)
    ·walk_at "v"
     refine r_ixT ha (atI_nat (int_at (by rw [ll7 r hr];exact hp))) ?_
     walk_at "w"
     exact kt _ (Same.refl _)
    ·walk_at "w"
     exact kc
    have cnt:=left_cnt p sL rest
    have lq':rest.length+1=led.length:=by simpa using lq
    have l9':ys9.length=(Mth.left1 p sL rest).length:=r9.length.symm
    walk_at "w"
    rename_i p10 H10 n10 s10 m10
    have s710:=(s8.trans s9).trans s10
    refine rd_filterRows [some (.int p)] (fun v=>v.getD p 0 == 0) rfl (SqL.of (s710 _ _ m7)) (r7.same s710) (by rw [List.length_map];lia) (fun a r H9 Qt hr s9 ha kt=>?_) (fun a H9 Qc s9 kc=>?_) (fun l11 H11 ys11 n11 s11 m11 r11=>?_)
    ·walk_at "v"
     refine r_ixT ha (atI_nat (int_at (by rw [ll7 r hr];exact hp))) ?_
     walk_at "w"
     exact kt _ (Same.refl _)
    ·walk_at "w"
     exact kc
    have l11':ys11.length=(Mth.left0 p sL rest).length:=r11.length.symm
    have lz:zs3.length=os.length:=r4.length.symm
    have s511:=((s6.trans s7).trans s710).trans s11
    walk_at "w"
    refine r_cat (s511 _ _ e4') m11 (by lia) fun p12 H12 n12 s12 m12=>?_
    have s512:=s511.trans s12
    refine⟨_,tmz,_,_,p10,p12,.ref aL::ys9,zs3++ys11,sL::Mth.left1 p sL rest,os++Mth.left0 p sL rest,rfl,sm3.trans (s5.trans (SameS.of s512)),hT5.same s512,s12 _ _ (s11 _ _ m10),m12,.cons (s512.at haL) (r9.same ((s10.trans s11).trans s12)),(r4'.same s512).append (r11.same s12),tPI,hE.trans tE,by simp;lia,fun v hv=>?_,rfl⟩
    rcases List.mem_cons.mp hv with rfl|hv
    ·exact hMp _ (mq _ (.head _))
    ·obtain ⟨u,hu,rfl⟩:=List.mem_map.mp (List.mem_filter.mp hv).1
     exact Nat.le_trans (Nat.le_of_lt (Mth.low1_lt (lrs u hu) lsL (hPI.2.1 sL (mq sL (.head _))))) (hMp _ (mq _ (.head _)))
   ·exact kn _ _ ⟨o4,o5,l3,l4,ys3,zs3,led,os,rfl,sm3,hT3,e3,e4,r3,r4,hPI,hE,hlen,by have:=r3.length;have:=of_decide_eq_false hc;lia,hMp⟩
  obtain ⟨o4,o5,l3,l4,ys3,zs3,led,os,rfl,sm3,hT3,e3,e4,r3,r4,hPI,hE,hlen,h1,hMp⟩:=hP
  have hB:=hPI.bd hA0
  walk_at "w"
  refine rd_mapRows [some (.int p)] (pos1 p) rfl (SqL.of e3) r3 (by lia) (fun a r H7 Qc hr s7 ha kc=>?_) (fun l7 H7 ys7 n7 s7 m7 r7=>?_)
  ·have lr:=hPI.1 r (List.mem_append_left _ hr)
   walk_at "v"
   refine r_ixT ha (atI_nat (int_at (by rw [lr];exact hp))) ?_
   walk_at "w"
   refine if_both (fun hc=>?_) (fun hc=>?_)
   ·walk_at "w"
    refine c_power r ha (by lia) (fun x hx=>?_) fun p8 H8 s8 m8=>kc _ _ s8 ?_
    ·have b1:bitsI x≤k:=by
      rw [Mth.bits_bl]
      exact Mth.bl_le (Nat.lt_of_le_of_lt (mem_bd (hB r (List.mem_append_left _ hr)) hx) hMk)
     have b2:bitsI (-1)≤1:=by decide
     unfold CMulW
     lia
    ·unfold pos1
     rw [if_pos (of_decide_eq_true hc)]
     exact SqT.of m8
   ·walk_at "w"
    refine kc _ _ (Same.refl _) ?_
    unfold pos1
    rw [if_neg (of_decide_eq_false hc)]
    exact ha
  walk_at "w"
  rename_i p8 H8 s8 m8
  have s78:=s7.trans s8
  have mp:∀ v∈led.map (pos1 p),∃ u∈led,pos1 p u=v:=fun v hv=>by obtain ⟨u,hu,e⟩:=List.mem_map.mp hv;exact⟨u,hu,e⟩
  refine kk p8 l7 l4 H8 ys7 zs3 (led.map (pos1 p)) os (sm3.trans (SameS.of s78)) (hT3.same s78) (SqT.of m8) (SqL.of (s8 _ _ m7)) (r7.same s8) (SqL.of (s78 _ _ e4)) (r4.same s78) (by rw [List.length_map];exact h1) (fun v hv=>?_) hPI.2.2.1 (fun v hv=>?_) (fun v hv=>?_) (hE.trans ?_) (by rw [List.length_map];exact hlen) (fun v hv=>by obtain ⟨u,hu,rfl⟩:=mp v hv;rw [pos1_at];exact hMp u hu)
  ·obtain ⟨u,hu,rfl⟩:=mp v hv
   exact pos1_pos (hPI.2.1 u hu)
  ·rcases List.mem_append.mp hv with z|z
   ·obtain ⟨u,hu,rfl⟩:=mp v z
    exact pos1_len (hPI.1 u (List.mem_append_left _ hu))
   ·exact hPI.1 v (List.mem_append_right _ z)
  ·rcases List.mem_append.mp hv with z|z
   ·obtain ⟨u,hu,rfl⟩:=mp v z
    exact pos1_bd (hB u (List.mem_append_left _ hu))
   ·exact hB v (List.mem_append_right _ z)
  ·match led,h1,hPI with
   | [],_,_=>exact Mth.Eqv.refl
   | [u],_,hPI =>
    show Mth.Eqv n (u::os) (pos1 p u::os)
    unfold pos1
    split
    ·exact Mth.Eqv.flip (hPI.1 u (.head _))
    ·exact Mth.Eqv.refl
theorem sc_left_by:FnScope ["steps","vector","left","step"] ["steps","vector"] (defScope s_left_by):=⟨rfl,rfl,rfl,by decide +kernel,rfl,by decide +kernel,by decide +kernel⟩
structure Os_left_by (P:Program) (w:World) (K:PySem.W.Frag) (mg:Str→Option Value) (base:Heap) (G:Adr):Prop where
 lead_place:Ok P w K mg base 1 "lead_place" ["row"] (sp_lead_place K)
 lowered:Ok P w K mg base 34 "lowered" ["vector","step","place"] (sp_lowered K)
set_option maxHeartbeats 4000000 in
theorem ok_left_by (D:Def K mg "left_by" s_left_by ["steps","vector"]) (T:Txt K mg G) (O:Os_left_by P w K mg base G) (Y:base.NoSeer∧P.given.tree=none):Ok P w K mg base 35 "left_by" ["steps","vector"] (sp_left_by K):=by
 have S:=sc_left_by
 refine D.ok S (fun vs H Q E h=>?_) (fun f cdv A outer s H vs Q E hr h=>?_)
 ·obtain ⟨l,a,n,B,C,xs,st,u,rfl,hl,hrs,ha,lu,hn5,hn,hln,h5,hsf,hbd,hub,hBC,k⟩:=h;rfl
 ·obtain ⟨l,a,n,B,C,xs,st,u,rfl,hl,hrs,ha,lu,hn5,hn,hln,h5,hsf,hbd,hub,hBC,k⟩:=h
  have hu:=hu_of hr
  have c_Tuning:=T.c_Tuning
  have c_CommaTuning:=T.c_CommaTuning
  have n_CommaTuning_steps:=T.n_CommaTuning_steps
  have c_KeyTuning:=T.c_KeyTuning
  have n_KeyTuning_own_keys:=T.n_KeyTuning_own_keys
  have c_Board:=T.c_Board
  have n_Board_own_keys:=T.n_Board_own_keys
  have n_Board_octave:=T.n_Board_octave
  refine⟨_,(pss_cons (ps_set (i:=2) S.nd rfl (Or.inl rfl) (pv 1)) (pss_cons (ps_for PassesOwn.never rfl (kpi_list K rfl (pv 0)) (pg_name (i:=3) S.nd rfl (Or.inl rfl)) (pss_one (ps_set (i:=2) S.nd rfl (Or.inl rfl) (pcall O.lowered (hr.mono (by decide)) (pa_cons (pv 2) (pa_cons (pv 3) (pa_cons (pcall O.lead_place (hr.mono (by decide)) (pa_cons (pe_slice (ksl_tupV K rfl) (pv 3) po_none (po_some (pe_glob (v:=V.int 5) rfl T.g_WIDTH ⟨_,rfl⟩))) pa_nil)) pa_nil))))))) (pss_one (ps_ret (pv 2))))),?_⟩
  have lr:=hrs.length
  walk_at "w"
  refine f_invL (xs:=xs) (fun i σ H2=>∃ (o:Option V) (p:Addr) (v:List Int),σ=[some (.ref l),some (.ref a),some (.ref p),o]∧Same H H2∧SqT K H2 p (v.map V.int)∧Mth.LB n 5 st i u v∧Mth.BdM (2 ^ (C+(B+1)*i)) v) ⟨_,a,u,rfl,Same.refl _,ha,Mth.LB.start lu,hub⟩ (fun i σ H2 hp=>by obtain ⟨o,p,v,rfl,s2,_⟩:=hp;exact s2.seq hl) (fun i x σ H2 hx hp=>?_) (fun σ H2 hp=>?_)
  ·obtain ⟨o,p,v,rfl,s2,mp,hv,hvb⟩:=hp
   obtain ⟨c,s,rfl,hc,hi⟩:=hrs.get hx
   have hi5:i<5:=by have:=(List.getElem?_eq_some_iff.mp hi).1;lia
   have hsm:=mem_of hi
   have ls:=hln s hsm
   obtain ⟨kk,hk⟩:=hsf.1 (s.take 5) (List.mem_map.mpr ⟨s,hsm,rfl⟩)
   have hk5:=Mth.led_lt hk
   have h0:s.getD kk 0≠0:=by have:=hk.1;rw [Mth.take_at _ hk5] at this;lia
   have hc2:=s2.at hc
   have hBi:(B+1)*i≤(B+1)*4:=Nat.mul_le_mul_left _ (by lia)
   have hB1:(B+1)*(i+1)=(B+1)*i+(B+1):=by rw [Nat.mul_add,Nat.mul_one]
   walk_at "w"
   refine r_slV hc2 fun p3 H3 s3 m3=>?_
   rw [show (some (5:Int))=some ((5:Nat):Int) from rfl,cutV_hi,← List.map_take] at m3
   walk_at "w"
   refine c_lead_place m3 (by rw [List.length_take];lia) hk fun H4 s4=>?_
   walk_at "w"
   have s24:=s3.trans s4
   refine c_lowered (M:=2 ^ (C+(B+1)*(i+1))) (k:=C+(B+1)*(i+1)+1) v s (s24.at mp) (s24.at hc2) hv.len ls (by lia) (by lia) h0 (hvb.mono (Nat.pow_le_pow_right (by decide) (by lia))) ((hbd s hsm).mono (Nat.pow_le_pow_right (by decide) (by lia))) (Nat.pow_lt_pow_right (by decide) (Nat.lt_succ_self _)) (by lia) fun p5 H5 s5 m5=>?_
   walk_at "w"
   refine⟨_,p5,_,rfl,s2.trans (s24.trans s5),SqT.of m5,hv.step lu hi ls hsf hk,(Mth.low1_bd hv.len ls h0 hvb (hbd s hsm)).mono ?_⟩
   rw [hB1,show C+((B+1)*i+(B+1))=B+(C+(B+1)*i)+1 by lia,Nat.pow_succ (n:=2) (m:=B+(C+(B+1)*i)),Nat.pow_add 2 B]
   have h3:(2:Nat) ^ (C+(B+1)*i)≤2 ^ B*2 ^ (C+(B+1)*i):=Nat.le_mul_of_pos_left _ (Nat.two_pow_pos _)
   lia
  ·obtain ⟨o,p,v,rfl,s2,mp,hv,hvb⟩:=hp
   rw [← lr] at hv
   walk_at "w"
   exact k _ _ v s2 mp hv (hvb.mono (Nat.pow_le_pow_right (by decide) (Nat.add_le_add_left (Nat.mul_le_mul_left _ (by lia)) _)))
theorem sc_stepped:FnScope ["vectors","size","steps","left","place","parts","lead"] ["vectors","size"] (defScope s_stepped):=⟨rfl,rfl,rfl,by decide +kernel,rfl,by decide +kernel,by decide +kernel⟩
structure Os_stepped (P:Program) (w:World) (K:PySem.W.Frag) (mg:Str→Option Value) (base:Heap) (G:Adr):Prop where
 lowered:Ok P w K mg base 34 "lowered" ["vector","step","place"] (sp_lowered K)
 parted:Ok P w K mg base 35 "parted" ["vectors","place"] (sp_parted K)
set_option maxHeartbeats 4000000 in
theorem ok_stepped (D:Def K mg "stepped" s_stepped ["vectors","size"]) (T:Txt K mg G) (O:Os_stepped P w K mg base G) (Y:base.NoSeer∧P.given.tree=none):Ok P w K mg base 36 "stepped" ["vectors","size"] (sp_stepped K):=by
 have S:=sc_stepped
 refine D.ok S (fun vs H Q E h=>?_) (fun f cdv A outer s H vs Q E hr h=>?_)
 ·obtain ⟨l,w,n,b,xs,rs,rfl,hl,hrs,h64,hln,hn,hw,hbd,hgs,hT,kk⟩:=h;rfl
 ·obtain ⟨l,w,n,b,xs,rs,rfl,hl,hrs,h64,hln,hn,hw,hbd,hgs,hT,kk⟩:=h
  have hu:=hu_of hr
  have c_Tuning:=T.c_Tuning
  have c_CommaTuning:=T.c_CommaTuning
  have n_CommaTuning_steps:=T.n_CommaTuning_steps
  have c_KeyTuning:=T.c_KeyTuning
  have n_KeyTuning_own_keys:=T.n_KeyTuning_own_keys
  have c_Board:=T.c_Board
  have n_Board_own_keys:=T.n_Board_own_keys
  have n_Board_octave:=T.n_Board_octave
  refine⟨_,(pss_cons (ps_set (i:=2) S.nd rfl (Or.inl rfl) (pe_lst pa_nil)) (pss_cons (ps_set (i:=3) S.nd rfl (Or.inl rfl) (pv 0)) (pss_cons (ps_for PassesOwn.never rfl (pi_range3 rfl T.b_range (pa_cons (pe_op op_sub (pv 1) pe_int) (pa_cons (pe_un un_neg pe_int) (pa_cons (pe_un un_neg pe_int) pa_nil)))) (pg_name (i:=4) S.nd rfl (Or.inr rfl)) (pss_cons (ps_set (i:=5) S.nd rfl (Or.inl rfl) (pcall O.parted (hr.mono (by decide)) (pa_cons (pv 3) (pa_cons (pv 4) pa_nil)))) (pss_cons (ps_set (i:=3) S.nd rfl (Or.inl rfl) (pe_ix (kx_seq K rfl) (pv 5) pe_int (fun _ _=>rfl))) (pss_one (ps_for PassesOwn.never rfl (kpi_list K rfl (pe_ix (kx_seq K rfl) (pv 5) pe_int (fun _ _=>rfl))) (pg_name (i:=6) S.nd rfl (Or.inr rfl)) (pss_one (ps_set (i:=2) S.nd rfl (Or.inl rfl) (pe_op op_cat (pe_comp (N:=["step","lead","place"]) (ix:=[none,some 6,some 4]) rfl (kpi_list K rfl (pv 2)) (fun _ _ _ _ _=>(pg_name (i:=0) (show List.Nodup (["step","lead","place"]:List Str) by decide +kernel) rfl (Or.inl rfl))) (fun _ _ _ _ _=>rfl) (fun _ _ _ _ _=>(pcall O.lowered (hr.mono (by decide)) (pa_cons (pv 0) (pa_cons (pv 1) (pa_cons (pv 2) pa_nil))))) rfl (by decide +kernel) (by decide +kernel) rfl ⟨⟨rfl,Or.inr (Or.inl rfl),rfl,rfl⟩,⟨⟨rfl,Or.inr (Or.inl rfl),rfl,rfl⟩,True.intro⟩⟩) (pe_lst (pa_cons (pv 6) pa_nil)))))))))) (pss_one (ps_ret (pv 2)))))),?_⟩
  walk_at "w"
  rename_i ls0 H1 n1 s1 m1
  refine f_invD (fun i σ H'=>∃ (o1 o2 o3:Option V) (ls ll:Addr) (ys zs:List V) (st lf:List (List Int)),σ=[some (.ref l),some (.int w),some (.ref ls),some (.ref ll),o1,o2,o3]∧H ls=none∧SmT K H H'∧TabK K H'∧H' ls=some (.lst ys)∧RowsL K H' ys st∧SqL K H' ll zs∧RowsL K H' zs lf∧Mth.SJ n w b rs i st lf) ⟨_,_,_,ls0,l,[],xs,[],rs,rfl,n1,SameS.of s1,hT.same s1,m1,.nil,s1.seq hl,hrs.same s1,Mth.SJ.start hln hbd⟩ (fun i σ H' hi hp=>?_) (fun σ H' hp=>?_)
  ·obtain ⟨o1,o2,o3,ls,ll,ys,zs,st,lf,rfl,hno,sm,hT2,e1,r1,e2,r2,hI⟩:=hp
   have hiw:i<w:=by lia
   obtain ⟨p,hpp⟩:∃ p:Nat,(w:Int) - 1 - i=p:=⟨w - 1 - i,by lia⟩
   rw [hpp]
   have hp1:p+i+1=w:=by lia
   have hgi:=hgs i hiw
   have hg2:Mth.gs b (i+1)=3*Mth.gs b i+3:=rfl
   have hg3:Mth.gs b (i+1)≤Mth.ss b (i+1):=by rw [Mth.ss];lia
   have c1:=hI.c1
   have c2:=hI.c2
   walk_at "w"
   refine c_parted (M:=2 ^ Mth.gs b i) (A:=2 ^ Mth.gs b i) (k:=Mth.gs b (i+1)) (n:=n) (p:=p) ⟨e2,r2,by lia,hI.llf,hn,by lia,hI.bl,(fun v hv=>hI.bl v hv p),Nat.two_pow_pos _,Mth.gs_step b i,by lia,hT2⟩ fun t l1 l2 H3 ys3 zs3 led os sm3 hT3 mt q1 qr1 q2 qr2 h1 hpos h0 hlen hb3 hE hcnt hat=>?_
   have e13:=sm3.lst hT2 e1
   have r13:=r1.sameS sm3 hT2
   have lq:=qr1.length
   have lst:=r1.length
   walk_at "w"
   refine f_invL (xs:=ys3) (fun j σ H4=>∃ (o3:Option V) (ls:Addr) (ys:List V),σ=[some (.ref l),some (.int w),some (.ref ls),some (.ref l2),some (.int p),some (.ref t),o3]∧H ls=none∧Same H3 H4∧H4 ls=some (.lst ys)∧RowsL K H4 ys ((led.take j).foldl (fun st s=>st.map (Mth.low1 p s)++[s]) st)) ⟨_,ls,ys,rfl,hno,Same.refl _,e13,r13⟩ (fun j σ H4 hp=>by obtain ⟨o3,ls,ys,rfl,_,s4,_⟩:=hp;exact s4.seq q1) (fun j x σ H4 hx hp=>?_) (fun σ H4 hp=>?_)
   ·obtain ⟨o4,ls4,ys4,rfl,hno4,s4,e4,r4⟩:=hp
    have hj:j=0:=by have:=(List.getElem?_eq_some_iff.mp hx).1;lia
    subst hj
    rw [List.take_zero,List.foldl_nil] at r4
    obtain ⟨a,sv,rfl,ha,hi3⟩:=qr1.get hx
    have hsm:=mem_of hi3
    have l4:=r4.length
    walk_at "w"
    refine rd_mapRows [some (.ref a),some (.int p)] (Mth.low1 p sv) rfl (SqL.of e4) r4 (by lia) (fun a5 r5 H5 Qc hr5 s5 ha5 kc=>?_) (fun l7 H7 ys7 n7 s7 m7 r7=>?_)
    ·walk_at "w"
     exact c_lowered (M:=2 ^ Mth.ss b (i+1)) (k:=Mth.ss b (i+1)+1) r5 sv ha5 ((s4.trans s5).at ha) (hI.lst r5 hr5) (hlen sv (List.mem_append_left _ hsm)) hn (by lia) (by have:=hpos sv hsm;lia) ((hI.bs r5 hr5).mono (Nat.pow_le_pow_right (by decide) (by rw [Mth.ss];lia))) ((hb3 sv (List.mem_append_left _ hsm)).mono (Nat.le_trans (Nat.le_of_lt (Mth.gs_step b i)) (Nat.pow_le_pow_right (by decide) (by rw [Mth.ss];lia)))) (Nat.pow_lt_pow_right (by decide) (Nat.lt_succ_self _)) (by lia) fun p8 H8 s8 m8=>kc _ _ s8 (SqT.of m8)
    have l7':=r7.length
    rw [List.length_map] at l7'
    walk_at "w"
    rename_i p8 H8 n8 s8 m8 p9 H9 n9 s9 m9
    refine⟨_,p9,ys7++[.ref a],rfl,?_,((s4.trans s7).trans s8).trans s9,m9,?_⟩
    ·exact sm.new hT2 (sm3.new hT3 (((s4.trans s7).trans s8).new n9))
    ·rw [Mth.take_snoc hi3]
     exact (r7.same (s8.trans s9)).append (.cons ((((s4.trans s7).trans s8).trans s9).at ha) .nil)
   ·obtain ⟨o4,ls4,ys4,rfl,hno4,s4,e4,r4⟩:=hp
    rw [← lq,List.take_length] at r4
    refine⟨_,_,_,ls4,l2,ys4,zs3,_,os,rfl,hno4,sm.trans (sm3.trans (SameS.of s4)),hT3.same s4,e4,r4,s4.seq q2,qr2.same s4,?_⟩
    match led,h1,hE,hcnt,hb3,hlen,hpos,hat with
    | [],_,hE,hcnt,hb3,hlen,_,_=>exact hI.none hp1 hE h0 hlen hb3 (by simpa using hcnt)
    | [s],_,hE,hcnt,hb3,hlen,hpos,hat=>exact hI.one hp1 hw hE (hpos s (.head _)) h0 hlen hb3 (by simp at hcnt;lia) (hat s (.head _))
  ·obtain ⟨o1,o2,o3,ls,ll,ys,zs,st,lf,rfl,hno,sm,hT2,e1,r1,e2,r2,hI⟩:=hp
   rw [show ((w:Int) - 1 - -1).toNat=w by lia] at hI
   walk_at "w"
   exact kk ls H' ys st lf hno sm hT2 e1 r1 hI
theorem sc_CommaTuning_sound:FnScope ["self","row"] ["self","row"] (defScope s_CommaTuning_sound):=⟨rfl,rfl,rfl,by decide +kernel,rfl,by decide +kernel,by decide +kernel⟩
structure Os_CommaTuning_sound (P:Program) (w:World) (K:PySem.W.Frag) (mg:Str→Option Value) (base:Heap) (G:Adr):Prop where
 left_by:Ok P w K mg base 35 "left_by" ["steps","vector"] (sp_left_by K)
theorem ok_CommaTuning_sound (D:DefM K G.f_CommaTuning_sound "sound" "CommaTuning.sound" s_CommaTuning_sound ["self","row"]) (T:Txt K mg G) (O:Os_CommaTuning_sound P w K mg base G) (Y:base.NoSeer∧P.given.tree=none):OkM P w K mg base 36 G.f_CommaTuning_sound ["self","row"] (sp_CommaTuning_sound K):=by
 have S:=sc_CommaTuning_sound
 refine D.ok S (fun vs H Q E h=>?_) (fun f cdv A outer s H vs Q E hr h=>?_)
 ·obtain ⟨x,l,a,st,r,rfl,⟨C,dx,ys,hC,hx,m1,r1⟩,⟨sf,hl,hb⟩,ha,lr,br,k⟩:=h;rfl
 ·obtain ⟨x,l,a,st,r,rfl,⟨C,dx,ys,hC,hx,m1,r1⟩,⟨sf,hl,hb⟩,ha,lr,br,k⟩:=h
  have hu:=hu_of hr
  have c_Tuning:=T.c_Tuning
  have c_CommaTuning:=T.c_CommaTuning
  have n_CommaTuning_steps:=T.n_CommaTuning_steps
  have c_KeyTuning:=T.c_KeyTuning
  have n_KeyTuning_own_keys:=T.n_KeyTuning_own_keys
  have c_Board:=T.c_Board
  have n_Board_own_keys:=T.n_Board_own_keys
  have n_Board_octave:=T.n_Board_octave
  refine⟨_,(pss_one (ps_ret (pcall O.left_by (hr.mono (by decide)) (pa_cons (kpe_fld K rfl (pv 0) rfl) (pa_cons (pv 1) pa_nil))))),?_⟩
  obtain rfl:G.a_CommaTuning=C:=by have:=T.w_CommaTuning;rw [hC] at this;cases this;rfl
  have h5:st.length≤5:=Mth.SF.count sf fun q hq j hj=>Mth.led5 (hl q hq) hj
  have et:st.map (List.take 5)=st:=by
   conv=>rhs;rw [← List.map_id st]
   exact List.map_congr_left fun q hq=>List.take_of_length_le (by rw [hl q hq];exact Nat.le_refl _)
  walk_at "w"
  refine c_left_by (n:=5) (B:=500) (C:=20000) ⟨SqL.of m1,r1,ha,lr,by decide,by decide,hl,h5,by rw [et];exact sf,hb,br,by decide⟩ fun p H' v s m hLB _=>k p H' v s m ⟨hLB.len,hLB.made,fun q hq j hj=>?_⟩
  obtain ⟨i,hi,e⟩:=List.getElem_of_mem hq
  exact hLB.small i q j hi (by rw [List.getElem?_eq_getElem hi,e]) (by rw [List.take_of_length_le (by rw [hl q hq];exact Nat.le_refl _)];exact hj)
theorem sc_table:FnScope ["commas"] ["commas"] (defScope s_table):=⟨rfl,rfl,rfl,by decide +kernel,rfl,by decide +kernel,by decide +kernel⟩
structure Os_table (P:Program) (w:World) (K:PySem.W.Frag) (mg:Str→Option Value) (base:Heap) (G:Adr):Prop where
 checked_commas:Ok P w K mg base 1 "checked_commas" ["commas"] (sp_checked_commas K)
 stepped:Ok P w K mg base 36 "stepped" ["vectors","size"] (sp_stepped K)
theorem ok_table (D:Def K mg "table" s_table ["commas"]) (T:Txt K mg G) (O:Os_table P w K mg base G) (Y:base.NoSeer∧P.given.tree=none):Ok P w K mg base 37 "table" ["commas"] (sp_table K):=by
 have S:=sc_table
 refine D.ok S (fun vs H Q E h=>?_) (fun f cdv A outer s H vs Q E hr h=>?_)
 ·obtain ⟨l,b,xs,rs,rfl,hl,hrs,h6,hln,hbd,hb,hT,kk⟩:=h;rfl
 ·obtain ⟨l,b,xs,rs,rfl,hl,hrs,h6,hln,hbd,hb,hT,kk⟩:=h
  have hu:=hu_of hr
  have c_Tuning:=T.c_Tuning
  have c_CommaTuning:=T.c_CommaTuning
  have n_CommaTuning_steps:=T.n_CommaTuning_steps
  have c_KeyTuning:=T.c_KeyTuning
  have n_KeyTuning_own_keys:=T.n_KeyTuning_own_keys
  have c_Board:=T.c_Board
  have n_Board_own_keys:=T.n_Board_own_keys
  have n_Board_octave:=T.n_Board_octave
  refine⟨_,(pss_one (ps_ret (pcall O.stepped (hr.mono (by decide)) (pa_cons (pcall O.checked_commas (hr.mono (by decide)) (pa_cons (pv 0) pa_nil)) (pa_cons (pe_glob (v:=V.int 5) rfl T.g_WIDTH ⟨_,rfl⟩) pa_nil))))),?_⟩
  have lr:=hrs.length
  walk_at "w"
  refine c_checked_commas hl (by lia) ?_
  walk_at "w"
  refine c_stepped (w:=5) (n:=5) (b:=b) ⟨hl,hrs,by lia,hln,by decide,by decide,hbd,fun i hi=>Nat.lt_trans (gs_109 hb hi).2 (by decide),hT⟩ fun l' H' ys st lf hn sm hT' e r hI=>?_
  have hc:=hI.c2
  exact kk l' H' ys st hn sm hT' e r hI.all.1 hI.all.2 hI.lst hc hI.bs (fun v hv k hk=>hI.lb v hv k (by rw [List.take_of_length_le (Nat.le_of_eq (hI.lst v hv))];exact hk))
theorem sc_CommaTuning_init:FnScope ["self","commas"] ["self","commas"] (defScope s_CommaTuning_init):=⟨rfl,rfl,rfl,by decide +kernel,rfl,by decide +kernel,by decide +kernel⟩
structure Os_CommaTuning_init (P:Program) (w:World) (K:PySem.W.Frag) (mg:Str→Option Value) (base:Heap) (G:Adr):Prop where
 table:Ok P w K mg base 37 "table" ["commas"] (sp_table K)
theorem ok_CommaTuning_init (D:DefM K G.f_CommaTuning_init "__init__" "CommaTuning.__init__" s_CommaTuning_init ["self","commas"]) (T:Txt K mg G) (O:Os_CommaTuning_init P w K mg base G) (Y:base.NoSeer∧P.given.tree=none):OkM P w K mg base 38 G.f_CommaTuning_init ["self","commas"] (sp_CommaTuning_init K):=by
 have S:=sc_CommaTuning_init
 refine D.ok S (fun vs H Q E h=>?_) (fun f cdv A outer s H vs Q E hr h=>?_)
 ·obtain ⟨x,l,C,dx,b,xs,rs,rfl,hC,hx,hl,hrs,h6,hln,hbd,hb,hT,k⟩:=h;rfl
 ·obtain ⟨x,l,C,dx,b,xs,rs,rfl,hC,hx,hl,hrs,h6,hln,hbd,hb,hT,k⟩:=h
  have hu:=hu_of hr
  have c_Tuning:=T.c_Tuning
  have c_CommaTuning:=T.c_CommaTuning
  have n_CommaTuning_steps:=T.n_CommaTuning_steps
  have c_KeyTuning:=T.c_KeyTuning
  have n_KeyTuning_own_keys:=T.n_KeyTuning_own_keys
  have c_Board:=T.c_Board
  have n_Board_own_keys:=T.n_Board_own_keys
  have n_Board_octave:=T.n_Board_octave
  refine⟨_,(pss_one (kps_fld K rfl (pv 0) (pcall O.table (hr.mono (by decide)) (pa_cons (pv 1) pa_nil)) rfl)),?_⟩
  obtain rfl:G.a_CommaTuning=C:=by have:=T.w_CommaTuning;rw [hC] at this;cases this;rfl
  walk_at "w"
  refine c_table (b:=b) ⟨hl,hrs,h6,hln,hbd,hb,hT⟩ fun l1 H1 ys st n1 sm1 hT1 m1 r1 sf eqv l5 h5 _ _=>?_
  have hx1:=ins_smT sm1 hT hx
  walk_at "w"
  refine r_sfld1 hx1 c_CommaTuning n_CommaTuning_steps (by decide) ?_
  exact k l1 H1 ys st n1 sm1 hT1 m1 r1 sf eqv l5 hx1
theorem sc_note_changed:FnScope ["note","change"] ["note","change"] (defScope s_note_changed):=⟨rfl,rfl,rfl,by decide +kernel,rfl,by decide +kernel,by decide +kernel⟩
structure Os_note_changed (P:Program) (w:World) (K:PySem.W.Frag) (mg:Str→Option Value) (base:Heap) (G:Adr):Prop where
 Board_sound:OkM P w K mg base 4 G.f_Board_sound ["self","row"] (sp_Board_sound K)
 CommaTuning_sound:OkM P w K mg base 36 G.f_CommaTuning_sound ["self","row"] (sp_CommaTuning_sound K)
 KeyTuning_sound:OkM P w K mg base 4 G.f_KeyTuning_sound ["self","row"] (sp_KeyTuning_sound K)
 Tuning_sound:OkM P w K mg base 1 G.f_Tuning_sound ["self","row"] (sp_Tuning_sound K)
set_option maxHeartbeats 4000000 in
theorem ok_note_changed (D:Def K mg "note_changed" s_note_changed ["note","change"]) (T:Txt K mg G) (O:Os_note_changed P w K mg base G) (Y:base.NoSeer∧P.given.tree=none):Ok P w K mg base 39 "note_changed" ["note","change"] (sp_note_changed K):=by
 have S:=sc_note_changed
 refine D.ok S (fun vs H Q E h=>?_) (fun f cdv A outer s H vs Q E hr h=>?_)
 ·obtain ⟨a,f,cS,x,l0,ob,n,u,rfl,⟨a',t,l,ea,ha,ht,hl⟩,hrow,hLam,hTu,hok,kQ⟩:=h;rfl
 ·obtain ⟨a,f,cS,x,l0,ob,n,u,rfl,⟨a',t,l,ea,ha,ht,hl⟩,hrow,hLam,hTu,hok,kQ⟩:=h
  have hu:=hu_of hr
  have c_Tuning:=T.c_Tuning
  have c_CommaTuning:=T.c_CommaTuning
  have n_CommaTuning_steps:=T.n_CommaTuning_steps
  have c_KeyTuning:=T.c_KeyTuning
  have n_KeyTuning_own_keys:=T.n_KeyTuning_own_keys
  have c_Board:=T.c_Board
  have n_Board_own_keys:=T.n_Board_own_keys
  have n_Board_octave:=T.n_Board_octave
  refine⟨_,(pss_one (ps_ret (pe_tup (pa_cons (pe_ifExp (pt_cmpR op_isN (pe_ix (kx_seq K rfl) (pv 0) pe_int (fun _ _=>rfl)) pe_non (nomark _)) pe_non (pe_callL (k:=37) (i:=1) (p:="tone") (y:="tuning") (q:="sounds.<locals>.<lambda>") (params:=lamP sdE) (body:=lamB sdE) (scope:=lamS sdE) (hr.mono (by decide)) rfl (Or.inl rfl) (pe_ix (kx_seq K rfl) (pv 0) pe_int (fun _ _=>rfl)) (fun _ _ z=>z.elim) (fun _ _ _ _ _=>rfl) rfl rfl rfl rfl (by decide +kernel) (lam_free1 rfl) rfl (fun _ _ _ _ _=>(pe_eith (pmeth O.Tuning_sound T.c_Tuning T.m_Tuning_sound (((hr.mono (show 36+1≤_ by decide)).deeper _).mono (by decide)) (pv 1) (pa_cons (pv 0) pa_nil)) (pe_eith (pmeth O.CommaTuning_sound T.c_CommaTuning T.m_CommaTuning_sound (((hr.mono (show 36+1≤_ by decide)).deeper _).mono (by decide)) (pv 1) (pa_cons (pv 0) pa_nil)) (pe_eith (pmeth O.KeyTuning_sound T.c_KeyTuning T.m_KeyTuning_sound (((hr.mono (show 36+1≤_ by decide)).deeper _).mono (by decide)) (pv 1) (pa_cons (pv 0) pa_nil)) (pmeth O.Board_sound T.c_Board T.m_Board_sound (((hr.mono (show 36+1≤_ by decide)).deeper _).mono (by decide)) (pv 1) (pa_cons (pv 0) pa_nil)))))))) (pa_cons (pe_ix (kx_seq K rfl) (pv 0) pe_int (fun _ _=>rfl)) pa_nil))))),?_⟩
  obtain rfl:a=a':=by cases ea;rfl
  obtain ⟨n1,nt,nb⟩:=n
  walk_at "w"
  cases n1 with
  | none =>
   obtain rfl:t=.non:=ht
   refine⟨rfl,?_⟩
   walk_at "w"
   refine if_tt rfl ?_
   walk_at "w"
   rename_i p1 H1 s1 m1
   exact kQ p1 H1 s1 ⟨p1,.non,l,rfl,SqT.of m1,rfl,s1.at hl⟩
  | some t0 =>
   obtain ⟨r,rfl,lr,br⟩:=hrow t0 rfl
   obtain ⟨ar,rfl,har,_⟩:=ht
   refine⟨rfl,?_⟩
   walk_at "w"
   refine if_ff rfl ?_
   obtain ⟨c',cl,l1,l2,l3,l4,hcS⟩:=id hLam
   refine⟨f,rfl,⟨_,_,_,_,_,_,l1⟩,?_⟩
   walk_at "w"
   refine⟨cS,.ref x,ob,hLam,?_⟩
   refine sound4 T.w_Tuning T.w_CommaTuning T.w_KeyTuning T.w_Board (fun _ h=>r_var rfl h) (fun R h=>?_) (hTu.del hcS) ⟨hok,sqT_del har hcS,lr,br⟩ fun v H2 s2 hv=>?_
   ·walk_at "w"
    exact h
   intro hn
   have sH:=Same.del hcS s2
   have hv3:=hv.same (Same.upd_new (o:=cellO cS (.ref x) ob) hn)
   have ha3:=sH.at ha
   have hl3:=sH.at hl
   generalize upd H2 cS (cellO cS (.ref x) ob)=H4 at sH hv3 ha3 hl3 ⊢
   walk_at "w"
   rename_i p5 H5 s5 m5
   exact kQ p5 H5 (sH.trans s5) ⟨p5,v,l,rfl,SqT.of m5,hv3.same s5,s5.at hl3⟩
theorem sc_bar_changed:FnScope ["bar","change"] ["bar","change"] (defScope s_bar_changed):=⟨rfl,rfl,rfl,by decide +kernel,rfl,by decide +kernel,by decide +kernel⟩
structure Os_bar_changed (P:Program) (w:World) (K:PySem.W.Frag) (mg:Str→Option Value) (base:Heap) (G:Adr):Prop where
 note_changed:Ok P w K mg base 39 "note_changed" ["note","change"] (sp_note_changed K)
set_option maxHeartbeats 4000000 in
theorem ok_bar_changed (D:Def K mg "bar_changed" s_bar_changed ["bar","change"]) (T:Txt K mg G) (O:Os_bar_changed P w K mg base G) (Y:base.NoSeer∧P.given.tree=none):Ok P w K mg base 40 "bar_changed" ["bar","change"] (sp_bar_changed K):=by
 have S:=sc_bar_changed
 refine D.ok S (fun vs H Q E h=>?_) (fun f cdv A outer s H vs Q E hr h=>?_)
 ·obtain ⟨a,f,cS,x,l0,ob,xs,ns,u,rfl,ha,hn,h100,hrow,hLam,hTu,hok,kQ⟩:=h;rfl
 ·obtain ⟨a,f,cS,x,l0,ob,xs,ns,u,rfl,ha,hn,h100,hrow,hLam,hTu,hok,kQ⟩:=h
  have hu:=hu_of hr
  have c_Tuning:=T.c_Tuning
  have c_CommaTuning:=T.c_CommaTuning
  have n_CommaTuning_steps:=T.n_CommaTuning_steps
  have c_KeyTuning:=T.c_KeyTuning
  have n_KeyTuning_own_keys:=T.n_KeyTuning_own_keys
  have c_Board:=T.c_Board
  have n_Board_own_keys:=T.n_Board_own_keys
  have n_Board_octave:=T.n_Board_octave
  refine⟨_,(pss_one (ps_ret (pe_comp (N:=["note","change"]) (ix:=[none,some 1]) rfl (kpi_list K rfl (pv 0)) (fun _ _ _ _ _=>(pg_name (i:=0) (show List.Nodup (["note","change"]:List Str) by decide +kernel) rfl (Or.inl rfl))) (fun _ _ _ _ _=>rfl) (fun _ _ _ _ _=>(pcall O.note_changed (hr.mono (by decide)) (pa_cons (pv 0) (pa_cons (pv 1) pa_nil)))) rfl (by decide +kernel) (by decide +kernel) rfl ⟨⟨rfl,Or.inr (Or.inl rfl),rfl,rfl⟩,True.intro⟩))),?_⟩
  have lx:=hn.length
  walk_at "w"
  refine comp_gen 1 [some (.ref f)] ns.length (fun l i ys H'=>NotesL K H' ys ((ns.take i).map (sdN u))) rfl (fun l H' _ _ _=>.nil) (fun l i ys H' h=>by have:=h.length;rw [List.length_map,List.length_take] at this;lia) (fun H' s=>⟨xs,s.seq ha,by lia⟩) (fun i H' hi s=>⟨xs,xs[i]'(by lia),s.seq ha,List.getElem?_eq_getElem (by lia)⟩) (fun l i x' H' H2 own ys ho hi hl0 s9 hl' hp hy Qy Qn ky kn=>?_) (fun l H' ys hl0 s9 hl' hp=>?_)
  ·obtain ⟨o1,rfl⟩:∃ o1,own=[o1]:=by match own,ho with|[o1],_=>exact⟨o1,rfl⟩
   obtain ⟨rfl,e⟩:=hy
   obtain ⟨n,hno,hni⟩:=(hn.same s9).get (e xs (s9.seq ha))
   have hnm:n∈ns:=List.mem_of_getElem? hni
   have et:ns.take (i+1)=ns.take i++[n]:=by rw [List.take_add_one,hni];rfl
   obtain ⟨a1,t1,l1,rfl,hno'⟩:=id hno
   walk_at "w"
   refine iteT ?_
   walk_at "w"
   refine c_note_changed ⟨hno,hrow n hnm,hLam.same s9,hTu.same s9,hok⟩ fun p H9 s99 hm=>?_
   refine ky [some (.ref a1)] _ H9 rfl s99 ?_
   rw [et,List.map_append]
   exact ((hp.same s99).off (s99 _ _ hl')).snoc (hm.off (s99 _ _ hl'))
  ·rw [List.take_length] at hp
   exact kQ l H' ys hl0 s9 hl' hp
theorem sc_law_tuning:FnScope ["_law_kind","_law_told_here","_law_handed"] ["_law_kind","_law_told_here","_law_handed"] (defScope s_law_tuning):=⟨rfl,rfl,rfl,by decide +kernel,rfl,by decide +kernel,by decide +kernel⟩
structure Os_law_tuning (P:Program) (w:World) (K:PySem.W.Frag) (mg:Str→Option Value) (base:Heap) (G:Adr):Prop where
 Board_init:OkMX P w K mg base 3 G.f_Board_init ["self","row"] (sp_Board_init K)
 CommaTuning_init:OkM P w K mg base 38 G.f_CommaTuning_init ["self","commas"] (sp_CommaTuning_init K)
 KeyTuning_init:OkM P w K mg base 2 G.f_KeyTuning_init ["self","keys"] (sp_KeyTuning_init K)
set_option maxHeartbeats 8000000 in
theorem ok_law_tuning (D:Def K mg "_law_tuning" s_law_tuning ["_law_kind","_law_told_here","_law_handed"]) (T:Txt K mg G) (O:Os_law_tuning P w K mg base G) (Y:base.NoSeer∧P.given.tree=none):Ok P w K mg base 40 "_law_tuning" ["_law_kind","_law_told_here","_law_handed"] (sp_law_tuning K):=by
 have S:=sc_law_tuning
 refine D.ok S (fun vs H Q E h=>?_) (fun f cdv A outer s H vs Q E hr h=>?_)
 ·obtain ⟨b,h,d,zs,rfl,hTo,hok,hh,hcs,hks,hT,k⟩:=h;rfl
 ·obtain ⟨b,h,d,zs,rfl,hTo,hok,hh,hcs,hks,hT,k⟩:=h
  have hu:=hu_of hr
  have c_Tuning:=T.c_Tuning
  have c_CommaTuning:=T.c_CommaTuning
  have n_CommaTuning_steps:=T.n_CommaTuning_steps
  have c_KeyTuning:=T.c_KeyTuning
  have n_KeyTuning_own_keys:=T.n_KeyTuning_own_keys
  have c_Board:=T.c_Board
  have n_Board_own_keys:=T.n_Board_own_keys
  have n_Board_octave:=T.n_Board_octave
  refine⟨_,(pss_cons (ps_if (pt_cmpR op_eq (pv 0) pe_int (nomark _)) (pss_one (ps_ret (pmake0 T.k0_Tuning rfl T.g_Tuning))) pss_nil) (pss_cons (ps_if (pt_cmpR op_eq (pv 0) pe_int (nomark _)) (pss_one (ps_ret (pmake O.CommaTuning_init T.k_CommaTuning (hr.mono (by decide)) rfl T.g_CommaTuning (pa_cons (pv 2) pa_nil)))) pss_nil) (pss_cons (ps_if (pt_cmpR op_eq (pv 0) pe_int (nomark _)) (pss_one (ps_ret (pmake O.KeyTuning_init T.k_KeyTuning (hr.mono (by decide)) rfl T.g_KeyTuning (pa_cons (pv 2) pa_nil)))) pss_nil) (pss_one (ps_ret (pmakeX (EX:=fun _ _ _=>False) O.Board_init T.k_Board (hr.mono (by decide)) noraise rfl rfl T.g_Board (pa_cons (pv 1) pa_nil))))))),?_⟩
  cases d with
  | plain w =>
   walk_at "w"
   refine if_tt rfl ?_
   walk_at "w"
   intro x dx nx' ndx nex
   have sx:=mk_same (C:=G.a_Tuning) nx' ndx
   exact k x x .plain _ nx' (SameS.of sx) (hT.same sx) ⟨_,_,T.w_Tuning,upd_same⟩ trivial (fun r y _ h=>h)
  | steps rs =>
   obtain ⟨cs,hC,hE,hLn,hbd,h4⟩:=hcs rs rfl
   walk_at "w"
   refine if_ff rfl ?_
   walk_at "w"
   refine if_tt rfl ?_
   walk_at "w"
   intro x dx nx' ndx nex
   have sx:=mk_same (C:=G.a_CommaTuning) nx' ndx
   have hb5:∀ v∈cs,Mth.BdM (2 ^ 5) v:=fun v hv=>bd_of (b:=24) (hbd v hv) (by decide)
   refine c_CommaTuning_init (b:=5) ⟨T.w_CommaTuning,upd_same,SqL.of (sx _ _ hh),hC.same sx,by lia,hLn,hb5,by decide,hT.same sx⟩ fun y1 H1 ysy st ny1 sm1 hT1 my1 ry1 sf eqv l5s hx1=>⟨rfl,?_⟩
   have hst:=sf.tight l5s hLn eqv hb5
   have sm2:SmT K H (upd H1 x (.ins G.a_CommaTuning dx [("steps",.ref y1)])):=mk_smT nx' ndx sm1
   have hT2:TabK K (upd H1 x (.ins G.a_CommaTuning dx [("steps",.ref y1)])):=hT1.ins hx1
   have hyx:y1≠x:=fun z=>by rw [z,hx1] at my1;cases my1
   refine k x y1 (.comma st) _ (sx.new ny1) sm2 hT2 ⟨_,_,ysy,T.w_CommaTuning,upd_same,by rw [upd_ne hyx];exact my1,rows_ins ry1 hx1⟩ ⟨sf,l5s,fun v hv=>(hst v hv).mono (Nat.pow_le_pow_right (by decide) (by decide))⟩ (fun r y hr h=>?_)
   obtain ⟨v,rfl,hRB⟩:=h
   exact⟨v,rfl,rb_rst hok sf l5s (hE.trans eqv) hRB⟩
  | keys ks =>
   have hK:=hks ks rfl
   walk_at "w"
   refine if_ff rfl ?_
   walk_at "w"
   refine if_ff rfl ?_
   walk_at "w"
   refine if_tt rfl ?_
   walk_at "w"
   intro x dx nx' ndx nex
   have sx:=mk_same (C:=G.a_KeyTuning) nx' ndx
   refine c_KeyTuning_init ⟨.inl T.w_KeyTuning,upd_same,SqL.of (sx _ _ hh),hK.same sx,Nat.le_trans hok.1 (by decide),fun q hq=>(hok.2 q hq).2.2.1⟩ fun y2 H1 ny2 s1 my2=>⟨rfl,?_⟩
   have hx1:=s1 _ _ (upd_same (H:=upd H dx (.own x)) (a:=x) (o:=.ins G.a_KeyTuning dx []))
   have s2:Same H (upd H1 x (.ins G.a_KeyTuning dx [("own_keys",.ref y2)])):=fun b o e=>by
    rw [upd_ne (fun z=>by rw [z,nx'] at e;cases e)]
    exact s1 _ _ (sx _ _ e)
   have hyx:y2≠x:=fun z=>by rw [z,hx1] at my2;cases my2
   exact k x y2 (.key ks) _ (sx.new ny2) (SameS.of s2) (hT.same s2) ⟨_,_,_,T.w_KeyTuning,upd_same,by rw [upd_ne hyx];exact my2,keys_ins (hK.same (sx.trans s1)) hx1⟩ ⟨Nat.le_trans hok.1 (by decide),fun q hq=>(hok.2 q hq).2.2.1,fun q hq=>⟨(hok.2 q hq).1,bd_of (b:=10) (hok.2 q hq).2.1 (by decide),by have:=(hok.2 q hq).2.2;lia⟩⟩ (fun r y _ h=>h)
  | board w =>
   have hTo:SqT K H b (w.map V.int):=hTo
   walk_at "w"
   refine if_ff rfl ?_
   walk_at "w"
   refine if_ff rfl ?_
   walk_at "w"
   refine if_ff rfl ?_
   walk_at "w"
   refine r_makeX ?_
   walk_at "w"
   intro x dx nx' ndx nex
   have sx:=mk_same (C:=G.a_Board) nx' ndx
   refine c_Board_init (w:=w) ⟨T.w_Board,upd_same,sx.at hTo,hok.1⟩ ⟨fun z=>absurd z (by have:=hok.2.1;lia),fun _ l1 H1 ys1 nl1 s1 m1 k1 hx1=>⟨rfl,?_⟩⟩
   have t1:=board_at (a:=[("own_keys",.ref l1)]) T.w_Board hx1 m1 k1
   have sb:=board_same (o:=.ins G.a_Board dx [("own_keys",.ref l1)]) (o':=.ins G.a_Board dx [("own_keys",.ref l1),("octave",.int (w.getD 0 0))]) nx' ndx s1
   refine k x l1 (.board w) _ (sx.new nl1) (SameS.of sb) (hT.same sb) t1 ⟨hok.1,bd_of (b:=30) hok.2.2 (by decide)⟩ (fun r y _ h=>?_)
   have e:val w 0 r=Mth.dt r w:=by unfold val;rw [if_pos rfl];rfl
   show y=.num (Mth.dt r w)
   rw [← e]
   exact h
theorem sc_changed:FnScope ["tune","change"] ["tune","change"] (defScope s_changed):=⟨rfl,rfl,rfl,by decide +kernel,rfl,by decide +kernel,by decide +kernel⟩
structure Os_changed (P:Program) (w:World) (K:PySem.W.Frag) (mg:Str→Option Value) (base:Heap) (G:Adr):Prop where
 bar_changed:Ok P w K mg base 40 "bar_changed" ["bar","change"] (sp_bar_changed K)
set_option maxHeartbeats 4000000 in
theorem ok_changed (D:Def K mg "changed" s_changed ["tune","change"]) (T:Txt K mg G) (O:Os_changed P w K mg base G) (Y:base.NoSeer∧P.given.tree=none):Ok P w K mg base 41 "changed" ["tune","change"] (sp_changed K):=by
 have S:=sc_changed
 refine D.ok S (fun vs H Q E h=>?_) (fun f cdv A outer s H vs Q E hr h=>?_)
 ·obtain ⟨a,m,l,f,cS,x,l0,mt,ob,xs,bs,u,rfl,⟨ha,hm,hl,hbs⟩,h100,hrow,hLam,hTu,hok,kQ⟩:=h;rfl
 ·obtain ⟨a,m,l,f,cS,x,l0,mt,ob,xs,bs,u,rfl,⟨ha,hm,hl,hbs⟩,h100,hrow,hLam,hTu,hok,kQ⟩:=h
  have hu:=hu_of hr
  have c_Tuning:=T.c_Tuning
  have c_CommaTuning:=T.c_CommaTuning
  have n_CommaTuning_steps:=T.n_CommaTuning_steps
  have c_KeyTuning:=T.c_KeyTuning
  have n_KeyTuning_own_keys:=T.n_KeyTuning_own_keys
  have c_Board:=T.c_Board
  have n_Board_own_keys:=T.n_Board_own_keys
  have n_Board_octave:=T.n_Board_octave
  refine⟨_,(pss_one (ps_ret (pe_tup (pa_cons (pe_ix (kx_seq K rfl) (pv 0) pe_int (fun _ _=>rfl)) (pa_cons (pe_comp (N:=["bar","change"]) (ix:=[none,some 1]) rfl (kpi_list K rfl (pe_ix (kx_seq K rfl) (pv 0) pe_int (fun _ _=>rfl))) (fun _ _ _ _ _=>(pg_name (i:=0) (show List.Nodup (["bar","change"]:List Str) by decide +kernel) rfl (Or.inl rfl))) (fun _ _ _ _ _=>rfl) (fun _ _ _ _ _=>(pcall O.bar_changed (hr.mono (by decide)) (pa_cons (pv 0) (pa_cons (pv 1) pa_nil)))) rfl (by decide +kernel) (by decide +kernel) rfl ⟨⟨rfl,Or.inr (Or.inl rfl),rfl,rfl⟩,True.intro⟩) pa_nil))))),?_⟩
  have lx:=hbs.length
  walk_at "w"
  refine comp_gen 1 [some (.ref f)] bs.length (fun l i ys H'=>BarsL K H' ys ((bs.take i).map fun ns=>ns.map (sdN u))∧(V.ref l∉ys)∧∀ x∈ys,∃ b,x=V.ref b∧H b=none) rfl (fun l H' _ _ _=>⟨.nil,(fun z=>nomatch z),fun _ z=>nomatch z⟩) (fun l i ys H' h=>by have:=h.1.length;rw [List.length_map,List.length_take] at this;lia) (fun H' s=>⟨xs,s.seq (SqL.of hl),by lia⟩) (fun i H' hi s=>⟨xs,xs[i]'(by lia),s.seq (SqL.of hl),List.getElem?_eq_getElem (by lia)⟩) (fun l2 i x' H' H2 own ys ho hi hl0 s9 hl' hp hy Qy Qn ky kn=>?_) (fun l2 H' ys hl0 s9 hl' hp=>?_)
  ·obtain ⟨o1,rfl⟩:∃ o1,own=[o1]:=by match own,ho with|[o1],_=>exact⟨o1,rfl⟩
   obtain ⟨rfl,e⟩:=hy
   obtain ⟨a1,zs,ns,rfl,hz,hns,hni⟩:=(hbs.same s9).get (e xs (s9.seq (SqL.of hl)))
   have hnm:ns∈bs:=List.mem_of_getElem? hni
   have et:bs.take (i+1)=bs.take i++[ns]:=by rw [List.take_add_one,hni];rfl
   walk_at "w"
   refine iteT ?_
   walk_at "w"
   refine c_bar_changed ⟨SqL.of hz,hns,(hrow ns hnm).1,(hrow ns hnm).2,hLam.same s9,hTu.same s9,hok⟩ fun l3 H9 zs9 n9 s99 m9 hm9=>?_
   have hl9:=s99 _ _ hl'
   have ne:l3≠l2:=fun z=>by rw [z,hl'] at n9;cases n9
   refine ky [some (.ref a1)] _ H9 rfl s99 ⟨?_,fun z=>?_,fun y hy=>?_⟩
   ·rw [et,List.map_append]
    exact ((hp.1.same s99).off hl9 hp.2.1).snoc (by rw [upd_ne ne];exact m9) (hm9.off hl9)
   ·rcases List.mem_append.mp z with z|z
    ·exact hp.2.1 z
    ·have:=List.mem_singleton.mp z
     cases this
     exact ne rfl
   ·rcases List.mem_append.mp hy with z|z
    ·exact hp.2.2 y z
    ·exact⟨l3,List.mem_singleton.mp z,s9.new n9⟩
  ·rw [List.take_length] at hp
   have ha9:=s9.at ha
   walk_at "w"
   rename_i p5 H5 s5 m5
   exact kQ p5 l2 H5 ys hl0 (s9.trans s5) hp.2.2 ⟨SqT.of m5,(s9.trans s5).at hm,s5 _ _ hl',hp.1.same s5⟩
theorem sc_sounds:FnScope ["tuning","tune"] ["tuning","tune"] (defScope s_sounds):=⟨rfl,rfl,rfl,by decide +kernel,rfl,by decide +kernel,by decide +kernel⟩
structure Os_sounds (P:Program) (w:World) (K:PySem.W.Frag) (mg:Str→Option Value) (base:Heap) (G:Adr):Prop where
 changed:Ok P w K mg base 41 "changed" ["tune","change"] (sp_changed K)
set_option maxHeartbeats 4000000 in
theorem ok_sounds (D:DefT K mg "sounds" s_sounds ["tuning","tune"] G.c_lam_sounds) (T:Txt K mg G) (O:Os_sounds P w K mg base G) (Y:base.NoSeer∧P.given.tree=none) (B:PySem.W.CodeHd base G.c_lam_sounds (tabP K "sounds")∧base.BuiltinsAt mg (tabP K "sounds")):Ok P w K mg base 42 "sounds" ["tuning","tune"] (sp_sounds K):=by
 have S:=sc_sounds
 refine D.ok S (fun vs H Q E h=>?_) (fun f A outer s H vs Q E hr h=>?_)
 ·obtain ⟨a,m,l,x,l0,mt,xs,bs,u,rfl,hTn,h100,hrow,hTu,hok,hT,kQ⟩:=h;rfl
 ·obtain ⟨a,m,l,x,l0,mt,xs,bs,u,rfl,hTn,h100,hrow,hTu,hok,hT,kQ⟩:=h
  have hu:=hu_of hr
  have c_Tuning:=T.c_Tuning
  have c_CommaTuning:=T.c_CommaTuning
  have n_CommaTuning_steps:=T.n_CommaTuning_steps
  have c_KeyTuning:=T.c_KeyTuning
  have n_KeyTuning_own_keys:=T.n_KeyTuning_own_keys
  have c_Board:=T.c_Board
  have n_Board_own_keys:=T.n_Board_own_keys
  have n_Board_octave:=T.n_Board_octave
  refine⟨_,(pss_one (ps_ret (pcallC (y:="tuning") (j:=0) O.changed (hr.mono (by decide)) (pa_cons (pv 1) (pa_cons (pe_lamE (q:="sounds.<locals>.<lambda>") (lp:=sdL) rfl rfl B.1 B.2 rfl rfl) pa_nil)) rfl (Or.inr (Or.inl rfl)) rfl rfl))),?_⟩
  obtain ⟨tu1,tu2,tu3,tu4⟩:=hTn
  walk_at "w"
  refine⟨.ref a,rfl,hT.2 (tabP K "sounds",sdL,"sounds.<locals>.<lambda>") (.tail _ (.head _)),fun f1 c1 H1 smq hTq hf1 hc1=>?_⟩
  have hT1:TabK K H1:=TabsH.step (t:=(tabP K "sounds",sdL,"sounds.<locals>.<lambda>")) hT (.tail _ (.head _)) smq hTq
  have sm1:SmT K H H1:=SameT.s (t:=(tabP K "sounds",sdL,"sounds.<locals>.<lambda>")) smq (.tail _ (.head _))
  clear smq hTq
  refine⟨.ref x,rfl,fun c ob hcl hn=>?_⟩
  have tu:TuneAt K H1 a m l mt xs bs:=⟨sm1.at hT tu1,sm1.at hT tu2,sm1.lst hT tu3,tu4.keep hT sm1⟩
  have sc:Same H1 (upd H1 c (cellO c (.ref x) ob)):=Same.upd_new hn
  have hone:=clOf_one (y:="tuning") (names:=(lamS sdE).names) rfl (by decide) hcl
  have hLam:LamS (upd H1 c (cellO c (.ref x) ob)) f1 c x ob:=⟨c1,_,sc _ _ hf1,sc _ _ hc1,hone.1,hone.2,upd_same⟩
  refine c_changed ⟨tu.same sc,h100,hrow,hLam,(hTu.keep hT sm1).same sc,hok⟩ fun t2 l2 H2 ys n2 s2 f2 h2=>?_
  refine⟨s2 _ _ upd_same,kQ t2 l2 _ ys (sm1.new hT1 (sc.new n2)) (sm1.trans (SameS.of (Same.lent hn s2))) (hT1.same (Same.lent hn s2)) (fun y hy=>?_) (h2.del (s2 _ _ upd_same))⟩
  obtain ⟨b3,rfl,n3⟩:=f2 y hy
  exact⟨b3,rfl,sm1.new hT1 (sc.new n3)⟩
theorem sc_law:FnScope ["_law_script","_law_kind","_law_told_here","_law_handed","_law_tuning_here","_law_tune_here","_law_bars","_law_bar","_law_due","_law_given","_law_found"] ["_law_script"] (defScope s_law):=⟨rfl,rfl,rfl,by decide +kernel,rfl,by decide +kernel,by decide +kernel⟩
structure Os_law (P:Program) (w:World) (K:PySem.W.Frag) (mg:Str→Option Value) (base:Heap) (G:Adr):Prop where
 sounds:Ok P w K mg base 42 "sounds" ["tuning","tune"] (sp_sounds K)
 law_cell_at:Ok P w K mg base 1 "_law_cell_at" ["_law_script","_law_k"] (sp_law_cell_at K)
 law_alike:Ok P w K mg base 7 "_law_alike" ["_law_found","_law_due"] (sp_law_alike K 6)
 law_tune:Ok P w K mg base 3 "_law_tune" ["_law_script","_law_at"] (sp_law_tune K)
 law_copy:Ok P w K mg base 1 "_law_copy" ["_law_tune_here"] (sp_law_copy K)
 law_commas:Ok P w K mg base 2 "_law_commas" ["_law_steps_here","_law_cell"] (sp_law_commas K)
 law_told:Ok P w K mg base 3 "_law_told" ["_law_script","_law_kind","_law_at"] (sp_law_told K)
 law_sound:Ok P w K mg base 2 "_law_sound" ["_law_kind","_law_told_here","_law_row"] (sp_law_sound K)
 law_tuning:Ok P w K mg base 40 "_law_tuning" ["_law_kind","_law_told_here","_law_handed"] (sp_law_tuning K)
set_option maxHeartbeats 8000000 in
theorem fn_law {f:Addr} {fd:FuncData} (F:Fun K "law" "law" s_law f fd) (T:Txt K mg G) (O:Os_law P w K mg base G) (Y:base.NoSeer∧P.given.tree=none):FnOk P w K mg base CX0 43 f fd ["_law_script"] ((spLawTs fun K=>[((tabP K "parted"),lpP,"parted.<locals>.<lambda>"),((tabP K "sounds"),sdL,"sounds.<locals>.<lambda>")]) K):=by
 have S:=sc_law
 refine F.ok S (fun vs H Q E h=>?_) (fun cdv A outer s H vs Q E hr h=>?_)
 ·obtain ⟨a,ns,rfl,hS,hlen,hT,k⟩:=h;rfl
 ·obtain ⟨a,ns,rfl,hS,hlen,hT,k⟩:=h
  have hu:=hu_of hr
  have c_Tuning:=T.c_Tuning
  have c_CommaTuning:=T.c_CommaTuning
  have n_CommaTuning_steps:=T.n_CommaTuning_steps
  have c_KeyTuning:=T.c_KeyTuning
  have n_KeyTuning_own_keys:=T.n_KeyTuning_own_keys
  have c_Board:=T.c_Board
  have n_Board_own_keys:=T.n_Board_own_keys
  have n_Board_octave:=T.n_Board_octave
  refine⟨_,(pss_cons (ps_set (i:=1) S.nd rfl (Or.inr rfl) (pe_op op_mod (pcall O.law_cell_at (hr.mono (by decide)) (pa_cons (pv 0) (pa_cons pe_int pa_nil))) pe_int)) (pss_cons (ps_set (i:=2) S.nd rfl (Or.inr rfl) (pcall O.law_told (hr.mono (by decide)) (pa_cons (pv 0) (pa_cons (pv 1) (pa_cons pe_int pa_nil))))) (pss_cons (ps_set (i:=3) S.nd rfl (Or.inl rfl) (pe_callTy (kN_list K rfl) rfl T.b_list PyProof.Rows.boot_list (pa_cons (pv 2) pa_nil))) (pss_cons (ps_if (pt_cmpR op_eq (pv 1) pe_int (nomark _)) (pss_one (ps_set (i:=3) S.nd rfl (Or.inl rfl) (pcall O.law_commas (hr.mono (by decide)) (pa_cons (pv 2) (pa_cons (pcall O.law_cell_at (hr.mono (by decide)) (pa_cons (pv 0) (pa_cons pe_int pa_nil))) pa_nil))))) pss_nil) (pss_cons (ps_set (i:=4) S.nd rfl (Or.inl rfl) (pcall O.law_tuning (hr.mono (by decide)) (pa_cons (pv 1) (pa_cons (pv 2) (pa_cons (pv 3) pa_nil))))) (pss_cons (ps_expr (pe_bm0 PySem.F.plainAttrs_list PySem.F.slot_list_clear PySem.F.type_list_clear mt_clear (pv 3))) (pss_cons (ps_set (i:=5) S.nd rfl (Or.inl rfl) (pcall O.law_tune (hr.mono (by decide)) (pa_cons (pv 0) (pa_cons pe_int pa_nil)))) (pss_cons (ps_set (i:=6) S.nd rfl (Or.inl rfl) (pe_lst pa_nil)) (pss_cons (ps_for PassesOwn.never rfl (kpi_list K rfl (pe_ix (kx_seq K rfl) (pv 5) pe_int (fun _ _=>rfl))) (pg_name (i:=7) S.nd rfl (Or.inl rfl)) (pss_one (ps_expr (pe_bm PySem.F.plainAttrs_list PySem.F.slot_list_append PySem.F.type_list_append mt_append (pv 6) (pa_cons (pe_comp (N:=["_law_tone","_law_length","_law_kind","_law_told_here"]) (ix:=[none,none,some 1,some 2]) rfl (kpi_list K rfl (pv 7)) (fun _ _ _ _ _=>(kpg_tup (n:=2) K rfl rfl (pgs_cons (pg_name (i:=0) (show List.Nodup (["_law_tone","_law_length","_law_kind","_law_told_here"]:List Str) by decide +kernel) rfl (Or.inl rfl)) (pgs_cons (pg_name (i:=1) (show List.Nodup (["_law_tone","_law_length","_law_kind","_law_told_here"]:List Str) by decide +kernel) rfl (Or.inl rfl)) pgs_nil)))) (fun _ _ _ _ _=>rfl) (fun _ _ _ _ _=>(pe_tup (pa_cons (pe_ifExp (pt_cmpR op_isN (pv 0) pe_non (nomark _)) pe_non (pcall O.law_sound (hr.mono (by decide)) (pa_cons (pv 2) (pa_cons (pv 3) (pa_cons (pv 0) pa_nil))))) (pa_cons (pv 1) pa_nil)))) rfl (by decide +kernel) (by decide +kernel) rfl ⟨⟨rfl,Or.inr (Or.inl rfl),rfl,rfl⟩,⟨⟨rfl,Or.inr (Or.inl rfl),rfl,rfl⟩,True.intro⟩⟩) pa_nil))))) (pss_cons (ps_set (i:=8) S.nd rfl (Or.inl rfl) (pe_tup (pa_cons (pe_ix (kx_seq K rfl) (pv 5) pe_int (fun _ _=>rfl)) (pa_cons (pv 6) pa_nil)))) (pss_cons (ps_set (i:=9) S.nd rfl (Or.inl rfl) (pcall O.law_copy (hr.mono (by decide)) (pa_cons (pv 5) pa_nil))) (pss_cons (ps_set (i:=10) S.nd rfl (Or.inl rfl) (pcall O.sounds (hr.mono (by decide)) (pa_cons (pv 4) (pa_cons (pv 9) pa_nil)))) (pss_cons (ps_if (PW.pt (pw_or (pt_not (pt_val (pcall O.law_alike (hr.mono (by decide)) (pa_cons (pv 10) (pa_cons (pv 8) pa_nil))))) (pw_or1 (pt_not (pt_val (pcall O.law_alike (hr.mono (by decide)) (pa_cons (pv 9) (pa_cons (pv 5) pa_nil)))))))) (pss_one (ps_ret pe_bl)) pss_nil) (pss_cons (ps_expr (pe_bm0 PySem.F.plainAttrs_list PySem.F.slot_list_clear PySem.F.type_list_clear mt_clear (pe_ix (kx_seq K rfl) (pe_ix (kx_seq K rfl) (pv 10) pe_int (fun _ _=>rfl)) pe_int (fun _ _=>rfl)))) (pss_one (ps_ret (pcall O.law_alike (hr.mono (by decide)) (pa_cons (pcall O.sounds (hr.mono (by decide)) (pa_cons (pv 4) (pa_cons (pv 9) pa_nil))) (pa_cons (pv 8) pa_nil))))))))))))))))))),?_⟩
  walk_at "w"
  refine c_law_told ⟨hS,by lia,by lia,by lia⟩ fun b d H1 s1 hTo hok hnum=>?_
  rw [← hnum]
  have hS1:=s1.seq hS
  have hT1:TabK K H1:=hT.same s1
  walk_at "w"
  refine rd_toldL hTo fun h0 H2 zs0 n2 s2 m2 hk2=>?_
  walk_at "j"
  refine join (fun σ' H'=>∃ (h:Addr) (zs:List V),σ'=[some (.ref a),some (.int d.num),some (.ref b),some (.ref h),none,none,none,none,none,none,none]∧H1 h=none∧Same H1 H'∧H' h=some (.lst zs)∧(∀ rs,d=.steps rs→∃ cs,RowsL K H' zs cs∧Mth.Eqv 5 rs cs∧Mth.Len 5 cs∧(∀ v∈cs,∀ x∈v,-24≤x∧x≤24)∧cs.length≤4)∧(∀ ks,d=.keys ks→KeysL K H' zs ks)) (fun nx hnx=>?_) (fun σ' H3 hP=>?_)
  ·cases d with
   | plain w =>
    walk_at "w"
    refine if_ff rfl ?_
    walk_at "w"
    exact hnx _ _ ⟨h0,zs0,rfl,n2,s2,m2,(fun _ e=>nomatch e),hk2⟩
   | steps rs =>
    obtain ⟨ys,e1,e2,e3⟩:=hTo
    have hS2:=s2.seq hS1
    walk_at "w"
    refine if_tt rfl ?_
    walk_at "w"
    refine c_law_commas ⟨s2 _ _ e1,e2.same s2,hok⟩ fun l' H' zs cs n' s' m' hC hE hL hb h4=>?_
    walk_at "w"
    exact hnx _ _ ⟨l',zs,rfl,s2.new n',s2.trans s',m',fun rs' e=>by cases e;exact⟨cs,hC,hE,hL,hb,h4⟩,fun _ e=>nomatch e⟩
   | keys ks =>
    walk_at "w"
    refine if_ff rfl ?_
    walk_at "w"
    exact hnx _ _ ⟨h0,zs0,rfl,n2,s2,m2,(fun _ e=>nomatch e),hk2⟩
   | board w =>
    walk_at "w"
    refine if_ff rfl ?_
    walk_at "w"
    exact hnx _ _ ⟨h0,zs0,rfl,n2,s2,m2,(fun _ e=>nomatch e),hk2⟩
  ·obtain ⟨h,zs,rfl,nh,s3,mh,hcs,hks⟩:=hP
   walk_at "w"
   refine c_law_tuning ⟨hTo.same s3,hok,mh,hcs,hks,hT1.same s3⟩ fun t l u H4 nl sm4 hT4 hTu hu hlnk=>?_
   have mh4:=sm4.lst (hT1.same s3) mh
   have hlh:l≠h:=fun z=>by rw [z,mh] at nl;cases nl
   walk_at "w"
   refine r_clear mh4 ?_
   have smC:SmT K H1 (upd H4 h (.lst [])):=((SameS.of s3).trans sm4).upd_old nh
   have hTC:TabK K (upd H4 h (.lst [])):=hT4.off mh4
   have hTuC:=TuAt.off (zs:=[]) mh4 hlh hTu
   have hToC:=hTo.keep hT1 smC
   have hSC:=smC.seq hT1 hS1
   generalize upd H4 h (.lst [])=HC at smC hTC hTuC hToC hSC ⊢
   clear hS hS1 hT hTo hTu mh mh4 hcs hks hk2 m2 s1 s2 s3 sm4 hT4 hT1 smC
   walk_at "w"
   refine c_law_tune ⟨hSC,by lia,by lia⟩ fun t2 m2 l2 HD mt xs bs sD tu ok=>?_
   have hTuD:=hTuC.same sD
   have hToD:=hToC.same sD
   have hTD:TabK K HD:=hTC.same sD
   obtain ⟨tu1,tu2,tu3,tu4⟩:=id tu
   have lx:=tu4.length
   have lb12:=ok.2.1
   walk_at "w"
   rename_i pl HE nE sE mE
   refine f_invL (xs:=xs) (fun i σ Hn=>∃ (o1:Option V) (ys:List V),σ=[some (.ref a),some (.int d.num),some (.ref b),some (.ref h),some (.ref t),some (.ref t2),some (.ref pl),o1,none,none,none]∧Same HD Hn∧Hn pl=some (.lst ys)∧BarsL K Hn ys ((bs.take i).map fun ns=>ns.map (sdN u))∧(V.ref pl∉ys)∧ys.length=i) ⟨_,[],rfl,sE,mE,.nil,(fun z=>nomatch z),rfl⟩ (fun i σ Hn hp=>by obtain ⟨_,_,rfl,sn,_⟩:=hp;exact SqL.of (sn _ _ tu3)) (fun i x σ Hn hx hp=>?_) (fun σ Hn hp=>?_)
   ·obtain ⟨o1,ys,rfl,sn,mp,hB,hno,ly⟩:=hp
    have hi:i<xs.length:=(List.getElem?_eq_some_iff.mp hx).1
    obtain ⟨a1,zs',ns',rfl,hz,hns,hni⟩:=(tu4.same sn).get hx
    have hnm:ns'∈bs:=List.mem_of_getElem? hni
    have hnok:=ok.2.2.1 ns' hnm
    have et:bs.take (i+1)=bs.take i++[ns']:=by rw [List.take_add_one,hni];rfl
    have lz:=hns.length
    have l12:=hnok.2.1
    have hToN:=hToD.same sn
    walk_at "w"
    refine comp_gen 2 [some (.int d.num),some (.ref b)] ns'.length (fun l i ws H'=>NotesL K H' ws ((ns'.take i).map (sdN u))) rfl (fun _ _ _ _ _=>.nil) (fun l i ws H' h=>by have:=h.length;rw [List.length_map,List.length_take] at this;lia) (fun H' s=>⟨zs',s.seq (SqL.of hz),by lia⟩) (fun i H' hi s=>⟨zs',zs'[i]'(by lia),s.seq (SqL.of hz),List.getElem?_eq_getElem (by lia)⟩) (fun l i' x H' H2 own ws ho hi' hl0 s9 hl' hp' hy Qy Qn ky kn=>?_) (fun l3 H3 ws n3 s3 m3 hp'=>?_)
    ·obtain ⟨q1,q2,rfl⟩:∃ q1 q2,own=[q1,q2]:=by match own,ho with|[q1,q2],_=>exact⟨q1,q2,rfl⟩
     obtain ⟨rfl,e⟩:=hy
     obtain ⟨n,hno',hni'⟩:=(hns.same s9).get (e zs' (s9.seq (SqL.of hz)))
     have hnn:n∈ns':=List.mem_of_getElem? hni'
     have et':ns'.take (i'+1)=ns'.take i'++[n]:=by rw [List.take_add_one,hni'];rfl
     have hsm:=(hnok.2.2 n hnn).1
     obtain ⟨an,tn,ln,rfl,hn1,hn2,hn3⟩:=hno'
     obtain ⟨n1',nt,nb⟩:=n
     refine r_gtup2 hn1 ?_
     cases n1' with
     | none =>
      obtain rfl:tn=.non:=hn2
      walk_at "w"
      refine iteT ?_
      walk_at "w"
      refine⟨rfl,?_⟩
      walk_at "w"
      refine if_tt rfl ?_
      walk_at "w"
      rename_i p7 H7 s7 m7
      have e7:=s7 _ _ hl'
      refine ky [some .non,some (.ref ln)] _ H7 rfl s7 ?_
      rw [et',List.map_append]
      exact ((hp'.same s7).off e7).snoc (n:=sdN u (none,nt,nb)) (NoteAt.off ⟨p7,.non,ln,rfl,SqT.of m7,rfl,s7.at hn3⟩ e7)
     | some tt =>
      cases tt with
      | num i0=>exact hsm.elim
      | row r =>
       obtain ⟨ar,rfl,har,_⟩:=hn2
       have hsr:smR r:=hsm
       walk_at "w"
       refine iteT ?_
       walk_at "w"
       refine⟨rfl,?_⟩
       walk_at "w"
       refine if_ff rfl ?_
       walk_at "w"
       refine c_law_sound ⟨hToN.same s9,hok,har,hsr⟩ fun z H5 y s5 hz5 hD=>?_
       have ey:sdR u r=y:=sdR_eq hu hsr.len (hlnk r y hsr hD)
       walk_at "w"
       rename_i p7 H7 s7 m7
       have s57:=s5.trans s7
       have e7:=s57 _ _ hl'
       refine ky [some (.ref ar),some (.ref ln)] _ H7 rfl s57 ?_
       rw [et',List.map_append]
       refine ((hp'.same s57).off e7).snoc (n:=sdN u (some (.row r),nt,nb)) (NoteAt.off ⟨p7,z,ln,rfl,SqT.of m7,?_,s57.at hn3⟩ e7)
       show TnV K H7 z (sdR u r)
       rw [ey]
       exact hz5.same s7
    ·rw [List.take_length] at hp'
     have mp3:=s3 _ _ mp
     have ne3:l3≠pl:=fun z=>by rw [z,mp] at n3;cases n3
     walk_at "w"
     refine r_append mp3 (by lia) ?_
     walk_at "w"
     refine⟨_,ys++[.ref l3],rfl,(sn.trans s3).upd_old nE,upd_same,?_,fun z=>?_,by simp [ly]⟩
     ·rw [et,List.map_append]
      exact ((hB.same s3).off mp3 hno).snoc (by rw [upd_ne ne3];exact m3) (hp'.off mp3)
     ·rcases List.mem_append.mp z with z|z
      ·exact hno z
      ·have:=List.mem_singleton.mp z
       cases this
       exact ne3 rfl
   ·obtain ⟨o1,ys,rfl,sn,mp,hB,hno,ly⟩:=hp
    rw [← lx,List.take_length] at hB
    have tu1n:=sn.at tu1
    have lb100:bs.length≤100:=by lia
    have ln100:∀ ns∈bs,ns.length≤100:=fun ns h=>Nat.le_trans (ok.2.2.1 ns h).2.1 (by decide)
    have lm100:(bs.map fun ns=>ns.map (sdN u)).length≤100:=by rw [List.length_map];exact lb100
    have lmn100:∀ ns∈(bs.map fun ns=>ns.map (sdN u)),ns.length≤100:=fun ns h=>by
     obtain ⟨q,hq,rfl⟩:=List.mem_map.mp h
     rw [List.length_map]
     exact ln100 q hq
    have hrow:∀ ns∈bs,ns.length≤100∧∀ n∈ns,rowN n:=fun ns h=>⟨ln100 ns h,fun n hn q hq=>by
     have hsm:=((ok.2.2.1 ns h).2.2 n hn).1
     rw [hq] at hsm
     cases q with
     | num i0=>exact hsm.elim
     | row r=>exact⟨r,rfl,smR.len hsm,bd_of (b:=200) (smR.bd hsm) (Nat.le_trans (show 200≤2 ^ 8 by decide) (Nat.pow_le_pow_right (by decide) (by decide)))⟩⟩
    walk_at "w"
    rename_i pd HF sF mF
    have tud:TuneAt K HF pd m2 pl mt ys (bs.map fun ns=>ns.map (sdN u)):=⟨SqT.of mF,(sn.trans sF).at tu2,sF _ _ mp,hB.same sF⟩
    have tuF:=tu.same (sn.trans sF)
    have hTuF:=hTuD.same (sn.trans sF)
    have hTF:TabK K HF:=hTD.same (sn.trans sF)
    refine c_law_copy ⟨tuF,lb12⟩ fun tg lg HG yg nG sG tug=>?_
    have tuG:=tuF.same sG
    have tudG:=tud.same sG
    have hTuG:=hTuF.same sG
    have hTG:TabK K HG:=hTF.same sG
    walk_at "w"
    refine c_sounds ⟨tug,lb100,hrow,hTuG,hu,hTG⟩ fun tf lf HH yf nH smH hTH frH tuf=>?_
    walk_at "w"
    refine c_law_alike (alk_tune tuf (tudG.keep hTG smH) lm100 lmn100) fun HI sI=>?_
    have smI:SmT K HG HI:=smH.trans (SameS.of sI)
    walk_at "w"
    refine if_ff rfl ?_
    walk_at "w"
    refine c_law_alike (alk_tune (tug.keep hTG smI) (tuG.keep hTG smI) lb100 ln100) fun HJ sJ=>?_
    have smJ:SmT K HG HJ:=smI.trans (SameS.of sJ)
    have hTJ:TabK K HJ:=hTH.same (sI.trans sJ)
    walk_at "w"
    refine if_ff rfl ?_
    obtain ⟨uf1,uf2,uf3,uf4⟩:=tuf.same (sI.trans sJ)
    obtain ⟨af,zf,xf,rfl,haf⟩:=uf4.head (by rw [List.length_map];exact ok.1)
    have naf:HG af=none:=by
     obtain ⟨b9,e9,h9⟩:=frH _ (.head _)
     cases e9
     exact h9
    walk_at "w"
    refine r_ixL (SqL.of uf3) (atI_nat (j:=0) rfl) ?_
    walk_at "w"
    refine r_clear haf ?_
    have smK:SmT K HG (upd HJ af (.lst [])):=smJ.upd_old naf
    have hTK:TabK K (upd HJ af (.lst [])):=hTJ.off haf
    generalize upd HJ af (.lst [])=HK at smK hTK ⊢
    walk_at "w"
    refine c_sounds ⟨tug.keep hTG smK,lb100,hrow,hTuG.keep hTG smK,hu,hTK⟩ fun tf2 lf2 HL yf2 nL smL hTL frL tuf2=>?_
    walk_at "w"
    refine c_law_alike (alk_tune tuf2 (tudG.keep hTG (smK.trans smL)) lm100 lmn100) fun HM sM=>?_
    exact k _
end
set_option maxHeartbeats 2000000
theorem all_mk {l : PySem.W.OpenLaw} {w : World} {K : PySem.W.Frag} {h : Heap} {mg : Str → Option Value} {fa : Addr} (X : K.In h) (G0 : h.Ns mainGlobals mg) (htree : l.prog.given.tree=none) (hfa : mg "law"=some (.ref fa)) {c_lam_parted P_lam_parted : Addr} (htb_parted : PySem.W.tabIn K "parted"=some (c_lam_parted, P_lam_parted)) {c_lam_sounds P_lam_sounds : Addr} (htb_sounds : PySem.W.tabIn K "sounds"=some (c_lam_sounds, P_lam_sounds)) {f0 f1 f2 f3 f4 f5 f6 f7 f8 f9 f10 f11 f12 f13 f14 f15 f16 f17 f18 f19 f20 f21 f22 f23 f24 f25 f26 f27 f28 f29 f30 f31 f32 f33 f34 f35 f36 f37 f38 f39 f40 : Addr} {od0 an0 od1 an1 od2 an2 od3 an3 od4 an4 od5 an5 od6 an6 od7 an7 od8 an8 od9 an9 od10 an10 od11 an11 od12 an12 od13 an13 od14 an14 od15 an15 od16 an16 od17 an17 od18 an18 od19 an19 od20 an20 od21 an21 od22 an22 od23 an23 od24 an24 od25 an25 od26 an26 od27 an27 od28 an28 od29 an29 od30 an30 od31 an31 od32 an32 od33 an33 od34 an34 od35 an35 od36 an36 od37 an37 od38 an38 od39 an39 od40 an40 : Option Addr} {sl0 sl1 sl2 sl3 sl4 sl5 sl6 sl7 sl8 sl9 sl10 sl11 sl12 sl13 sl14 sl15 sl16 sl17 sl18 sl19 sl20 sl21 sl22 sl23 sl24 sl25 sl26 sl27 sl28 sl29 sl30 sl31 sl32 sl33 sl34 sl35 sl36 sl37 sl38 sl39 sl40 : Array (Option Value)} {oc0 kV0 dc0 pm0 cd0 ct0 oc1 kV1 dc1 pm1 cd1 ct1 oc2 kV2 dc2 pm2 cd2 ct2 oc3 kV3 dc3 pm3 cd3 ct3 oc4 kV4 dc4 pm4 cd4 ct4 oc5 kV5 dc5 pm5 ct5 oc6 kV6 dc6 pm6 cd6 ct6 oc7 kV7 dc7 pm7 cd7 ct7 oc8 kV8 dc8 pm8 cd8 ct8 oc9 kV9 dc9 pm9 ct9 oc10 kV10 dc10 pm10 cd10 ct10 oc11 kV11 dc11 pm11 cd11 ct11 oc12 kV12 dc12 pm12 cd12 ct12 oc13 kV13 dc13 pm13 cd13 ct13 oc14 kV14 dc14 pm14 cd14 ct14 oc15 kV15 dc15 pm15 cd15 ct15 oc16 kV16 dc16 pm16 cd16 ct16 oc17 kV17 dc17 pm17 cd17 ct17 oc18 kV18 dc18 pm18 cd18 ct18 oc19 kV19 dc19 pm19 cd19 ct19 oc20 kV20 dc20 pm20 cd20 ct20 oc21 kV21 dc21 pm21 cd21 ct21 oc22 kV22 dc22 pm22 cd22 ct22 oc23 kV23 dc23 pm23 cd23 ct23 oc24 kV24 dc24 pm24 cd24 ct24 oc25 kV25 dc25 pm25 cd25 ct25 oc26 kV26 dc26 pm26 cd26 ct26 oc27 kV27 dc27 pm27 cd27 ct27 oc28 kV28 dc28 pm28 cd28 ct28 oc29 kV29 dc29 pm29 cd29 ct29 oc30 kV30 dc30 pm30 cd30 ct30 oc31 kV31 dc31 pm31 cd31 ct31 oc32 kV32 dc32 pm32 cd32 ct32 oc33 kV33 dc33 pm33 cd33 ct33 oc34 kV34 dc34 pm34 cd34 ct34 oc35 kV35 dc35 pm35 cd35 ct35 oc36 kV36 dc36 pm36 cd36 ct36 oc37 kV37 dc37 pm37 cd37 ct37 oc38 kV38 dc38 pm38 cd38 ct38 oc39 kV39 dc39 pm39 cd39 ct39 oc40 kV40 dc40 pm40 cd40 ct40 : Value} {u_Tuning : Addr} {u_CommaTuning : Addr} {u_KeyTuning : Addr} {u_Board : Addr} {t_MOST_COMMAS : Tok} {t_MOST_KEYS : Tok} {t_WIDTH : Tok} {u_NoBoard : Addr} {cd_NoBoard : ClassData}
     (x_Tuning : PySem.W.nsIn K mainGlobals "Tuning"=some (some (.ref u_Tuning))) (x_CommaTuning : PySem.W.nsIn K mainGlobals "CommaTuning"=some (some (.ref u_CommaTuning))) (x_KeyTuning : PySem.W.nsIn K mainGlobals "KeyTuning"=some (some (.ref u_KeyTuning))) (x_Board : PySem.W.nsIn K mainGlobals "Board"=some (some (.ref u_Board)))
    (a0 : PySem.W.nsIn K mainGlobals "over"=some (some (.ref f0))) (l0 : K.lookup f0=some ⟨oc0, od0, .func (PySem.W.fnOf "over" "over" (defArgs s_over) (defBody s_over) (defScope s_over) .none kV0 dc0 pm0 an0 cd0 ct0), sl0⟩) (c0 : PySem.W.codeIn K cd0 "over"=true) (k0 : PySem.W.keepIn K (.ref f0)=true)
    (a1 : PySem.W.nsIn K mainGlobals "power"=some (some (.ref f1))) (l1 : K.lookup f1=some ⟨oc1, od1, .func (PySem.W.fnOf "power" "power" (defArgs s_power) (defBody s_power) (defScope s_power) .none kV1 dc1 pm1 an1 cd1 ct1), sl1⟩) (c1 : PySem.W.codeIn K cd1 "power"=true) (k1 : PySem.W.keepIn K (.ref f1)=true)
    (a2 : PySem.W.nsIn K mainGlobals "note_changed"=some (some (.ref f2))) (l2 : K.lookup f2=some ⟨oc2, od2, .func (PySem.W.fnOf "note_changed" "note_changed" (defArgs s_note_changed) (defBody s_note_changed) (defScope s_note_changed) .none kV2 dc2 pm2 an2 cd2 ct2), sl2⟩) (c2 : PySem.W.codeIn K cd2 "note_changed"=true) (k2 : PySem.W.keepIn K (.ref f2)=true)
    (a3 : PySem.W.nsIn K mainGlobals "bar_changed"=some (some (.ref f3))) (l3 : K.lookup f3=some ⟨oc3, od3, .func (PySem.W.fnOf "bar_changed" "bar_changed" (defArgs s_bar_changed) (defBody s_bar_changed) (defScope s_bar_changed) .none kV3 dc3 pm3 an3 cd3 ct3), sl3⟩) (c3 : PySem.W.codeIn K cd3 "bar_changed"=true) (k3 : PySem.W.keepIn K (.ref f3)=true)
    (a4 : PySem.W.nsIn K mainGlobals "changed"=some (some (.ref f4))) (l4 : K.lookup f4=some ⟨oc4, od4, .func (PySem.W.fnOf "changed" "changed" (defArgs s_changed) (defBody s_changed) (defScope s_changed) .none kV4 dc4 pm4 an4 cd4 ct4), sl4⟩) (c4 : PySem.W.codeIn K cd4 "changed"=true) (k4 : PySem.W.keepIn K (.ref f4)=true)
    (a5 : PySem.W.nsIn K mainGlobals "sounds"=some (some (.ref f5))) (l5 : K.lookup f5=some ⟨oc5, od5, .func (PySem.W.fnOf "sounds" "sounds" (defArgs s_sounds) (defBody s_sounds) (defScope s_sounds) .none kV5 dc5 pm5 an5 (.ref c_lam_sounds) ct5), sl5⟩) (c5 : PySem.W.codeIn K (.ref c_lam_sounds) "sounds"=true) (k5 : PySem.W.keepIn K (.ref f5)=true)
    (a6 : PySem.W.nsIn K mainGlobals "checked_commas"=some (some (.ref f6))) (l6 : K.lookup f6=some ⟨oc6, od6, .func (PySem.W.fnOf "checked_commas" "checked_commas" (defArgs s_checked_commas) (defBody s_checked_commas) (defScope s_checked_commas) .none kV6 dc6 pm6 an6 cd6 ct6), sl6⟩) (c6 : PySem.W.codeIn K cd6 "checked_commas"=true) (k6 : PySem.W.keepIn K (.ref f6)=true)
    (a7 : PySem.W.nsIn K mainGlobals "lead_place"=some (some (.ref f7))) (l7 : K.lookup f7=some ⟨oc7, od7, .func (PySem.W.fnOf "lead_place" "lead_place" (defArgs s_lead_place) (defBody s_lead_place) (defScope s_lead_place) .none kV7 dc7 pm7 an7 cd7 ct7), sl7⟩) (c7 : PySem.W.codeIn K cd7 "lead_place"=true) (k7 : PySem.W.keepIn K (.ref f7)=true)
    (a8 : PySem.W.nsIn K mainGlobals "lowered"=some (some (.ref f8))) (l8 : K.lookup f8=some ⟨oc8, od8, .func (PySem.W.fnOf "lowered" "lowered" (defArgs s_lowered) (defBody s_lowered) (defScope s_lowered) .none kV8 dc8 pm8 an8 cd8 ct8), sl8⟩) (c8 : PySem.W.codeIn K cd8 "lowered"=true) (k8 : PySem.W.keepIn K (.ref f8)=true)
    (a9 : PySem.W.nsIn K mainGlobals "parted"=some (some (.ref f9))) (l9 : K.lookup f9=some ⟨oc9, od9, .func (PySem.W.fnOf "parted" "parted" (defArgs s_parted) (defBody s_parted) (defScope s_parted) .none kV9 dc9 pm9 an9 (.ref c_lam_parted) ct9), sl9⟩) (c9 : PySem.W.codeIn K (.ref c_lam_parted) "parted"=true) (k9 : PySem.W.keepIn K (.ref f9)=true)
    (a10 : PySem.W.nsIn K mainGlobals "stepped"=some (some (.ref f10))) (l10 : K.lookup f10=some ⟨oc10, od10, .func (PySem.W.fnOf "stepped" "stepped" (defArgs s_stepped) (defBody s_stepped) (defScope s_stepped) .none kV10 dc10 pm10 an10 cd10 ct10), sl10⟩) (c10 : PySem.W.codeIn K cd10 "stepped"=true) (k10 : PySem.W.keepIn K (.ref f10)=true)
    (a11 : PySem.W.nsIn K mainGlobals "table"=some (some (.ref f11))) (l11 : K.lookup f11=some ⟨oc11, od11, .func (PySem.W.fnOf "table" "table" (defArgs s_table) (defBody s_table) (defScope s_table) .none kV11 dc11 pm11 an11 cd11 ct11), sl11⟩) (c11 : PySem.W.codeIn K cd11 "table"=true) (k11 : PySem.W.keepIn K (.ref f11)=true)
    (a12 : PySem.W.nsIn K mainGlobals "left_by"=some (some (.ref f12))) (l12 : K.lookup f12=some ⟨oc12, od12, .func (PySem.W.fnOf "left_by" "left_by" (defArgs s_left_by) (defBody s_left_by) (defScope s_left_by) .none kV12 dc12 pm12 an12 cd12 ct12), sl12⟩) (c12 : PySem.W.codeIn K cd12 "left_by"=true) (k12 : PySem.W.keepIn K (.ref f12)=true)
    (a13 : PySem.W.nsIn K mainGlobals "heard"=some (some (.ref f13))) (l13 : K.lookup f13=some ⟨oc13, od13, .func (PySem.W.fnOf "heard" "heard" (defArgs s_heard) (defBody s_heard) (defScope s_heard) .none kV13 dc13 pm13 an13 cd13 ct13), sl13⟩) (c13 : PySem.W.codeIn K cd13 "heard"=true) (k13 : PySem.W.keepIn K (.ref f13)=true)
    (a14 : PySem.W.nsIn K mainGlobals "value"=some (some (.ref f14))) (l14 : K.lookup f14=some ⟨oc14, od14, .func (PySem.W.fnOf "value" "value" (defArgs s_value) (defBody s_value) (defScope s_value) .none kV14 dc14 pm14 an14 cd14 ct14), sl14⟩) (c14 : PySem.W.codeIn K cd14 "value"=true) (k14 : PySem.W.keepIn K (.ref f14)=true)
    (a15 : PySem.W.nsIn K mainGlobals "checked_keys"=some (some (.ref f15))) (l15 : K.lookup f15=some ⟨oc15, od15, .func (PySem.W.fnOf "checked_keys" "checked_keys" (defArgs s_checked_keys) (defBody s_checked_keys) (defScope s_checked_keys) .none kV15 dc15 pm15 an15 cd15 ct15), sl15⟩) (c15 : PySem.W.codeIn K cd15 "checked_keys"=true) (k15 : PySem.W.keepIn K (.ref f15)=true)
    (a16 : PySem.W.nsIn K mainGlobals "values"=some (some (.ref f16))) (l16 : K.lookup f16=some ⟨oc16, od16, .func (PySem.W.fnOf "values" "values" (defArgs s_values) (defBody s_values) (defScope s_values) .none kV16 dc16 pm16 an16 cd16 ct16), sl16⟩) (c16 : PySem.W.codeIn K cd16 "values"=true) (k16 : PySem.W.keepIn K (.ref f16)=true)
    (a17 : PySem.W.nsIn K mainGlobals "_law_cell_at"=some (some (.ref f17))) (l17 : K.lookup f17=some ⟨oc17, od17, .func (PySem.W.fnOf "_law_cell_at" "_law_cell_at" (defArgs s_law_cell_at) (defBody s_law_cell_at) (defScope s_law_cell_at) .none kV17 dc17 pm17 an17 cd17 ct17), sl17⟩) (c17 : PySem.W.codeIn K cd17 "_law_cell_at"=true) (k17 : PySem.W.keepIn K (.ref f17)=true)
    (a18 : PySem.W.nsIn K mainGlobals "_law_lowest"=some (some (.ref f18))) (l18 : K.lookup f18=some ⟨oc18, od18, .func (PySem.W.fnOf "_law_lowest" "_law_lowest" (defArgs s_law_lowest) (defBody s_law_lowest) (defScope s_law_lowest) .none kV18 dc18 pm18 an18 cd18 ct18), sl18⟩) (c18 : PySem.W.codeIn K cd18 "_law_lowest"=true) (k18 : PySem.W.keepIn K (.ref f18)=true)
    (a19 : PySem.W.nsIn K mainGlobals "_law_mixed"=some (some (.ref f19))) (l19 : K.lookup f19=some ⟨oc19, od19, .func (PySem.W.fnOf "_law_mixed" "_law_mixed" (defArgs s_law_mixed) (defBody s_law_mixed) (defScope s_law_mixed) .none kV19 dc19 pm19 an19 cd19 ct19), sl19⟩) (c19 : PySem.W.codeIn K cd19 "_law_mixed"=true) (k19 : PySem.W.keepIn K (.ref f19)=true)
    (a20 : PySem.W.nsIn K mainGlobals "_law_alike"=some (some (.ref f20))) (l20 : K.lookup f20=some ⟨oc20, od20, .func (PySem.W.fnOf "_law_alike" "_law_alike" (defArgs s_law_alike) (defBody s_law_alike) (defScope s_law_alike) .none kV20 dc20 pm20 an20 cd20 ct20), sl20⟩) (c20 : PySem.W.codeIn K cd20 "_law_alike"=true) (k20 : PySem.W.keepIn K (.ref f20)=true)
    (a21 : PySem.W.nsIn K mainGlobals "_law_name_row"=some (some (.ref f21))) (l21 : K.lookup f21=some ⟨oc21, od21, .func (PySem.W.fnOf "_law_name_row" "_law_name_row" (defArgs s_law_name_row) (defBody s_law_name_row) (defScope s_law_name_row) .none kV21 dc21 pm21 an21 cd21 ct21), sl21⟩) (c21 : PySem.W.codeIn K cd21 "_law_name_row"=true) (k21 : PySem.W.keepIn K (.ref f21)=true)
    (a22 : PySem.W.nsIn K mainGlobals "_law_pieces"=some (some (.ref f22))) (l22 : K.lookup f22=some ⟨oc22, od22, .func (PySem.W.fnOf "_law_pieces" "_law_pieces" (defArgs s_law_pieces) (defBody s_law_pieces) (defScope s_law_pieces) .none kV22 dc22 pm22 an22 cd22 ct22), sl22⟩) (c22 : PySem.W.codeIn K cd22 "_law_pieces"=true) (k22 : PySem.W.keepIn K (.ref f22)=true)
    (a23 : PySem.W.nsIn K mainGlobals "_law_tune"=some (some (.ref f23))) (l23 : K.lookup f23=some ⟨oc23, od23, .func (PySem.W.fnOf "_law_tune" "_law_tune" (defArgs s_law_tune) (defBody s_law_tune) (defScope s_law_tune) .none kV23 dc23 pm23 an23 cd23 ct23), sl23⟩) (c23 : PySem.W.codeIn K cd23 "_law_tune"=true) (k23 : PySem.W.keepIn K (.ref f23)=true)
    (a24 : PySem.W.nsIn K mainGlobals "_law_copy"=some (some (.ref f24))) (l24 : K.lookup f24=some ⟨oc24, od24, .func (PySem.W.fnOf "_law_copy" "_law_copy" (defArgs s_law_copy) (defBody s_law_copy) (defScope s_law_copy) .none kV24 dc24 pm24 an24 cd24 ct24), sl24⟩) (c24 : PySem.W.codeIn K cd24 "_law_copy"=true) (k24 : PySem.W.keepIn K (.ref f24)=true)
    (a25 : PySem.W.nsIn K mainGlobals "_law_steps"=some (some (.ref f25))) (l25 : K.lookup f25=some ⟨oc25, od25, .func (PySem.W.fnOf "_law_steps" "_law_steps" (defArgs s_law_steps) (defBody s_law_steps) (defScope s_law_steps) .none kV25 dc25 pm25 an25 cd25 ct25), sl25⟩) (c25 : PySem.W.codeIn K cd25 "_law_steps"=true) (k25 : PySem.W.keepIn K (.ref f25)=true)
    (a26 : PySem.W.nsIn K mainGlobals "_law_rest"=some (some (.ref f26))) (l26 : K.lookup f26=some ⟨oc26, od26, .func (PySem.W.fnOf "_law_rest" "_law_rest" (defArgs s_law_rest) (defBody s_law_rest) (defScope s_law_rest) .none kV26 dc26 pm26 an26 cd26 ct26), sl26⟩) (c26 : PySem.W.codeIn K cd26 "_law_rest"=true) (k26 : PySem.W.keepIn K (.ref f26)=true)
    (a27 : PySem.W.nsIn K mainGlobals "_law_commas"=some (some (.ref f27))) (l27 : K.lookup f27=some ⟨oc27, od27, .func (PySem.W.fnOf "_law_commas" "_law_commas" (defArgs s_law_commas) (defBody s_law_commas) (defScope s_law_commas) .none kV27 dc27 pm27 an27 cd27 ct27), sl27⟩) (c27 : PySem.W.codeIn K cd27 "_law_commas"=true) (k27 : PySem.W.keepIn K (.ref f27)=true)
    (a28 : PySem.W.nsIn K mainGlobals "_law_value"=some (some (.ref f28))) (l28 : K.lookup f28=some ⟨oc28, od28, .func (PySem.W.fnOf "_law_value" "_law_value" (defArgs s_law_value) (defBody s_law_value) (defScope s_law_value) .none kV28 dc28 pm28 an28 cd28 ct28), sl28⟩) (c28 : PySem.W.codeIn K cd28 "_law_value"=true) (k28 : PySem.W.keepIn K (.ref f28)=true)
    (a29 : PySem.W.nsIn K mainGlobals "_law_keys"=some (some (.ref f29))) (l29 : K.lookup f29=some ⟨oc29, od29, .func (PySem.W.fnOf "_law_keys" "_law_keys" (defArgs s_law_keys) (defBody s_law_keys) (defScope s_law_keys) .none kV29 dc29 pm29 an29 cd29 ct29), sl29⟩) (c29 : PySem.W.codeIn K cd29 "_law_keys"=true) (k29 : PySem.W.keepIn K (.ref f29)=true)
    (a30 : PySem.W.nsIn K mainGlobals "_law_told"=some (some (.ref f30))) (l30 : K.lookup f30=some ⟨oc30, od30, .func (PySem.W.fnOf "_law_told" "_law_told" (defArgs s_law_told) (defBody s_law_told) (defScope s_law_told) .none kV30 dc30 pm30 an30 cd30 ct30), sl30⟩) (c30 : PySem.W.codeIn K cd30 "_law_told"=true) (k30 : PySem.W.keepIn K (.ref f30)=true)
    (a31 : PySem.W.nsIn K mainGlobals "_law_sound"=some (some (.ref f31))) (l31 : K.lookup f31=some ⟨oc31, od31, .func (PySem.W.fnOf "_law_sound" "_law_sound" (defArgs s_law_sound) (defBody s_law_sound) (defScope s_law_sound) .none kV31 dc31 pm31 an31 cd31 ct31), sl31⟩) (c31 : PySem.W.codeIn K cd31 "_law_sound"=true) (k31 : PySem.W.keepIn K (.ref f31)=true)
    (a32 : PySem.W.nsIn K mainGlobals "_law_tuning"=some (some (.ref f32))) (l32 : K.lookup f32=some ⟨oc32, od32, .func (PySem.W.fnOf "_law_tuning" "_law_tuning" (defArgs s_law_tuning) (defBody s_law_tuning) (defScope s_law_tuning) .none kV32 dc32 pm32 an32 cd32 ct32), sl32⟩) (c32 : PySem.W.codeIn K cd32 "_law_tuning"=true) (k32 : PySem.W.keepIn K (.ref f32)=true)
    (a33 : PySem.W.nsIn K mainGlobals "law"=some (some (.ref f33))) (l33 : K.lookup f33=some ⟨oc33, od33, .func (PySem.W.fnOf "law" "law" (defArgs s_law) (defBody s_law) (defScope s_law) .none kV33 dc33 pm33 an33 cd33 ct33), sl33⟩) (c33 : PySem.W.codeIn K cd33 "law"=true) (k33 : PySem.W.keepIn K (.ref f33)=true)
    (a34 : PySem.W.findIn K (.ref u_Tuning) "sound"=some (some (.ref f34))) (l34 : K.lookup f34=some ⟨oc34, od34, .func (PySem.W.fnOf "sound" "Tuning.sound" (defArgs s_Tuning_sound) (defBody s_Tuning_sound) (defScope s_Tuning_sound) .none kV34 dc34 pm34 an34 cd34 ct34), sl34⟩) (c34 : PySem.W.codeIn K cd34 "Tuning.sound"=true) (k34 : PySem.W.keepIn K (.ref f34)=true) (i34 : PySem.W.isFn K (.ref f34)=true)
    (a35 : PySem.W.findIn K (.ref u_CommaTuning) "__init__"=some (some (.ref f35))) (l35 : K.lookup f35=some ⟨oc35, od35, .func (PySem.W.fnOf "__init__" "CommaTuning.__init__" (defArgs s_CommaTuning_init) (defBody s_CommaTuning_init) (defScope s_CommaTuning_init) .none kV35 dc35 pm35 an35 cd35 ct35), sl35⟩) (c35 : PySem.W.codeIn K cd35 "CommaTuning.__init__"=true) (k35 : PySem.W.keepIn K (.ref f35)=true) (i35 : PySem.W.isFn K (.ref f35)=true)
    (a36 : PySem.W.findIn K (.ref u_CommaTuning) "sound"=some (some (.ref f36))) (l36 : K.lookup f36=some ⟨oc36, od36, .func (PySem.W.fnOf "sound" "CommaTuning.sound" (defArgs s_CommaTuning_sound) (defBody s_CommaTuning_sound) (defScope s_CommaTuning_sound) .none kV36 dc36 pm36 an36 cd36 ct36), sl36⟩) (c36 : PySem.W.codeIn K cd36 "CommaTuning.sound"=true) (k36 : PySem.W.keepIn K (.ref f36)=true) (i36 : PySem.W.isFn K (.ref f36)=true)
    (a37 : PySem.W.findIn K (.ref u_KeyTuning) "__init__"=some (some (.ref f37))) (l37 : K.lookup f37=some ⟨oc37, od37, .func (PySem.W.fnOf "__init__" "KeyTuning.__init__" (defArgs s_KeyTuning_init) (defBody s_KeyTuning_init) (defScope s_KeyTuning_init) .none kV37 dc37 pm37 an37 cd37 ct37), sl37⟩) (c37 : PySem.W.codeIn K cd37 "KeyTuning.__init__"=true) (k37 : PySem.W.keepIn K (.ref f37)=true) (i37 : PySem.W.isFn K (.ref f37)=true)
    (a38 : PySem.W.findIn K (.ref u_KeyTuning) "sound"=some (some (.ref f38))) (l38 : K.lookup f38=some ⟨oc38, od38, .func (PySem.W.fnOf "sound" "KeyTuning.sound" (defArgs s_KeyTuning_sound) (defBody s_KeyTuning_sound) (defScope s_KeyTuning_sound) .none kV38 dc38 pm38 an38 cd38 ct38), sl38⟩) (c38 : PySem.W.codeIn K cd38 "KeyTuning.sound"=true) (k38 : PySem.W.keepIn K (.ref f38)=true) (i38 : PySem.W.isFn K (.ref f38)=true)
    (a39 : PySem.W.findIn K (.ref u_Board) "__init__"=some (some (.ref f39))) (l39 : K.lookup f39=some ⟨oc39, od39, .func (PySem.W.fnOf "__init__" "Board.__init__" (defArgs s_Board_init) (defBody s_Board_init) (defScope s_Board_init) .none kV39 dc39 pm39 an39 cd39 ct39), sl39⟩) (c39 : PySem.W.codeIn K cd39 "Board.__init__"=true) (k39 : PySem.W.keepIn K (.ref f39)=true) (i39 : PySem.W.isFn K (.ref f39)=true)
    (a40 : PySem.W.findIn K (.ref u_Board) "sound"=some (some (.ref f40))) (l40 : K.lookup f40=some ⟨oc40, od40, .func (PySem.W.fnOf "sound" "Board.sound" (defArgs s_Board_sound) (defBody s_Board_sound) (defScope s_Board_sound) .none kV40 dc40 pm40 an40 cd40 ct40), sl40⟩) (c40 : PySem.W.codeIn K cd40 "Board.sound"=true) (k40 : PySem.W.keepIn K (.ref f40)=true) (i40 : PySem.W.isFn K (.ref f40)=true)
     (p1_Tuning : PySem.W.plainGet K u_Tuning Str.empty=true) (p2_Tuning : PySem.W.hasDictIn K u_Tuning=true) (p3_Tuning : PySem.W.plainOver K u_Tuning=true) (p4_Tuning : PySem.W.findIn K (.ref u_Tuning) "__setattr__"=some (some (.builtin "object.__setattr__"))) (p5_Tuning : PySem.W.makesIn K u_Tuning=true) (p6_Tuning : PySem.W.keepIn K (.ref u_Tuning)=true) (p7_Tuning : PySem.W.findIn K (.ref u_Tuning) "__init__"=some (some (.builtin "object.__init__"))) (po1_Tuning : PySem.W.findIn K (.ref u_Tuning) "__class__"=some (some (.builtin "object.__class__"))) (po2_Tuning : PySem.W.specialIn K (.builtin "object.__class__") "__get__"=some (some (.builtin "getset_descriptor.__get__"))) (po3_Tuning : PySem.W.takesIn K (.builtin "object.__class__")=some true) (po4_Tuning : PySem.W.mroIn K u_Tuning (.type "object")=some true) (pm_Tuning_sound : PySem.W.findIn K (.ref u_Tuning) "sound"=some (some (.ref f34))) (p1_CommaTuning : PySem.W.plainGet K u_CommaTuning Str.empty=true) (p2_CommaTuning : PySem.W.hasDictIn K u_CommaTuning=true) (p3_CommaTuning : PySem.W.plainOver K u_CommaTuning=true) (p4_CommaTuning : PySem.W.findIn K (.ref u_CommaTuning) "__setattr__"=some (some (.builtin "object.__setattr__"))) (p5_CommaTuning : PySem.W.makesIn K u_CommaTuning=true) (p6_CommaTuning : PySem.W.keepIn K (.ref u_CommaTuning)=true) (p7_CommaTuning : PySem.W.findIn K (.ref u_CommaTuning) "__init__"=some (some (.ref f35))) (po1_CommaTuning : PySem.W.findIn K (.ref u_CommaTuning) "__class__"=some (some (.builtin "object.__class__"))) (po2_CommaTuning : PySem.W.specialIn K (.builtin "object.__class__") "__get__"=some (some (.builtin "getset_descriptor.__get__"))) (po3_CommaTuning : PySem.W.takesIn K (.builtin "object.__class__")=some true) (po4_CommaTuning : PySem.W.mroIn K u_CommaTuning (.type "object")=some true) (pm_CommaTuning_sound : PySem.W.findIn K (.ref u_CommaTuning) "sound"=some (some (.ref f36))) (pn_CommaTuning_steps : PySem.W.findIn K (.ref u_CommaTuning) "steps"=some none) (p1_KeyTuning : PySem.W.plainGet K u_KeyTuning Str.empty=true) (p2_KeyTuning : PySem.W.hasDictIn K u_KeyTuning=true) (p3_KeyTuning : PySem.W.plainOver K u_KeyTuning=true) (p4_KeyTuning : PySem.W.findIn K (.ref u_KeyTuning) "__setattr__"=some (some (.builtin "object.__setattr__"))) (p5_KeyTuning : PySem.W.makesIn K u_KeyTuning=true) (p6_KeyTuning : PySem.W.keepIn K (.ref u_KeyTuning)=true) (p7_KeyTuning : PySem.W.findIn K (.ref u_KeyTuning) "__init__"=some (some (.ref f37))) (po1_KeyTuning : PySem.W.findIn K (.ref u_KeyTuning) "__class__"=some (some (.builtin "object.__class__"))) (po2_KeyTuning : PySem.W.specialIn K (.builtin "object.__class__") "__get__"=some (some (.builtin "getset_descriptor.__get__"))) (po3_KeyTuning : PySem.W.takesIn K (.builtin "object.__class__")=some true) (po4_KeyTuning : PySem.W.mroIn K u_KeyTuning (.type "object")=some true) (pm_KeyTuning_sound : PySem.W.findIn K (.ref u_KeyTuning) "sound"=some (some (.ref f38))) (pj_KeyTuning_KeyTuning_init : PySem.W.readsIn K u_KeyTuning (.type "type")=true) (pk_KeyTuning_KeyTuning_init : PySem.W.findCls K (.ref u_KeyTuning) (.type "type") "__init__"=some (.val (.ref f37))) (pl_KeyTuning_KeyTuning_init : PySem.W.specialIn K (.ref u_KeyTuning) "__getattribute__"=some (some (.builtin "type.__getattribute__"))) (pn_KeyTuning_own_keys : PySem.W.findIn K (.ref u_KeyTuning) "own_keys"=some none) (p1_Board : PySem.W.plainGet K u_Board Str.empty=true) (p2_Board : PySem.W.hasDictIn K u_Board=true) (p3_Board : PySem.W.plainOver K u_Board=true) (p4_Board : PySem.W.findIn K (.ref u_Board) "__setattr__"=some (some (.builtin "object.__setattr__"))) (p5_Board : PySem.W.makesIn K u_Board=true) (p6_Board : PySem.W.keepIn K (.ref u_Board)=true) (p7_Board : PySem.W.findIn K (.ref u_Board) "__init__"=some (some (.ref f39))) (po1_Board : PySem.W.findIn K (.ref u_Board) "__class__"=some (some (.builtin "object.__class__"))) (po2_Board : PySem.W.specialIn K (.builtin "object.__class__") "__get__"=some (some (.builtin "getset_descriptor.__get__"))) (po3_Board : PySem.W.takesIn K (.builtin "object.__class__")=some true) (po4_Board : PySem.W.mroIn K u_Board (.type "object")=some true) (pm_Board_sound : PySem.W.findIn K (.ref u_Board) "sound"=some (some (.ref f40))) (pn_Board_own_keys : PySem.W.findIn K (.ref u_Board) "own_keys"=some none) (pn_Board_octave : PySem.W.findIn K (.ref u_Board) "octave"=some none)
     (x_MOST_COMMAS : PySem.W.nsIn K mainGlobals "MOST_COMMAS"=some (some (.int 6 t_MOST_COMMAS))) (x_MOST_KEYS : PySem.W.nsIn K mainGlobals "MOST_KEYS"=some (some (.int 6 t_MOST_KEYS))) (x_WIDTH : PySem.W.nsIn K mainGlobals "WIDTH"=some (some (.int 5 t_WIDTH))) (x_NoBoard : PySem.W.nsIn K mainGlobals "NoBoard"=some (some (.ref u_NoBoard))) (k1_NoBoard : PySem.W.typeIn K (.ref u_NoBoard)=some (.type "type")) (k2_NoBoard : PySem.W.clsIn K u_NoBoard=some cd_NoBoard) (k3_NoBoard : PySem.W.subIn K (.ref u_NoBoard) (.type "BaseException")=some true) (k4_NoBoard : PySem.W.findIn K (.ref u_NoBoard) "__getattribute__"=some (some (.builtin "BaseException.__getattribute__"))) (k5_NoBoard : PySem.W.findIn K (.ref u_NoBoard) "__getattr__"=some none) (k6_NoBoard : PySem.W.findIn K (.ref u_NoBoard) "__class__"=some (some (.builtin "object.__class__"))) (k7_NoBoard : PySem.W.specialIn K (.builtin "object.__class__") "__get__"=some (some (.builtin "getset_descriptor.__get__"))) (k8_NoBoard : PySem.W.takesIn K (.builtin "object.__class__")=some true) (k9_NoBoard : PySem.W.mroIn K u_NoBoard (.type "object")=some true) (kx_NoBoard : PySem.W.excIn K u_NoBoard [.type "ValueError", .type "Exception", .type "BaseException", .type "object"] "ValueError.__new__"=true) (z_abs : PySem.W.nsIn K mainGlobals "abs"=some none) (z_bool : PySem.W.nsIn K mainGlobals "bool"=some none) (z_enumerate : PySem.W.nsIn K mainGlobals "enumerate"=some none) (z_int : PySem.W.nsIn K mainGlobals "int"=some none) (z_isinstance : PySem.W.nsIn K mainGlobals "isinstance"=some none) (z_len : PySem.W.nsIn K mainGlobals "len"=some none) (z_list : PySem.W.nsIn K mainGlobals "list"=some none) (z_max : PySem.W.nsIn K mainGlobals "max"=some none) (z_range : PySem.W.nsIn K mainGlobals "range"=some none) (z_sorted : PySem.W.nsIn K mainGlobals "sorted"=some none) (z_str : PySem.W.nsIn K mainGlobals "str"=some none) (z_sum : PySem.W.nsIn K mainGlobals "sum"=some none) (z_tuple : PySem.W.nsIn K mainGlobals "tuple"=some none) (z_zip : PySem.W.nsIn K mainGlobals "zip"=some none) :
    ∃ fd : FuncData, (∀ (s : Shared) (v : Value), BindsTo s fd ⟨[v], []⟩ [("_law_script", v)]) ∧ ∀ base : Heap, K.In base → base.Ns mainGlobals mg → PySem.W.CodeHd base c_lam_parted P_lam_parted → base.BuiltinsAt mg P_lam_parted → PySem.W.CodeHd base c_lam_sounds P_lam_sounds → base.BuiltinsAt mg P_lam_sounds → base.NoSeer → FnOk l.prog w K mg base CX0 43 fa fd ["_law_script"] ((spLawTs fun K => [((tabP K "parted"), lpP, "parted.<locals>.<lambda>"), ((tabP K "sounds"), sdL, "sounds.<locals>.<lambda>")]) K) := by
  have e := hfa.symm.trans (PySem.W.mg_of X G0 a33)
  cases e
  have T : Txt K mg ⟨u_NoBoard, u_Tuning, u_CommaTuning, u_KeyTuning, u_Board, f34, f35, f36, f37, f38, f39, f40, t_MOST_COMMAS, t_MOST_KEYS, t_WIDTH, c_lam_parted, c_lam_sounds⟩ := ⟨PySem.W.mg_none_of X G0 z_abs, PySem.W.mg_none_of X G0 z_bool, PySem.W.mg_none_of X G0 z_enumerate, PySem.W.mg_none_of X G0 z_int, PySem.W.mg_none_of X G0 z_isinstance, PySem.W.mg_none_of X G0 z_len, PySem.W.mg_none_of X G0 z_list, PySem.W.mg_none_of X G0 z_max, PySem.W.mg_none_of X G0 z_range, PySem.W.mg_none_of X G0 z_sorted, PySem.W.mg_none_of X G0 z_str, PySem.W.mg_none_of X G0 z_sum, PySem.W.mg_none_of X G0 z_tuple, PySem.W.mg_none_of X G0 z_zip, PySem.W.mg_of X G0 x_MOST_COMMAS, PySem.W.mg_of X G0 x_MOST_KEYS, PySem.W.mg_of X G0 x_WIDTH, PySem.W.mg_of X G0 x_NoBoard, x_NoBoard, HCls.mk' k1_NoBoard k2_NoBoard k3_NoBoard, XCls.mk' k4_NoBoard k5_NoBoard k2_NoBoard k6_NoBoard k7_NoBoard k8_NoBoard k9_NoBoard k3_NoBoard, kx_NoBoard, PySem.W.mg_of X G0 x_Tuning, x_Tuning, ⟨p1_Tuning, p2_Tuning, p3_Tuning, p4_Tuning⟩, ⟨p5_Tuning, p7_Tuning, p6_Tuning⟩, ⟨po1_Tuning, po2_Tuning, po3_Tuning, po4_Tuning⟩, ⟨pm_Tuning_sound, i34, k34⟩, PySem.W.mg_of X G0 x_CommaTuning, x_CommaTuning, ⟨p1_CommaTuning, p2_CommaTuning, p3_CommaTuning, p4_CommaTuning⟩, ⟨p5_CommaTuning, p7_CommaTuning, i35, p6_CommaTuning⟩, ⟨po1_CommaTuning, po2_CommaTuning, po3_CommaTuning, po4_CommaTuning⟩, ⟨pm_CommaTuning_sound, i36, k36⟩, pn_CommaTuning_steps, PySem.W.mg_of X G0 x_KeyTuning, x_KeyTuning, ⟨p1_KeyTuning, p2_KeyTuning, p3_KeyTuning, p4_KeyTuning⟩, ⟨p5_KeyTuning, p7_KeyTuning, i37, p6_KeyTuning⟩, ⟨po1_KeyTuning, po2_KeyTuning, po3_KeyTuning, po4_KeyTuning⟩, ⟨pm_KeyTuning_sound, i38, k38⟩, ⟨pj_KeyTuning_KeyTuning_init, pk_KeyTuning_KeyTuning_init, pl_KeyTuning_KeyTuning_init⟩, pn_KeyTuning_own_keys, PySem.W.mg_of X G0 x_Board, x_Board, ⟨p1_Board, p2_Board, p3_Board, p4_Board⟩, ⟨p5_Board, p7_Board, i39, p6_Board⟩, ⟨po1_Board, po2_Board, po3_Board, po4_Board⟩, ⟨pm_Board_sound, i40, k40⟩, pn_Board_own_keys, pn_Board_octave⟩
  have F0 := fun_mk (st := s_over) l0 c0 k0
  have D_over : Def K mg "over" s_over ["one", "other"] := ⟨_, _, F0, PySem.W.mg_of X G0 a0, F0.binds (ps := ["one", "other"]) fun _ _ _ _ _ _ us hl => of_len2 us hl fun _ _ => rfl⟩
  have F1 := fun_mk (st := s_power) l1 c1 k1
  have D_power : Def K mg "power" s_power ["row", "n"] := ⟨_, _, F1, PySem.W.mg_of X G0 a1, F1.binds (ps := ["row", "n"]) fun _ _ _ _ _ _ us hl => of_len2 us hl fun _ _ => rfl⟩
  have F2 := fun_mk (st := s_note_changed) l2 c2 k2
  have D_note_changed : Def K mg "note_changed" s_note_changed ["note", "change"] := ⟨_, _, F2, PySem.W.mg_of X G0 a2, F2.binds (ps := ["note", "change"]) fun _ _ _ _ _ _ us hl => of_len2 us hl fun _ _ => rfl⟩
  have F3 := fun_mk (st := s_bar_changed) l3 c3 k3
  have D_bar_changed : Def K mg "bar_changed" s_bar_changed ["bar", "change"] := ⟨_, _, F3, PySem.W.mg_of X G0 a3, F3.binds (ps := ["bar", "change"]) fun _ _ _ _ _ _ us hl => of_len2 us hl fun _ _ => rfl⟩
  have F4 := fun_mk (st := s_changed) l4 c4 k4
  have D_changed : Def K mg "changed" s_changed ["tune", "change"] := ⟨_, _, F4, PySem.W.mg_of X G0 a4, F4.binds (ps := ["tune", "change"]) fun _ _ _ _ _ _ us hl => of_len2 us hl fun _ _ => rfl⟩
  have D_sounds : DefT K mg "sounds" s_sounds ["tuning", "tune"] c_lam_sounds := ⟨_, _, _, _, _, _, _, _, _, _, rfl, l5, c5, k5, PySem.W.mg_of X G0 a5, .all fun us hl => match us, hl with|[_, _], _ => rfl⟩
  have F6 := fun_mk (st := s_checked_commas) l6 c6 k6
  have D_checked_commas : Def K mg "checked_commas" s_checked_commas ["commas"] := ⟨_, _, F6, PySem.W.mg_of X G0 a6, F6.binds (ps := ["commas"]) fun _ _ _ _ _ _ us hl => of_len1 us hl fun _ => rfl⟩
  have F7 := fun_mk (st := s_lead_place) l7 c7 k7
  have D_lead_place : Def K mg "lead_place" s_lead_place ["row"] := ⟨_, _, F7, PySem.W.mg_of X G0 a7, F7.binds (ps := ["row"]) fun _ _ _ _ _ _ us hl => of_len1 us hl fun _ => rfl⟩
  have F8 := fun_mk (st := s_lowered) l8 c8 k8
  have D_lowered : Def K mg "lowered" s_lowered ["vector", "step", "place"] := ⟨_, _, F8, PySem.W.mg_of X G0 a8, F8.binds (ps := ["vector", "step", "place"]) fun _ _ _ _ _ _ us hl => of_len3 us hl fun _ _ _ => rfl⟩
  have D_parted : DefT K mg "parted" s_parted ["vectors", "place"] c_lam_parted := ⟨_, _, _, _, _, _, _, _, _, _, rfl, l9, c9, k9, PySem.W.mg_of X G0 a9, .all fun us hl => match us, hl with|[_, _], _ => rfl⟩
  have F10 := fun_mk (st := s_stepped) l10 c10 k10
  have D_stepped : Def K mg "stepped" s_stepped ["vectors", "size"] := ⟨_, _, F10, PySem.W.mg_of X G0 a10, F10.binds (ps := ["vectors", "size"]) fun _ _ _ _ _ _ us hl => of_len2 us hl fun _ _ => rfl⟩
  have F11 := fun_mk (st := s_table) l11 c11 k11
  have D_table : Def K mg "table" s_table ["commas"] := ⟨_, _, F11, PySem.W.mg_of X G0 a11, F11.binds (ps := ["commas"]) fun _ _ _ _ _ _ us hl => of_len1 us hl fun _ => rfl⟩
  have F12 := fun_mk (st := s_left_by) l12 c12 k12
  have D_left_by : Def K mg "left_by" s_left_by ["steps", "vector"] := ⟨_, _, F12, PySem.W.mg_of X G0 a12, F12.binds (ps := ["steps", "vector"]) fun _ _ _ _ _ _ us hl => of_len2 us hl fun _ _ => rfl⟩
  have F13 := fun_mk (st := s_heard) l13 c13 k13
  have D_heard : Def K mg "heard" s_heard ["weights", "row"] := ⟨_, _, F13, PySem.W.mg_of X G0 a13, F13.binds (ps := ["weights", "row"]) fun _ _ _ _ _ _ us hl => of_len2 us hl fun _ _ => rfl⟩
  have F14 := fun_mk (st := s_value) l14 c14 k14
  have D_value : Def K mg "value" s_value ["key", "row"] := ⟨_, _, F14, PySem.W.mg_of X G0 a14, F14.binds (ps := ["key", "row"]) fun _ _ _ _ _ _ us hl => of_len2 us hl fun _ _ => rfl⟩
  have F15 := fun_mk (st := s_checked_keys) l15 c15 k15
  have D_checked_keys : Def K mg "checked_keys" s_checked_keys ["keys"] := ⟨_, _, F15, PySem.W.mg_of X G0 a15, F15.binds (ps := ["keys"]) fun _ _ _ _ _ _ us hl => of_len1 us hl fun _ => rfl⟩
  have F16 := fun_mk (st := s_values) l16 c16 k16
  have D_values : Def K mg "values" s_values ["keys", "row"] := ⟨_, _, F16, PySem.W.mg_of X G0 a16, F16.binds (ps := ["keys", "row"]) fun _ _ _ _ _ _ us hl => of_len2 us hl fun _ _ => rfl⟩
  have F17 := fun_mk (st := s_law_cell_at) l17 c17 k17
  have D_law_cell_at : Def K mg "_law_cell_at" s_law_cell_at ["_law_script", "_law_k"] := ⟨_, _, F17, PySem.W.mg_of X G0 a17, F17.binds (ps := ["_law_script", "_law_k"]) fun _ _ _ _ _ _ us hl => of_len2 us hl fun _ _ => rfl⟩
  have F18 := fun_mk (st := s_law_lowest) l18 c18 k18
  have D_law_lowest : Def K mg "_law_lowest" s_law_lowest ["_law_top", "_law_bottom"] := ⟨_, _, F18, PySem.W.mg_of X G0 a18, F18.binds (ps := ["_law_top", "_law_bottom"]) fun _ _ _ _ _ _ us hl => of_len2 us hl fun _ _ => rfl⟩
  have F19 := fun_mk (st := s_law_mixed) l19 c19 k19
  have D_law_mixed : Def K mg "_law_mixed" s_law_mixed ["_law_cell", "_law_k"] := ⟨_, _, F19, PySem.W.mg_of X G0 a19, F19.binds (ps := ["_law_cell", "_law_k"]) fun _ _ _ _ _ _ us hl => of_len2 us hl fun _ _ => rfl⟩
  have F20 := fun_mk (st := s_law_alike) l20 c20 k20
  have D_law_alike : Def K mg "_law_alike" s_law_alike ["_law_found", "_law_due"] := ⟨_, _, F20, PySem.W.mg_of X G0 a20, F20.binds (ps := ["_law_found", "_law_due"]) fun _ _ _ _ _ _ us hl => of_len2 us hl fun _ _ => rfl⟩
  have F21 := fun_mk (st := s_law_name_row) l21 c21 k21
  have D_law_name_row : Def K mg "_law_name_row" s_law_name_row ["_law_mixed_here"] := ⟨_, _, F21, PySem.W.mg_of X G0 a21, F21.binds (ps := ["_law_mixed_here"]) fun _ _ _ _ _ _ us hl => of_len1 us hl fun _ => rfl⟩
  have F22 := fun_mk (st := s_law_pieces) l22 c22 k22
  have D_law_pieces : Def K mg "_law_pieces" s_law_pieces ["_law_cell", "_law_count", "_law_total"] := ⟨_, _, F22, PySem.W.mg_of X G0 a22, F22.binds (ps := ["_law_cell", "_law_count", "_law_total"]) fun _ _ _ _ _ _ us hl => of_len3 us hl fun _ _ _ => rfl⟩
  have F23 := fun_mk (st := s_law_tune) l23 c23 k23
  have D_law_tune : Def K mg "_law_tune" s_law_tune ["_law_script", "_law_at"] := ⟨_, _, F23, PySem.W.mg_of X G0 a23, F23.binds (ps := ["_law_script", "_law_at"]) fun _ _ _ _ _ _ us hl => of_len2 us hl fun _ _ => rfl⟩
  have F24 := fun_mk (st := s_law_copy) l24 c24 k24
  have D_law_copy : Def K mg "_law_copy" s_law_copy ["_law_tune_here"] := ⟨_, _, F24, PySem.W.mg_of X G0 a24, F24.binds (ps := ["_law_tune_here"]) fun _ _ _ _ _ _ us hl => of_len1 us hl fun _ => rfl⟩
  have F25 := fun_mk (st := s_law_steps) l25 c25 k25
  have D_law_steps : Def K mg "_law_steps" s_law_steps ["_law_script", "_law_at"] := ⟨_, _, F25, PySem.W.mg_of X G0 a25, F25.binds (ps := ["_law_script", "_law_at"]) fun _ _ _ _ _ _ us hl => of_len2 us hl fun _ _ => rfl⟩
  have F26 := fun_mk (st := s_law_rest) l26 c26 k26
  have D_law_rest : Def K mg "_law_rest" s_law_rest ["_law_steps_here", "_law_row"] := ⟨_, _, F26, PySem.W.mg_of X G0 a26, F26.binds (ps := ["_law_steps_here", "_law_row"]) fun _ _ _ _ _ _ us hl => of_len2 us hl fun _ _ => rfl⟩
  have F27 := fun_mk (st := s_law_commas) l27 c27 k27
  have D_law_commas : Def K mg "_law_commas" s_law_commas ["_law_steps_here", "_law_cell"] := ⟨_, _, F27, PySem.W.mg_of X G0 a27, F27.binds (ps := ["_law_steps_here", "_law_cell"]) fun _ _ _ _ _ _ us hl => of_len2 us hl fun _ _ => rfl⟩
  have F28 := fun_mk (st := s_law_value) l28 c28 k28
  have D_law_value : Def K mg "_law_value" s_law_value ["_law_w", "_law_ring", "_law_row"] := ⟨_, _, F28, PySem.W.mg_of X G0 a28, F28.binds (ps := ["_law_w", "_law_ring", "_law_row"]) fun _ _ _ _ _ _ us hl => of_len3 us hl fun _ _ _ => rfl⟩
  have F29 := fun_mk (st := s_law_keys) l29 c29 k29
  have D_law_keys : Def K mg "_law_keys" s_law_keys ["_law_script", "_law_at"] := ⟨_, _, F29, PySem.W.mg_of X G0 a29, F29.binds (ps := ["_law_script", "_law_at"]) fun _ _ _ _ _ _ us hl => of_len2 us hl fun _ _ => rfl⟩
  have F30 := fun_mk (st := s_law_told) l30 c30 k30
  have D_law_told : Def K mg "_law_told" s_law_told ["_law_script", "_law_kind", "_law_at"] := ⟨_, _, F30, PySem.W.mg_of X G0 a30, F30.binds (ps := ["_law_script", "_law_kind", "_law_at"]) fun _ _ _ _ _ _ us hl => of_len3 us hl fun _ _ _ => rfl⟩
  have F31 := fun_mk (st := s_law_sound) l31 c31 k31
  have D_law_sound : Def K mg "_law_sound" s_law_sound ["_law_kind", "_law_told_here", "_law_row"] := ⟨_, _, F31, PySem.W.mg_of X G0 a31, F31.binds (ps := ["_law_kind", "_law_told_here", "_law_row"]) fun _ _ _ _ _ _ us hl => of_len3 us hl fun _ _ _ => rfl⟩
  have F32 := fun_mk (st := s_law_tuning) l32 c32 k32
  have D_law_tuning : Def K mg "_law_tuning" s_law_tuning ["_law_kind", "_law_told_here", "_law_handed"] := ⟨_, _, F32, PySem.W.mg_of X G0 a32, F32.binds (ps := ["_law_kind", "_law_told_here", "_law_handed"]) fun _ _ _ _ _ _ us hl => of_len3 us hl fun _ _ _ => rfl⟩
  have F33 := fun_mk (st := s_law) l33 c33 k33
  have F34 := fun_mk (st := s_Tuning_sound) l34 c34 k34
  have D_Tuning_sound : DefM K f34 "sound" "Tuning.sound" s_Tuning_sound ["self", "row"] := ⟨_, F34, F34.binds (ps := ["self", "row"]) fun _ _ _ _ _ _ us hl => of_len2 us hl fun _ _ => rfl⟩
  have F35 := fun_mk (st := s_CommaTuning_init) l35 c35 k35
  have D_CommaTuning_init : DefM K f35 "__init__" "CommaTuning.__init__" s_CommaTuning_init ["self", "commas"] := ⟨_, F35, F35.binds (ps := ["self", "commas"]) fun _ _ _ _ _ _ us hl => of_len2 us hl fun _ _ => rfl⟩
  have F36 := fun_mk (st := s_CommaTuning_sound) l36 c36 k36
  have D_CommaTuning_sound : DefM K f36 "sound" "CommaTuning.sound" s_CommaTuning_sound ["self", "row"] := ⟨_, F36, F36.binds (ps := ["self", "row"]) fun _ _ _ _ _ _ us hl => of_len2 us hl fun _ _ => rfl⟩
  have F37 := fun_mk (st := s_KeyTuning_init) l37 c37 k37
  have D_KeyTuning_init : DefM K f37 "__init__" "KeyTuning.__init__" s_KeyTuning_init ["self", "keys"] := ⟨_, F37, F37.binds (ps := ["self", "keys"]) fun _ _ _ _ _ _ us hl => of_len2 us hl fun _ _ => rfl⟩
  have F38 := fun_mk (st := s_KeyTuning_sound) l38 c38 k38
  have D_KeyTuning_sound : DefM K f38 "sound" "KeyTuning.sound" s_KeyTuning_sound ["self", "row"] := ⟨_, F38, F38.binds (ps := ["self", "row"]) fun _ _ _ _ _ _ us hl => of_len2 us hl fun _ _ => rfl⟩
  have F39 := fun_mk (st := s_Board_init) l39 c39 k39
  have D_Board_init : DefM K f39 "__init__" "Board.__init__" s_Board_init ["self", "row"] := ⟨_, F39, F39.binds (ps := ["self", "row"]) fun _ _ _ _ _ _ us hl => of_len2 us hl fun _ _ => rfl⟩
  have F40 := fun_mk (st := s_Board_sound) l40 c40 k40
  have D_Board_sound : DefM K f40 "sound" "Board.sound" s_Board_sound ["self", "row"] := ⟨_, F40, F40.binds (ps := ["self", "row"]) fun _ _ _ _ _ _ us hl => of_len2 us hl fun _ _ => rfl⟩
  refine⟨PySem.W.fnOf "law" "law" (defArgs s_law) (defBody s_law) (defScope s_law) .none kV33 dc33 pm33 an33 cd33 ct33, fun s v => .of_eq rfl, fun base _ _ hc_lam_parted hb_lam_parted hc_lam_sounds hb_lam_sounds hSeer => ?_⟩
  have B_lam_parted : PySem.W.CodeHd base c_lam_parted (tabP K "parted") ∧ base.BuiltinsAt mg (tabP K "parted") := by rw [tabP_of htb_parted];exact⟨hc_lam_parted, hb_lam_parted⟩
  have B_lam_sounds : PySem.W.CodeHd base c_lam_sounds (tabP K "sounds") ∧ base.BuiltinsAt mg (tabP K "sounds") := by rw [tabP_of htb_sounds];exact⟨hc_lam_sounds, hb_lam_sounds⟩
  have Y : base.NoSeer ∧ l.prog.given.tree=none := ⟨hSeer, htree⟩
  have O_over := ok_over (P := l.prog) (w := w) (base := base) D_over T Y
  have O_power := ok_power (P := l.prog) (w := w) (base := base) D_power T Y
  have O_checked_commas := ok_checked_commas (P := l.prog) (w := w) (base := base) D_checked_commas T Y
  have O_lead_place := ok_lead_place (P := l.prog) (w := w) (base := base) D_lead_place T Y
  have O_heard := ok_heard (P := l.prog) (w := w) (base := base) D_heard T Y
  have O_checked_keys := ok_checked_keys (P := l.prog) (w := w) (base := base) D_checked_keys T Y
  have O_law_cell_at := ok_law_cell_at (P := l.prog) (w := w) (base := base) D_law_cell_at T Y
  have O_law_lowest := ok_law_lowest (P := l.prog) (w := w) (base := base) D_law_lowest T Y
  have O_law_mixed := ok_law_mixed (P := l.prog) (w := w) (base := base) D_law_mixed T Y
  have O_law_name_row := ok_law_name_row (P := l.prog) (w := w) (base := base) D_law_name_row T Y
  have O_law_copy := ok_law_copy (P := l.prog) (w := w) (base := base) D_law_copy T Y
  have O_law_rest := ok_law_rest (P := l.prog) (w := w) (base := base) D_law_rest T Y
  have O_law_value := ok_law_value (P := l.prog) (w := w) (base := base) D_law_value T Y
  have O_Tuning_sound := ok_Tuning_sound (P := l.prog) (w := w) (base := base) D_Tuning_sound T Y
  have O_value := ok_value (P := l.prog) (w := w) (base := base) D_value T ⟨O_heard⟩ Y
  have O_law_pieces := ok_law_pieces (P := l.prog) (w := w) (base := base) D_law_pieces T ⟨O_law_mixed⟩ Y
  have O_law_steps := ok_law_steps (P := l.prog) (w := w) (base := base) D_law_steps T ⟨O_law_cell_at, O_law_mixed⟩ Y
  have O_law_commas := ok_law_commas (P := l.prog) (w := w) (base := base) D_law_commas T ⟨O_law_mixed⟩ Y
  have O_law_keys := ok_law_keys (P := l.prog) (w := w) (base := base) D_law_keys T ⟨O_law_cell_at, O_law_mixed⟩ Y
  have O_law_sound := ok_law_sound (P := l.prog) (w := w) (base := base) D_law_sound T ⟨O_law_rest, O_law_value⟩ Y
  have O_KeyTuning_init := ok_KeyTuning_init (P := l.prog) (w := w) (base := base) D_KeyTuning_init T ⟨O_checked_keys⟩ Y
  have O_values := ok_values (P := l.prog) (w := w) (base := base) D_values T ⟨O_value, O_checked_keys⟩ Y
  have O_law_tune := ok_law_tune (P := l.prog) (w := w) (base := base) D_law_tune T ⟨O_law_cell_at, O_law_lowest, O_law_mixed, O_law_name_row, O_law_pieces⟩ Y
  have O_law_told := ok_law_told (P := l.prog) (w := w) (base := base) D_law_told T ⟨O_law_cell_at, O_law_mixed, O_law_steps, O_law_keys⟩ Y
  have O_Board_init := ok_Board_init (P := l.prog) (w := w) (base := base) D_Board_init T ⟨O_KeyTuning_init⟩ Y
  have O_KeyTuning_sound := ok_KeyTuning_sound (P := l.prog) (w := w) (base := base) D_KeyTuning_sound T ⟨O_values⟩ Y
  have O_Board_sound := ok_Board_sound (P := l.prog) (w := w) (base := base) D_Board_sound T ⟨O_values⟩ Y
  have O_law_alike := ok_law_alike (P := l.prog) (w := w) (base := base) D_law_alike T Y 6
  have O_lowered := ok_lowered (P := l.prog) (w := w) (base := base) D_lowered T ⟨O_over, O_power⟩ Y
  have O_parted := ok_parted (P := l.prog) (w := w) (base := base) D_parted T ⟨O_power, O_lowered⟩ Y B_lam_parted
  have O_left_by := ok_left_by (P := l.prog) (w := w) (base := base) D_left_by T ⟨O_lead_place, O_lowered⟩ Y
  have O_stepped := ok_stepped (P := l.prog) (w := w) (base := base) D_stepped T ⟨O_lowered, O_parted⟩ Y
  have O_CommaTuning_sound := ok_CommaTuning_sound (P := l.prog) (w := w) (base := base) D_CommaTuning_sound T ⟨O_left_by⟩ Y
  have O_table := ok_table (P := l.prog) (w := w) (base := base) D_table T ⟨O_checked_commas, O_stepped⟩ Y
  have O_CommaTuning_init := ok_CommaTuning_init (P := l.prog) (w := w) (base := base) D_CommaTuning_init T ⟨O_table⟩ Y
  have O_note_changed := ok_note_changed (P := l.prog) (w := w) (base := base) D_note_changed T ⟨O_Board_sound, O_CommaTuning_sound, O_KeyTuning_sound, O_Tuning_sound⟩ Y
  have O_bar_changed := ok_bar_changed (P := l.prog) (w := w) (base := base) D_bar_changed T ⟨O_note_changed⟩ Y
  have O_law_tuning := ok_law_tuning (P := l.prog) (w := w) (base := base) D_law_tuning T ⟨O_Board_init, O_CommaTuning_init, O_KeyTuning_init⟩ Y
  have O_changed := ok_changed (P := l.prog) (w := w) (base := base) D_changed T ⟨O_bar_changed⟩ Y
  have O_sounds := ok_sounds (P := l.prog) (w := w) (base := base) D_sounds T ⟨O_changed⟩ Y B_lam_sounds
  exact fn_law F33 T ⟨O_sounds, O_law_cell_at, O_law_alike, O_law_tune, O_law_copy, O_law_commas, O_law_told, O_law_sound, O_law_tuning⟩ Y
end Law
open PySem PySem.W PyProof.Rows
set_option maxRecDepth 100000 in
set_option maxHeartbeats 0 in
theorem PySem.Challenge.cw_tuningyard_k60_sounds_told_holds : PySem.Challenge.rw_tuningyard_k60_sounds_told.Holds := by
 w_on;o_law;k_head;(case hw=>w_witness2)
 k_fill
 refine' L2.walk_of2S (l:=PySem.Challenge.rw_tuningyard_k60_sounds_told) (k:=43) (x:="_law_script") (fun K=>PySem.W.tabIn K "parted") Law.lpP "parted.<locals>.<lambda>" (fun K=>PySem.W.tabIn K "sounds") Law.sdL "sounds.<locals>.<lambda>" (by decide +kernel) rfl rfl ⟨rfl,by decide,by decide⟩ ?hY ?ht1 ?ht2 ?hh1 ?hh2 ?hk1 ?hk2 ?hd ?F
 case hY=>exact fun w h Y=>⟨PySem.W.km_in_of Y,PySem.W.km_tabs_of Y _ (.head _),PySem.W.km_tabs_of Y _ (.tail _ (.head _))⟩
 case ht1=>exact fun w=>rfl
 case ht2=>exact fun w=>rfl
 case hh1=>intro w;kernel_rfl
 case hk1=>intro w;kernel_rfl
 case hh2=>intro w;kernel_rfl
 case hk2=>intro w;kernel_rfl
 case hd=>decide
 case F =>
  intro w mg fa h KX G hmg htb_parted htb_sounds
  refine' Law.all_mk KX G rfl hmg htb_parted htb_sounds ?x_Tuning ?x_CommaTuning ?x_KeyTuning ?x_Board ?a0 ?l0 ?c0 ?k0 ?a1 ?l1 ?c1 ?k1 ?a2 ?l2 ?c2 ?k2 ?a3 ?l3 ?c3 ?k3 ?a4 ?l4 ?c4 ?k4 ?a5 ?l5 ?c5 ?k5 ?a6 ?l6 ?c6 ?k6 ?a7 ?l7 ?c7 ?k7 ?a8 ?l8 ?c8 ?k8 ?a9 ?l9 ?c9 ?k9 ?a10 ?l10 ?c10 ?k10 ?a11 ?l11 ?c11 ?k11 ?a12 ?l12 ?c12 ?k12 ?a13 ?l13 ?c13 ?k13 ?a14 ?l14 ?c14 ?k14 ?a15 ?l15 ?c15 ?k15 ?a16 ?l16 ?c16 ?k16 ?a17 ?l17 ?c17 ?k17 ?a18 ?l18 ?c18 ?k18 ?a19 ?l19 ?c19 ?k19 ?a20 ?l20 ?c20 ?k20 ?a21 ?l21 ?c21 ?k21 ?a22 ?l22 ?c22 ?k22 ?a23 ?l23 ?c23 ?k23 ?a24 ?l24 ?c24 ?k24 ?a25 ?l25 ?c25 ?k25 ?a26 ?l26 ?c26 ?k26 ?a27 ?l27 ?c27 ?k27 ?a28 ?l28 ?c28 ?k28 ?a29 ?l29 ?c29 ?k29 ?a30 ?l30 ?c30 ?k30 ?a31 ?l31 ?c31 ?k31 ?a32 ?l32 ?c32 ?k32 ?a33 ?l33 ?c33 ?k33 ?a34 ?l34 ?c34 ?k34 ?i34 ?a35 ?l35 ?c35 ?k35 ?i35 ?a36 ?l36 ?c36 ?k36 ?i36 ?a37 ?l37 ?c37 ?k37 ?i37 ?a38 ?l38 ?c38 ?k38 ?i38 ?a39 ?l39 ?c39 ?k39 ?i39 ?a40 ?l40 ?c40 ?k40 ?i40 ?p1_Tuning ?p2_Tuning ?p3_Tuning ?p4_Tuning ?p5_Tuning ?p6_Tuning ?p7_Tuning ?po1_Tuning ?po2_Tuning ?po3_Tuning ?po4_Tuning ?pm_Tuning_sound ?p1_CommaTuning ?p2_CommaTuning ?p3_CommaTuning ?p4_CommaTuning ?p5_CommaTuning ?p6_CommaTuning ?p7_CommaTuning ?po1_CommaTuning ?po2_CommaTuning ?po3_CommaTuning ?po4_CommaTuning ?pm_CommaTuning_sound ?pn_CommaTuning_steps ?p1_KeyTuning ?p2_KeyTuning ?p3_KeyTuning ?p4_KeyTuning ?p5_KeyTuning ?p6_KeyTuning ?p7_KeyTuning ?po1_KeyTuning ?po2_KeyTuning ?po3_KeyTuning ?po4_KeyTuning ?pm_KeyTuning_sound ?pj_KeyTuning_KeyTuning_init ?pk_KeyTuning_KeyTuning_init ?pl_KeyTuning_KeyTuning_init ?pn_KeyTuning_own_keys ?p1_Board ?p2_Board ?p3_Board ?p4_Board ?p5_Board ?p6_Board ?p7_Board ?po1_Board ?po2_Board ?po3_Board ?po4_Board ?pm_Board_sound ?pn_Board_own_keys ?pn_Board_octave ?x_MOST_COMMAS ?x_MOST_KEYS ?x_WIDTH ?x_NoBoard ?k1_NoBoard ?k2_NoBoard ?k3_NoBoard ?k4_NoBoard ?k5_NoBoard ?k6_NoBoard ?k7_NoBoard ?k8_NoBoard ?k9_NoBoard ?kx_NoBoard ?z_abs ?z_bool ?z_enumerate ?z_int ?z_isinstance ?z_len ?z_list ?z_max ?z_range ?z_sorted ?z_str ?z_sum ?z_tuple ?z_zip
  (case x_Tuning=>k_is)
  (case x_CommaTuning=>k_is)
  (case x_KeyTuning=>k_is)
  (case x_Board=>k_is)
  (case a0=>k_is)
  (case l0=>k_is)
  (case c0=>k_is)
  (case k0=>k_is)
  (case a1=>k_is)
  (case l1=>k_is)
  (case c1=>k_is)
  (case k1=>k_is)
  (case a2=>k_is)
  (case l2=>k_is)
  (case c2=>k_is)
  (case k2=>k_is)
  (case a3=>k_is)
  (case l3=>k_is)
  (case c3=>k_is)
  (case k3=>k_is)
  (case a4=>k_is)
  (case l4=>k_is)
  (case c4=>k_is)
  (case k4=>k_is)
  (case a5=>k_is)
  (case l5=>k_is)
  (case c5=>k_is)
  (case k5=>k_is)
  (case a6=>k_is)
  (case l6=>k_is)
  (case c6=>k_is)
  (case k6=>k_is)
  (case a7=>k_is)
  (case l7=>k_is)
  (case c7=>k_is)
  (case k7=>k_is)
  (case a8=>k_is)
  (case l8=>k_is)
  (case c8=>k_is)
  (case k8=>k_is)
  (case a9=>k_is)
  (case l9=>k_is)
  (case c9=>k_is)
  (case k9=>k_is)
  (case a10=>k_is)
  (case l10=>k_is)
  (case c10=>k_is)
  (case k10=>k_is)
  (case a11=>k_is)
  (case l11=>k_is)
  (case c11=>k_is)
  (case k11=>k_is)
  (case a12=>k_is)
  (case l12=>k_is)
  (case c12=>k_is)
  (case k12=>k_is)
  (case a13=>k_is)
  (case l13=>k_is)
  (case c13=>k_is)
  (case k13=>k_is)
  (case a14=>k_is)
  (case l14=>k_is)
  (case c14=>k_is)
  (case k14=>k_is)
  (case a15=>k_is)
  (case l15=>k_is)
  (case c15=>k_is)
  (case k15=>k_is)
  (case a16=>k_is)
  (case l16=>k_is)
  (case c16=>k_is)
  (case k16=>k_is)
  (case a17=>k_is)
  (case l17=>k_is)
  (case c17=>k_is)
  (case k17=>k_is)
  (case a18=>k_is)
  (case l18=>k_is)
  (case c18=>k_is)
  (case k18=>k_is)
  (case a19=>k_is)
  (case l19=>k_is)
  (case c19=>k_is)
  (case k19=>k_is)
  (case a20=>k_is)
  (case l20=>k_is)
  (case c20=>k_is)
  (case k20=>k_is)
  (case a21=>k_is)
  (case l21=>k_is)
  (case c21=>k_is)
  (case k21=>k_is)
  (case a22=>k_is)
  (case l22=>k_is)
  (case c22=>k_is)
  (case k22=>k_is)
  (case a23=>k_is)
  (case l23=>k_is)
  (case c23=>k_is)
  (case k23=>k_is)
  (case a24=>k_is)
  (case l24=>k_is)
  (case c24=>k_is)
  (case k24=>k_is)
  (case a25=>k_is)
  (case l25=>k_is)
  (case c25=>k_is)
  (case k25=>k_is)
  (case a26=>k_is)
  (case l26=>k_is)
  (case c26=>k_is)
  (case k26=>k_is)
  (case a27=>k_is)
  (case l27=>k_is)
  (case c27=>k_is)
  (case k27=>k_is)
  (case a28=>k_is)
  (case l28=>k_is)
  (case c28=>k_is)
  (case k28=>k_is)
  (case a29=>k_is)
  (case l29=>k_is)
  (case c29=>k_is)
  (case k29=>k_is)
  (case a30=>k_is)
  (case l30=>k_is)
  (case c30=>k_is)
  (case k30=>k_is)
  (case a31=>k_is)
  (case l31=>k_is)
  (case c31=>k_is)
  (case k31=>k_is)
  (case a32=>k_is)
  (case l32=>k_is)
  (case c32=>k_is)
  (case k32=>k_is)
  (case a33=>k_is)
  (case l33=>k_is)
  (case c33=>k_is)
  (case k33=>k_is)
  (case a34=>k_is)
  (case l34=>k_is)
  (case c34=>k_is)
  (case k34=>k_is)
  (case i34=>k_is)
  (case a35=>k_is)
  (case l35=>k_is)
  (case c35=>k_is)
  (case k35=>k_is)
  (case i35=>k_is)
  (case a36=>k_is)
  (case l36=>k_is)
  (case c36=>k_is)
  (case k36=>k_is)
  (case i36=>k_is)
  (case a37=>k_is)
  (case l37=>k_is)
  (case c37=>k_is)
  (case k37=>k_is)
  (case i37=>k_is)
  (case a38=>k_is)
  (case l38=>k_is)
  (case c38=>k_is)
  (case k38=>k_is)
  (case i38=>k_is)
  (case a39=>k_is)
  (case l39=>k_is)
  (case c39=>k_is)
  (case k39=>k_is)
  (case i39=>k_is)
  (case a40=>k_is)
  (case l40=>k_is)
  (case c40=>k_is)
  (case k40=>k_is)
  (case i40=>k_is)
  (case p1_Tuning=>k_is)
  (case p2_Tuning=>k_is)
  (case p3_Tuning=>k_is)
  (case p4_Tuning=>k_is)
  (case p5_Tuning=>k_is)
  (case p6_Tuning=>k_is)
  (case p7_Tuning=>k_is)
  (case po1_Tuning=>k_is)
  (case po2_Tuning=>k_is)
  (case po3_Tuning=>k_is)
  (case po4_Tuning=>k_is)
  (case pm_Tuning_sound=>k_is)
  (case p1_CommaTuning=>k_is)
  (case p2_CommaTuning=>k_is)
  (case p3_CommaTuning=>k_is)
  (case p4_CommaTuning=>k_is)
  (case p5_CommaTuning=>k_is)
  (case p6_CommaTuning=>k_is)
  (case p7_CommaTuning=>k_is)
  (case po1_CommaTuning=>k_is)
  (case po2_CommaTuning=>k_is)
  (case po3_CommaTuning=>k_is)
  (case po4_CommaTuning=>k_is)
  (case pm_CommaTuning_sound=>k_is)
  (case pn_CommaTuning_steps=>k_is)
  (case p1_KeyTuning=>k_is)
  (case p2_KeyTuning=>k_is)
  (case p3_KeyTuning=>k_is)
  (case p4_KeyTuning=>k_is)
  (case p5_KeyTuning=>k_is)
  (case p6_KeyTuning=>k_is)
  (case p7_KeyTuning=>k_is)
  (case po1_KeyTuning=>k_is)
  (case po2_KeyTuning=>k_is)
  (case po3_KeyTuning=>k_is)
  (case po4_KeyTuning=>k_is)
  (case pm_KeyTuning_sound=>k_is)
  (case pj_KeyTuning_KeyTuning_init=>k_is)
  (case pk_KeyTuning_KeyTuning_init=>k_is)
  (case pl_KeyTuning_KeyTuning_init=>k_is)
  (case pn_KeyTuning_own_keys=>k_is)
  (case p1_Board=>k_is)
  (case p2_Board=>k_is)
  (case p3_Board=>k_is)
  (case p4_Board=>k_is)
  (case p5_Board=>k_is)
  (case p6_Board=>k_is)
  (case p7_Board=>k_is)
  (case po1_Board=>k_is)
  (case po2_Board=>k_is)
  (case po3_Board=>k_is)
  (case po4_Board=>k_is)
  (case pm_Board_sound=>k_is)
  (case pn_Board_own_keys=>k_is)
  (case pn_Board_octave=>k_is)
  (case x_MOST_COMMAS=>k_is)
  (case x_MOST_KEYS=>k_is)
  (case x_WIDTH=>k_is)
  (case x_NoBoard=>k_is)
  (case k1_NoBoard=>k_is)
  (case k2_NoBoard=>k_is)
  (case k3_NoBoard=>k_is)
  (case k4_NoBoard=>k_is)
  (case k5_NoBoard=>k_is)
  (case k6_NoBoard=>k_is)
  (case k7_NoBoard=>k_is)
  (case k8_NoBoard=>k_is)
  (case k9_NoBoard=>k_is)
  (case kx_NoBoard=>k_exc)
  (case z_abs=>k_is)
  (case z_bool=>k_is)
  (case z_enumerate=>k_is)
  (case z_int=>k_is)
  (case z_isinstance=>k_is)
  (case z_len=>k_is)
  (case z_list=>k_is)
  (case z_max=>k_is)
  (case z_range=>k_is)
  (case z_sorted=>k_is)
  (case z_str=>k_is)
  (case z_sum=>k_is)
  (case z_tuple=>k_is)
  (case z_zip=>k_is)
