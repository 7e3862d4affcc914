import PyProof.Rows.All
import Wide.All
import OpenK.AllK
import Wide.FinOn
import Lean
import PyProof.EqAt
import PyProof.EqKinds
import PyProof.TupleCall
import PyProof.CompMap
import PyProof.ZipIter
import PyProof.TupleIter
import PyProof.ExcAttrAll.ValueError
import KE.KSortKey
import KE.KRevIter
import KE.KLam
import KE.KNestM
import PyProof.Rows.Range3
import PyProof.EnumMake
import PyProof.JoinWalk
import PyProof.Rows.StrSplitJoin
import PyProof.Rows.StrWeight2
import PyProof.StrOps2
import KE.KSortTup
import KE.KMinKey
import PyProof.ListRange
import PyProof.Rows.StrCountLaw
import PyProof.Rows.SetFrom
import PyProof.Rows.FactsT2
import PyProof.StrLawsTight
import PyProof.StrLawsChain
import PyProof.Rows.StrItems
import KE.KIntText
import PyProof.StrLawsFirst
import PyProof.StrBlockL
import PyProof.Rows.StrNews2
import PyProof.StrWalks
import PySem.Challenge.RW_tuningyard_k53_whole_there_and_back
set_option Elab.async false
set_option linter.all false
set_option maxRecDepth 100000
namespace L2
open PySem PySem.Spec PyProof.Rows
noncomputable abbrev Key:=Sum Int Str
noncomputable def keyIs:Key→Value→Bool
 | .inl k,v=>Value.isInt k v
 | .inr x,v=>Value.isStrOf x v
noncomputable def keyH (w:World):Key→Int
 | .inl k=>hashInt k
 | .inr x=>hashStr w x
theorem keyIs_shape:∀ {k:Key} {v:Value},keyIs k v=true→(∃ i t,k=Sum.inl i∧v=Value.int i t)∨(∃ x t,k=Sum.inr x∧v=Value.str x t)
 | .inl i,v,h=>by
  obtain ⟨t,e⟩:=Value.isInt_shape (k:=i) (v:=v) h
  exact .inl ⟨i,t,rfl,e⟩
 | .inr x,v,h=>by
  obtain ⟨t,e⟩:=Value.isStrOf_shape (x:=x) (v:=v) h
  exact .inr ⟨x,t,rfl,e⟩
theorem key_ll (a b:Int):decide ((Sum.inl a:Key)=Sum.inl b)=(a == b):=by
 by_cases e:a=b
 ·subst e;simp
 ·have h:¬ (Sum.inl a:Key)=Sum.inl b:=fun q=>e (Sum.inl.inj q)
  rw [decide_eq_false h]
  exact (beq_eq_false_iff_ne.mpr e).symm
theorem key_rr (a b:Str):decide ((Sum.inr a:Key)=Sum.inr b)=decide (a=b):=by
 by_cases e:a=b
 ·subst e;simp
 ·have h:¬ (Sum.inr a:Key)=Sum.inr b:=fun q=>e (Sum.inr.inj q)
  rw [decide_eq_false h,decide_eq_false e]
theorem key_lr (a:Int) (b:Str):decide ((Sum.inl a:Key)=Sum.inr b)=false:=decide_eq_false (fun q=>nomatch q)
theorem key_rl (a:Str) (b:Int):decide ((Sum.inr a:Key)=Sum.inl b)=false:=decide_eq_false (fun q=>nomatch q)
noncomputable def mixKind (prog:Program) (w:World):PySem.KeyKind prog w Key where
 is:=keyIs
 hash:=keyH w
 inj:=fun v a b ha hb=>by
  rcases keyIs_shape ha with ⟨i,t,rfl,rfl⟩|⟨x,t,rfl,rfl⟩
  ·rcases keyIs_shape hb with ⟨j,u,rfl,e⟩|⟨y,u,rfl,e⟩
   ·injection e with e1 _;rw [e1]
   ·exact nomatch e
  ·rcases keyIs_shape hb with ⟨j,u,rfl,e⟩|⟨y,u,rfl,e⟩
   ·exact nomatch e
   ·injection e with e1 _;rw [e1]
 byValue:=fun k v h=>by
  rcases keyIs_shape h with ⟨i,t,rfl,rfl⟩|⟨x,t,rfl,rfl⟩ <;> rfl
 pyHash:=fun hv h=>by
  rcases keyIs_shape hv with ⟨i,t,rfl,rfl⟩|⟨x,t,rfl,rfl⟩
  ·exact wpAny_pyHash_int h
  ·exact wpAny_pyHash_str h
 eqBool:=fun hu hv h=>by
  rcases keyIs_shape hu with ⟨i,t,rfl,rfl⟩|⟨x,t,rfl,rfl⟩
  ·rcases keyIs_shape hv with ⟨j,u,rfl,rfl⟩|⟨y,u,rfl,rfl⟩
   ·rw [key_ll] at h;exact wpAny_eqBool_int h
   ·rw [key_lr] at h;exact SeqAt.EqAt.int_str i t y u _ _ _ _ h
  ·rcases keyIs_shape hv with ⟨j,u,rfl,rfl⟩|⟨y,u,rfl,rfl⟩
   ·rw [key_rl] at h;exact SeqAt.EqAt.str_int x t j u _ _ _ _ h
   ·rw [key_rr] at h;exact wpAny_eqBool_str h
 «strs»:=fun k x t v h=>by
  rcases keyIs_shape h with ⟨i,u,rfl,e⟩|⟨y,u,rfl,e⟩
  ·exact nomatch e
  ·injection e with e1 _
   subst e1
   cases v <;> rfl
end L2
namespace L2
open PySem PySem.Spec PyProof.Rows
inductive V where
 | non|bl (b:Bool)|int (i:Int)|str (x:Str)|byt (b:Array UInt8)|flt (b:UInt64)|ref (a:Addr)|ty (n:String)
 deriving DecidableEq
noncomputable def RelV:V→Value→Prop
 | .non,u=>u=Value.none
 | .bl b,u=>u=Value.bool b
 | .int i,u=>∃ t,u=Value.int i t
 | .str x,u=>∃ t,u=Value.str x t
 | .byt b,u=>∃ t,u=Value.bytes b t
 | .flt b,u=>∃ t,u=Value.float b t
 | .ref a,u=>u=Value.ref a
 | .ty n,u=>u=Value.type n
noncomputable abbrev Vals:List V→List Value→Prop:=Paired RelV
theorem Vals.length {xs:List V} {us:List Value} (r:Vals xs us):xs.length=us.length:=Paired.length r
theorem Vals.get:∀ {xs:List V} {us:List Value} {i:Nat} {x:V},Vals xs us→xs[i]?=some x→∃ u,us[i]?=some u∧RelV x u
 | _,_,_,_,.nil,e=>by simp at e
 | _,_,0,_,.cons r _,e=>by simp at e;subst e;exact⟨_,rfl,r⟩
 | _,_,i+1,x,.cons _ t,e=>by
  obtain ⟨u,h1,h2⟩:=Vals.get (i:=i) (x:=x) t (by simpa using e)
  exact⟨u,by simpa using h1,h2⟩
theorem Vals.set {x:V} {u:Value} (r:RelV x u):∀ {xs:List V} {us:List Value} (i:Nat),Vals xs us→Vals (xs.set i x) (us.set i u)
 | _,_,_,.nil=>.nil
 | _,_,0,.cons _ t=>.cons r t
 | _,_,i+1,.cons q t=>.cons q (Vals.set r i t)
theorem Vals.append:∀ {xs ys:List V} {us ws:List Value},Vals xs us→Vals ys ws→Vals (xs++ys) (us++ws)
 | _,_,_,_,.nil,s=>s
 | _,_,_,_,.cons r t,s=>.cons r (Vals.append t s)
theorem Vals.take:∀ {xs:List V} {us:List Value} (n:Nat),Vals xs us→Vals (xs.take n) (us.take n)
 | _,_,0,_=>.nil
 | _,_,_+1,.nil=>.nil
 | _,_,n+1,.cons r t=>.cons r (Vals.take n t)
theorem Vals.drop:∀ {xs:List V} {us:List Value} (n:Nat),Vals xs us→Vals (xs.drop n) (us.drop n)
 | _,_,0,r=>r
 | _,_,_+1,.nil=>.nil
 | _,_,n+1,.cons _ t=>Vals.drop n t
noncomputable def RelO:Option V→Option Value→Prop
 | some v,some u=>RelV v u
 | none,none=>True
 | _,_=>False
noncomputable def KV {κ:Type}:List (κ×V)→List (κ×Value)→Prop:=Paired fun (p:κ×V) (q:κ×Value)=>p.1=q.1∧RelV p.2 q.2
noncomputable def kV:Key→V
 | .inl i=>.int i
 | .inr x=>.str x
inductive HO where
 /-- a list -/
 | lst (xs:List V)
 /-- a tuple (never changes) -/
 | tup (xs:List V)
 /-- a dict whose keys are ints and texts;one whose keys are tuples of ints and texts (the empty one is both) -/
 | dK (kvs:List (Key×V))|dT (kvs:List (List Key×V))
 /-- a set of ints: its members,its size -/
 | set (S:Int→Bool) (n:Nat)
 /-- an instance of the class at C,its dict at dx,its attributes -/
 | ins (C dx:Addr) (fs:List (Str×V))
 /-- the dict of the instance at x -/
 | own (x:Addr)
 /-- the dict of an exception -/
 | xd (fs:List (Str×V))
 /-- a bound method,f of x -/
 | met (f x:Addr)
 /-- a range object lo,lo+1,.. below hi -/
 | rng (lo hi:Int)
 /-- a thing that is known to the object (the script;a dict while a loop walks it): read,never written while it is so -/
 | frz (o:Obj) (u:HO)
 /-- a code object's table -/
 | tbl (ps:Array Value)
 /-- any other thing,by what is true of its one object (a def of one's own: SetO a S n:=HO.ext fun h=>..) -/
 | ext (φ:Heap→Prop)
noncomputable abbrev Hp:=Addr→Option HO
noncomputable def upd (H:Hp) (a:Addr) (o:HO):Hp:=fun b=>if b=a then some o else H b
theorem upd_same {H:Hp} {a:Addr} {o:HO}:upd H a o a=some o:=by unfold upd;rw [if_pos rfl]
theorem upd_ne {H:Hp} {a b:Addr} {o:HO} (h:b≠a):upd H a o b=H b:=by unfold upd;rw [if_neg h]
theorem ne_of_none {H:Hp} {a b:Addr} {o:HO} (h:H a=some o) (h':H b=none):a≠b:=by
 intro e;subst e;rw [h] at h';cases h'
section
variable (P:Program) (w:World)
noncomputable def ObjOk (H:Hp) (h:Heap) (a:Addr):HO→Prop
 | .lst xs=>xs.length≤sizeLine∧∃ (its:List Value) (n:Nat),Vals xs its∧h.get? a=some { cls:=.type "list",data:=.seq its.toArray n }
 | .tup xs=>xs.length≤sizeLine∧∃ its:List Value,Vals xs its∧IsTup h a its.toArray
 | .dK kvs=>kvs.length≤sizeLine∧(a == sysModules)=false∧∃ vs,KV kvs vs∧h.DictOf (mixKind P w) a vs
 | .dT kvs=>kvs.length≤sizeLine∧(a == sysModules)=false∧∃ xs:List (List Key×Addr×Value),
   Paired (fun (p:List Key×V) (q:List Key×Addr×Value)=>p.1=q.1∧H q.2.1=some (.tup (p.1.map kV))∧RelV p.2 q.2.2) kvs xs ∧
   ∃ o es ep,h.get? a=some o∧o.ExactDict∧o.data=.dict es ep∧es.toList=xs.map (entryOfKey (tupleKind (mixKind P w)))∧(xs.map (·.1)).Nodup
 | .set S n=>h.SetOf (intKind P w) a S n
 | .ins C dx fs=>H dx=some (.own a)∧fs.length≤1000∧dx≠a∧h.get? a=some (PySem.W.instObj C dx) ∧
   ∃ mA,h.Ns1 dx mA∧(∀ f,RelO (fs.lookup f) (mA f))∧PySem.Within mA (fs.map (·.1))
 | .own _=>∃ o,h.get? a=some o
 | .xd fs=>∃ mA,h.Ns1 a mA∧∀ f,RelO (fs.lookup f) (mA f)
 | .rng lo hi=>∃ t u v,h.get? a=some { cls:=.type "range",data:=.fields #[.int lo t,.int hi u,.int 1 v] }
 | .frz o u=>h.get? a=some o∧ObjOk H h a u
 | .tbl ps=>h.get? a=some { cls:=.none,data:=.fields ps }
 | .met f x=>h.get? a=some (PySem.W.methodObj (.ref f) (.ref x))
 | .ext φ=>φ h∧(∃ o,h.get? a=some o)∧∀ h1 h2:Heap,φ h1→(∀ o,h1.get? a=some o→h2.get? a=some o)→φ h2
noncomputable def HOk (H:Hp) (h:Heap):Prop:=∀ a o,H a=some o→ObjOk P w H h a o
end
section
variable {P:Program} {w:World} {H H':Hp} {h h':Heap} {a:Addr} {o:HO}
theorem ObjOk.lt (x:ObjOk P w H h a o):a<h.objs.size:=by
 cases o with
 | lst xs=>obtain ⟨_,_,_,_,e⟩:=x;exact Heap.lt_size e
 | tup xs=>obtain ⟨_,_,_,p⟩:=x;exact p.lt
 | dK kvs=>obtain ⟨_,_,_,_,o,_,_,e,_⟩:=x;exact Heap.lt_size e
 | dT kvs=>obtain ⟨_,_,_,_,o,_,_,e,_⟩:=x;exact Heap.lt_size e
 | set S n=>obtain ⟨o,_,_,_,e,_⟩:=x;exact Heap.lt_size e
 | ins C dx fs=>obtain ⟨_,_,_,e,_⟩:=x;exact Heap.lt_size e
 | own y=>obtain ⟨_,e⟩:=x;exact Heap.lt_size e
 | xd fs=>obtain ⟨_,⟨_,_,_,e,_⟩,_⟩:=x;exact Heap.lt_size e
 | rng lo hi=>obtain ⟨_,_,_,e⟩:=x;exact Heap.lt_size e
 | frz ob u=>obtain ⟨e,_⟩:=x;exact Heap.lt_size e
 | tbl ps=>exact Heap.lt_size (show h.get? a=some _ from x)
 | met f y=>exact Heap.lt_size (show h.get? a=some _ from x)
 | ext φ=>obtain ⟨_,⟨_,e⟩,_⟩:=x;exact Heap.lt_size e
theorem Paired.mapP {α β:Type} {F G:α→β→Prop}:∀ {l₁:List α} {l₂:List β},Paired F l₁ l₂→(∀ a b,F a b→G a b)→Paired G l₁ l₂
 | _,_,.nil,_=>.nil
 | _,_,.cons r t,f=>.cons (f _ _ r) (Paired.mapP t f)
theorem ObjOk.stay (x:ObjOk P w H h a o) (k:∀ b u,(b=a∨H b=some (.own a))→h.get? b=some u→h'.get? b=some u)
  (ho:∀ b,H b=some (.own a)→H' b=some (.own a)) (ht:∀ b xs,H b=some (.tup xs)→H' b=some (.tup xs)):ObjOk P w H' h' a o:=by
 induction o with
 | lst xs=>obtain ⟨z,its,n,r,e⟩:=x;exact⟨z,its,n,r,k _ _ (.inl rfl) e⟩
 | tup xs=>obtain ⟨z,its,r,ob,e,c⟩:=x;exact⟨z,its,r,ob,k _ _ (.inl rfl) e,c⟩
 | dK kvs=>obtain ⟨z,y,vs,r,ob,es,ep,e,c⟩:=x;exact⟨z,y,vs,r,ob,es,ep,k _ _ (.inl rfl) e,c⟩
 | dT kvs =>
  obtain ⟨z,y,xs,r,ob,es,ep,e,c⟩:=x
  exact⟨z,y,xs,Paired.mapP r fun p q z=>⟨z.1,ht _ _ z.2.1,z.2.2⟩,ob,es,ep,k _ _ (.inl rfl) e,c⟩
 | set S n=>obtain ⟨ob,es,ep,t,e,c⟩:=x;exact⟨ob,es,ep,t,k _ _ (.inl rfl) e,c⟩
 | ins C dx fs =>
  obtain ⟨d,z,ne,e,mA,⟨od,es,ep,e2,c⟩,r⟩:=x
  exact⟨ho _ d,z,ne,k _ _ (.inl rfl) e,mA,⟨od,es,ep,k _ _ (.inr d) e2,c⟩,r⟩
 | own y=>obtain ⟨ob,e⟩:=x;exact⟨ob,k _ _ (.inl rfl) e⟩
 | xd fs=>obtain ⟨mA,⟨od,es,ep,e,c⟩,r⟩:=x;exact⟨mA,⟨od,es,ep,k _ _ (.inl rfl) e,c⟩,r⟩
 | rng lo hi=>obtain ⟨t,u,v,e⟩:=x;exact⟨t,u,v,k _ _ (.inl rfl) e⟩
 | frz ob u ih=>obtain ⟨e,q⟩:=x;exact⟨k _ _ (.inl rfl) e,ih q⟩
 | tbl ps =>
  have e:h.get? a=some { cls:=.none,data:=.fields ps }:=x
  show h'.get? a=some { cls:=.none,data:=.fields ps }
  exact k a _ (.inl rfl) e
 | met f y =>
  have e:h.get? a=some (PySem.W.methodObj (.ref f) (.ref y)):=x
  show h'.get? a=some (PySem.W.methodObj (.ref f) (.ref y))
  exact k a _ (.inl rfl) e
 | ext φ=>obtain ⟨p,⟨o,e⟩,st⟩:=x;exact⟨st _ _ p fun o q=>k _ _ (.inl rfl) q,⟨o,k _ _ (.inl rfl) e⟩,st⟩
theorem HOk.lt (x:HOk P w H h) (e:H a=some o):a<h.objs.size:=(x a o e).lt
theorem HOk.fresh (x:HOk P w H h) (e:h.objs.size≤a):H a=none:=by
 cases q:H a with
 | none=>rfl
 | some u=>exact absurd (Nat.lt_of_lt_of_le (x.lt q) e) (Nat.lt_irrefl _)
theorem HOk.kept (x:HOk P w H h) (k:∀ b u,h.get? b=some u→h'.get? b=some u):HOk P w H h':=fun a o e =>
 (x a o e).stay (fun b u _ q=>k b u q) (fun _ q=>q) fun _ _ q=>q
theorem HOk.laid (x:HOk P w H h) (k:∀ b u,h.get? b=some u→h'.get? b=some u) (hp:h.objs.size≤a) (new:ObjOk P w (upd H a o) h' a o):HOk P w (upd H a o) h':=fun b u e=>by
 have hn:=x.fresh hp
 by_cases hb:b=a
 ·subst hb;rw [upd_same] at e;cases e;exact new
 ·rw [upd_ne hb] at e
  exact (x b u e).stay (fun c v _ q=>k c v q) (fun c q=>by rw [upd_ne (ne_of_none q hn)];exact q) fun c xs q=>by rw [upd_ne (ne_of_none q hn)];exact q
end
noncomputable def Rd (H:Hp) (a:Addr) (u:HO):Prop:=H a=some u∨∃ o,H a=some (.frz o u)
theorem Rd.ok {P:Program} {w:World} {H:Hp} {h:Heap} {a:Addr} {u:HO} (r:Rd H a u) (x:HOk P w H h):ObjOk P w H h a u:=by
 rcases r with r|⟨o,r⟩
 ·exact x a u r
 ·obtain ⟨_,q⟩:=x a _ r
  exact q
noncomputable def Mut:Option HO→Prop
 | some (.lst _)=>True
 | some (.dK _)=>True
 | some (.dT _)=>True
 | some (.set _ _)=>True
 | some (.ins _ _ _)=>True
 | some (.ext _)=>True
 | _=>False
section
variable {P:Program} {w:World} {H:Hp} {h h':Heap} {x e:Addr} {o':HO}
theorem HOk.write (ok:HOk P w H h) (mu:Mut (H x)) (he:e=x∨H e=some (.own x)) (k:∀ b u,b≠e→h.get? b=some u→h'.get? b=some u) (heo:∃ u,h'.get? e=some u)
  (new:ObjOk P w (upd H x o') h' x o'):HOk P w (upd H x o') h':=fun b u q=>by
 have nown:∀ c y,H c=some (.own y)→c≠x:=fun c y r z=>by subst z;rw [r] at mu;exact mu
 have ntup:∀ c xs,H c=some (.tup xs)→c≠x:=fun c xs r z=>by subst z;rw [r] at mu;exact mu
 by_cases hb:b=x
 ·subst hb;rw [upd_same] at q;cases q;exact new
 ·rw [upd_ne hb] at q
  by_cases hbe:b=e
  ·have q':H b=some (.own x):=by
    rcases he with z|z
    ·exact absurd (hbe.trans z) hb
    ·rw [hbe];exact z
   rw [q] at q';cases q'
   obtain ⟨v,hv⟩:=heo
   exact⟨v,by rw [hbe];exact hv⟩
  ·refine (ok b u q).stay (fun c v hc r=>k c v ?_ r) (fun c r=>by rw [upd_ne (nown c b r)];exact r) fun c xs r=>by rw [upd_ne (ntup c xs r)];exact r
   rcases hc with rfl|hc
   ·exact hbe
   ·rintro rfl
    rcases he with z|z
    ·exact nown c b hc z
    ·rw [hc] at z;cases z;exact hb rfl
end
structure Un (fs ex:List Addr) (H H':Hp) (h h':Heap):Prop where
 keep:∀ b o,h.get? b=some o→H b=none→b∉fs→b∉ex→h'.get? b=some o
 slot:∀ b o,h.get? b=some o→H b=none→b∈fs→b∉ex→∃ sl,h'.get? b=some { o with slots:=sl }
 free:∀ b o,h.get? b=some o→H b=none→b∉ex→H' b=none
 there:∀ b o,h.get? b=some o→b∉ex→∃ o',h'.get? b=some o'
 tups:∀ b xs,H b=some (.tup xs)→H' b=some (.tup xs)
 frzs:∀ b o u,H b=some (.frz o u)→H' b=some (.frz o u)
 tbls:∀ b ps,H b=some (.tbl ps)→∃ more,H' b=some (.tbl (ps++more))
section
variable {fs fs' ex ex':List Addr} {H H1 H2:Hp} {h h1 h2 h':Heap} {a x e:Addr} {o:HO}
theorem Un.any (u:Un fs ex H H1 h h1) {b:Addr} {ob:Obj} (q:h.get? b=some ob) (n:H b=none) (hx:b∉ex):∃ sl,h1.get? b=some { ob with slots:=sl }:=by
 by_cases hb:b∈fs
 ·exact u.slot b ob q n hb hx
 ·exact⟨ob.slots,u.keep b ob q n hb hx⟩
theorem Un.kept (k:∀ b u,h.get? b=some u→h'.get? b=some u):Un fs ex H H h h' :=
 ⟨fun b ob q _ _ _=>k b ob q,fun b ob q _ _ _=>⟨ob.slots,k b ob q⟩,fun _ _ _ n _=>n,fun b ob q _=>⟨ob,k b ob q⟩,fun _ _ q=>q,fun _ _ _ q=>q,fun _ ps q=>⟨#[],by rw [q];simp⟩⟩
theorem Un.refl:Un fs ex H H h h:=Un.kept fun _ _ q=>q
theorem Un.laid (k:∀ b u,h.get? b=some u→h'.get? b=some u) (hp:h.objs.size≤a) (hn:H a=none):Un fs ex H (upd H a o) h h' where
 keep:=fun b u q _ _ _=>k b u q
 slot:=fun b u q _ _ _=>⟨u.slots,k b u q⟩
 free:=fun b u q n _=>by rw [upd_ne (Nat.ne_of_lt (Nat.lt_of_lt_of_le (Heap.lt_size q) hp))];exact n
 there:=fun b u q _=>⟨u,k b u q⟩
 tups:=fun b xs q=>by rw [upd_ne (ne_of_none q hn)];exact q
 frzs:=fun b u xs q=>by rw [upd_ne (ne_of_none q hn)];exact q
 tbls:=fun b ps q=>⟨#[],by rw [upd_ne (ne_of_none q hn),q];simp⟩
theorem Un.write (mu:Mut (H x)) (he:e=x∨H e=some (.own x)) (k:∀ b u,b≠e→h.get? b=some u→h'.get? b=some u) (heo:∃ u,h'.get? e=some u):Un fs ex H (upd H x o) h h':=by
 have hx:∀ b,H b=none→b≠x:=fun b n z=>by subst z;rw [n] at mu;exact mu
 have hb:∀ b,H b=none→b≠e:=fun b n z=>by
  subst z
  rcases he with r|r
  ·exact hx b n r
  ·rw [n] at r;cases r
 have hm:∀ b u,H b=some u→¬ Mut (some u)→b≠x:=fun b u q nm z=>by subst z;rw [q] at mu;exact nm mu
 refine⟨fun b u q n _ _=>k b u (hb b n) q,fun b u q n _ _=>⟨u.slots,k b u (hb b n) q⟩,fun b u q n _=>by rw [upd_ne (hx b n)];exact n,fun b u q _=>?_,
  fun b xs q=>by rw [upd_ne (hm b _ q fun z=>z)];exact q,fun b u xs q=>by rw [upd_ne (hm b _ q fun z=>z)];exact q,fun b ps q=>⟨#[],by rw [upd_ne (hm b _ q fun z=>z),q];simp⟩⟩
 by_cases hbe:b=e
 ·subst hbe;exact heo
 ·exact⟨u,k b u hbe q⟩
end
noncomputable def trk (h:Heap) (H:Hp):List Addr:=(List.range h.objs.size).filter fun a=>(H a).isSome
noncomputable def hidT (h:Heap) (H:Hp):Heap:=PySem.W.hideAll h (trk h H)
theorem hidT_size (h:Heap) (H:Hp):(hidT h H).objs.size=h.objs.size:=PySem.W.hideAll_size _ _
theorem hidT_get {h:Heap} {H:Hp} {b:Addr} {o:Obj} (e:h.get? b=some o) (n:H b=none):(hidT h H).get? b=some o :=
 PySem.W.hideAll_get _ e fun hm=>by
  have q:(H b).isSome=true:=(List.mem_filter.mp hm).2
  rw [n] at q;simp at q
theorem of_hidT {h:Heap} {H:Hp} {b:Addr} {o:Obj} (e:(hidT h H).get? b=some o):h.get? b=some o∧H b=none:=by
 have e':h.get? b=some o:=PySem.W.of_hideAll (trk h H) e
 refine⟨e',?_⟩
 cases q:H b with
 | none=>rfl
 | some x =>
  have hm:b∈trk h H:=List.mem_filter.mpr ⟨List.mem_range.mpr (Heap.lt_size e'),by simp [q]⟩
  have z:(hidT h H).get? b=none:=PySem.W.hideAll_none (trk h H) hm
  rw [z] at e;cases e
noncomputable def allNews (g h:Heap) (L:Addr):List (Addr×Obj):=(List.range h.objs.size).filterMap fun a=>if a=L∨(g.get? a).isSome=true then none else (h.get? a).map fun o=>(a,o)
noncomputable def rest (g h:Heap) (L d:Addr):List (Addr×Obj):=(allNews g h L).filter fun p=>decide (p.1≠d)
end L2
namespace L2
open PySem PySem.Spec PyProof.Rows
structure Mod (K:PySem.W.Frag) (mg:Str→Option Value) (base:Heap):Prop where
 kin:K.In base
 glob:base.Ns mainGlobals mg
 blt:∃ mb,base.Ns builtinsNs mb∧∀ x:Str,x≠"__name__"→mb x=bootBuiltins x
 nolimit:base.NoLimit
structure Cx where
 prog:Program
 w:World
 K:PySem.W.Frag
 mg:Str→Option Value
 base:Heap
 A:Around
 N:List Str
 s₀:Shared
 H₀:Hp
 env:Env
 outer:List Env
 stack:List Env
 ex:List Addr
 fn:Str→Bool
 calm:Bool
 pn:List (Addr×Obj)
 xe:Value→Shared→Prop
noncomputable def frs (l:List Env):List Addr:=l.filterMap (·.frame)
noncomputable abbrev Cx.fs (X:Cx):List Addr:=frs X.outer
noncomputable def Vis (sc:Scope) (x:Str):Prop:=sc.names.lookup x=some .local∨sc.names.lookup x=some .cell∨sc.names.lookup x=some .free
noncomputable def Loc (sc:Scope) (x:Str):Prop:=sc.names.lookup x=some .local∨sc.names.lookup x=some .cell
noncomputable def Look (env:Env) (h:Heap) (m:Str→Option Value) (x:Str) (u:Value):Prop :=
 (env.kindOf x=some .local∧m x=some u)∨((env.kindOf x=some .cell∨env.kindOf x=some .free)∧∃ c,env.cells.lookup x=some c∧h.IsCell c (some u))
structure Cx.Ok (X:Cx):Prop where
 mod:Mod X.K X.mg X.base
 kind:X.env.scope.kind=.function
 glob:X.env.globals=mainGlobals
 blt:X.env.builtins=builtinsNs
 above:X.s₀.heap.objs.size≤X.env.locals
 inj:∀ x y c,X.env.cells.lookup x=some c→X.env.cells.lookup y=some c→x=y
 has:∀ x,(X.env.kindOf x=some .cell∨X.env.kindOf x=some .free)→∃ c,X.env.cells.lookup x=some c
 cab:∀ x c,X.fn x=true→X.env.cells.lookup x=some c→X.s₀.heap.objs.size≤c
 hd:X.calm=true→X.A.handled=none
 frames:X.A.frames=some X.stack
 stk:X.stack=X.outer∨(X.stack=X.env::X.outer∧X.env.frame=some X.env.locals)
 exf:∀ b∈X.ex,b≠X.env.locals∧∀ x c,X.env.cells.lookup x=some c→c≠b
 bs:∀ b o,X.base.get? b=some o→X.s₀.heap.get? b=some o∧X.H₀ b=none
 bsz:X.base.objs.size≤X.s₀.heap.objs.size
 noex:∀ b o,X.base.get? b=some o→b∉X.ex
 exfs:∀ b∈X.ex,b∉X.fs
 funs:X.s₀.heap.FunFrames X.base X.outer
 frf:∀ b∈X.fs,X.H₀ b=none
structure Inv (X:Cx) (pins:List (Addr×Obj)) (σ:List (Option V)) (H:Hp) (s:Shared):Prop where
 ok:X.Ok
 os:s.os=X.s₀.os
 bare:AllBare s.gens
 base:Un X.fs X.ex X.H₀ H X.s₀.heap s.heap
 loc:∃ m,s.heap.Ns X.env.locals m∧∀ (i:Nat) (x:Str) (v:V),X.N[i]?=some x→σ[i]?=some (some v)→Vis X.env.scope x→∃ u,RelV v u∧Look X.env s.heap m x u
 cell:∀ x c,X.env.cells.lookup x=some c→∃ v,s.heap.IsCell c v
 free:H X.env.locals=none
 freeC:∀ x c,X.env.cells.lookup x=some c→H c=none
 pin:∀ p∈X.pn++pins,s.heap.get? p.1=some p.2∧H p.1=none∧p.1≠X.env.locals∧p.1∉X.fs∧∀ v,p.2.data≠.cell v
 hok:HOk X.prog X.w H s.heap
 len:σ.length=X.N.length
section
variable {X:Cx} {pins:List (Addr×Obj)} {σ:List (Option V)} {H H':Hp} {s:Shared} {h':Heap}
theorem Cx.Ok.nofr (ok:X.Ok) {b:Addr} {o:Obj} (e:X.base.get? b=some o):b∉X.fs:=fun hb=>by
 have:=(ok.funs.mem hb).1
 rw [e] at this;cases this
theorem Inv.bs (I:Inv X pins σ H s):∀ b o,X.base.get? b=some o→s.heap.get? b=some o∧H b=none:=fun b o e =>
 ⟨I.base.keep b o (I.ok.bs b o e).1 (I.ok.bs b o e).2 (I.ok.nofr e) (I.ok.noex b o e),I.base.free b o (I.ok.bs b o e).1 (I.ok.bs b o e).2 (I.ok.noex b o e)⟩
theorem Inv.bk (I:Inv X pins σ H s):∀ b o,X.base.get? b=some o→s.heap.get? b=some o:=fun b o e=>(I.bs b o e).1
theorem Inv.mod (I:Inv X pins σ H s):Mod X.K X.mg X.base:=I.ok.mod
theorem Inv.kIn (I:Inv X pins σ H s):X.K.In s.heap:=I.ok.mod.kin.keeps I.bk
theorem Inv.nolimit (I:Inv X pins σ H s):s.heap.NoLimit:=I.ok.mod.nolimit.keeps I.bk
theorem Inv.lt (I:Inv X pins σ H s):X.env.locals<s.heap.objs.size:=let ⟨_,hn,_⟩:=I.loc;hn.lt
theorem Inv.sz (I:Inv X pins σ H s):X.s₀.heap.objs.size≤s.heap.objs.size:=Nat.le_trans I.ok.above (Nat.le_of_lt I.lt)
theorem Inv.nofs (I:Inv X pins σ H s) {a:Addr} (h:s.heap.objs.size≤a):a∉X.fs:=fun hb=>by
 obtain ⟨_,o,ho,_⟩:=I.ok.funs.mem hb
 exact absurd (Nat.lt_of_lt_of_le (Heap.lt_size ho) (Nat.le_trans I.sz h)) (Nat.lt_irrefl _)
theorem Inv.cne (I:Inv X pins σ H s):∀ x c,X.env.cells.lookup x=some c→c≠X.env.locals:=fun x c e z=>by
 obtain ⟨v,o,ho,hd⟩:=I.cell x c e
 obtain ⟨m,⟨o',es,ep,ho',hd',_⟩,_⟩:=I.loc
 rw [z,ho'] at ho;cases ho;rw [hd'] at hd;cases hd
theorem Inv.funs (I:Inv X pins σ H s):s.heap.FunFrames X.base X.outer:=by
 have all:∀ (l:List Env),(∀ b∈frs l,b∈X.fs)→X.s₀.heap.FunFrames X.base l→s.heap.FunFrames X.base l:=by
  intro l
  induction l with
  | nil=>intro _ _;trivial
  | cons env r ih =>
   intro hs hl
   obtain ⟨hk,⟨L,o,hf,hn,ho,hd⟩,hr⟩:=hl
   have hL:L∈X.fs:=hs L (by unfold frs;rw [List.filterMap_cons,hf];exact List.mem_cons_self)
   obtain ⟨sl,e⟩:=I.base.slot L o ho (I.ok.frf L hL) hL fun z=>I.ok.exfs L z hL
   exact⟨hk,⟨L,_,hf,hn,e,hd⟩,ih (fun b hb=>hs b (by unfold frs;rw [List.filterMap_cons,hf];exact List.mem_cons_of_mem _ hb)) hr⟩
 exact all X.outer (fun _ hb=>hb) I.ok.funs
theorem Inv.stack (I:Inv X pins σ H s):s.heap.FunFrames X.base X.stack:=by
 rcases I.ok.stk with e|⟨e,hf⟩
 ·rw [e];exact I.funs
 ·rw [e]
  obtain ⟨m,hn,_⟩:=I.loc
  refine .cons (by rw [I.ok.kind];decide) hf hn ?_ I.funs
  exact Heap.get?_none_of_le (Nat.le_trans I.ok.bsz I.ok.above)
theorem Inv.stkSub (I:Inv X pins σ H s):∀ b∈frs X.stack,b∈X.env.locals::X.fs:=fun b hb=>by
 rcases I.ok.stk with e|⟨e,hf⟩
 ·rw [e] at hb;exact List.mem_cons_of_mem _ hb
 ·rw [e] at hb
  unfold frs at hb
  rw [List.filterMap_cons,hf] at hb
  exact hb
theorem Inv.stkFree (I:Inv X pins σ H s):∀ b∈frs X.stack,H b=none:=fun b hb=>by
 rcases List.mem_cons.mp (I.stkSub b hb) with e|hb
 ·rw [e];exact I.free
 ·obtain ⟨_,o,ho,_⟩:=I.ok.funs.mem hb
  exact I.base.free b o ho (I.ok.frf b hb) fun z=>I.ok.exfs b z hb
theorem Inv.step {g':Array GenState} {t':Nat} {d':Drawn} {ch:List Addr} (I:Inv X pins σ H s)
  (hch:∀ b∈ch,(b∈X.ex∨X.s₀.heap.objs.size≤b)∧b≠X.env.locals∧(∀ x c,X.env.cells.lookup x=some c→c≠b)∧∀ p∈X.pn++pins,p.1≠b)
  (keep:∀ b o,b≠X.env.locals→b∉X.fs→b∉ch→s.heap.get? b=some o→H b=none→h'.get? b=some o)
  (slot:∀ b o,b≠X.env.locals→b∈X.fs→b∉ch→s.heap.get? b=some o→H b=none→∃ sl,h'.get? b=some { o with slots:=sl }) (free:∀ b o,b∉ch→s.heap.get? b=some o→H b=none→H' b=none)
  (there:∀ b o,b∉ch→s.heap.get? b=some o→∃ o',h'.get? b=some o')
  (tups:∀ b xs,H b=some (.tup xs)→H' b=some (.tup xs)) (frzs:∀ b o u,H b=some (.frz o u)→H' b=some (.frz o u)) (tbls:∀ b ps,H b=some (.tbl ps)→∃ more,H' b=some (.tbl (ps++more)))
  (ns:∀ m,s.heap.Ns X.env.locals m→h'.Ns X.env.locals m) (hok:HOk X.prog X.w H' h') (hg:AllBare g') :
  Inv X pins σ H' { s with heap:=h',gens:=g',drawn:=d',toks:=t' }:=by
 have neL:∀ b o,X.s₀.heap.get? b=some o→b≠X.env.locals:=fun b o e=>Nat.ne_of_lt (Nat.lt_of_lt_of_le (Heap.lt_size e) I.ok.above)
 have neC:∀ b o,X.s₀.heap.get? b=some o→b∉X.ex→b∉ch:=fun b o e hx hb=>by
  rcases (hch b hb).1 with z|z
  ·exact hx z
  ·exact absurd (Nat.lt_of_lt_of_le (Heap.lt_size e) z) (Nat.lt_irrefl _)
 have cellK:∀ x c,X.env.cells.lookup x=some c→∀ v,s.heap.IsCell c v→h'.IsCell c v:=fun x c e v ⟨o,ho,hd⟩=>by
  have nch:c∉ch:=fun z=>(hch c z).2.2.1 x c e rfl
  by_cases hc:c∈X.fs
  ·obtain ⟨sl,q⟩:=slot c o (I.cne x c e) hc nch ho (I.freeC x c e)
   exact⟨_,q,hd⟩
  ·exact⟨o,keep c o (I.cne x c e) hc nch ho (I.freeC x c e),hd⟩
 refine⟨I.ok,I.os,hg,⟨fun b o e n hb hx=>?_,fun b o e n hb hx=>?_,fun b o e n hx=>?_,fun b o e hx=>?_,fun b xs e=>tups b xs (I.base.tups b xs e),fun b o xs e=>frzs b o xs (I.base.frzs b o xs e),fun b ps e=>?_⟩,?_,fun x c e=>?_,?_,fun x c e=>?_,fun p hp=>?_,hok,I.len⟩
 ·exact keep b o (neL b o e) hb (neC b o e hx) (I.base.keep b o e n hb hx) (I.base.free b o e n hx)
 ·obtain ⟨sl,e1⟩:=I.base.slot b o e n hb hx
  obtain ⟨sl',e2⟩:=slot b _ (neL b o e) hb (neC b o e hx) e1 (I.base.free b o e n hx)
  exact⟨sl',e2⟩
 ·obtain ⟨o',e1⟩:=I.base.there b o e hx
  exact free b o' (neC b o e hx) e1 (I.base.free b o e n hx)
 ·obtain ⟨o',e1⟩:=I.base.there b o e hx
  exact there b o' (neC b o e hx) e1
 ·obtain ⟨m1,e1⟩:=I.base.tbls b ps e
  obtain ⟨m2,e2⟩:=tbls b _ e1
  exact⟨m1++m2,by rw [e2,Array.append_assoc]⟩
 ·obtain ⟨m,hn,hl⟩:=I.loc
  refine⟨m,ns m hn,fun i x v e1 e2 e3=>?_⟩
  obtain ⟨u,r,l⟩:=hl i x v e1 e2 e3
  refine⟨u,r,?_⟩
  rcases l with l|⟨k,c,e,z⟩
  ·exact .inl l
  ·exact .inr ⟨k,c,e,cellK x c e _ z⟩
 ·obtain ⟨v,z⟩:=I.cell x c e
  exact⟨v,cellK x c e v z⟩
 ·obtain ⟨m,⟨o,_,_,ho,_⟩,_⟩:=I.loc
  exact free _ o (fun z=>(hch _ z).2.1 rfl) ho I.free
 ·obtain ⟨v,o,ho,hd⟩:=I.cell x c e
  exact free c o (fun z=>(hch c z).2.2.1 x c e rfl) ho (I.freeC x c e)
 ·obtain ⟨e,n,ne,nf,d⟩:=I.pin p hp
  have nch:p.1∉ch:=fun z=>(hch p.1 z).2.2.2 p hp rfl
  exact⟨keep p.1 p.2 ne nf nch e n,free p.1 p.2 nch e n,ne,nf,d⟩
theorem Inv.un {t':Nat} (I:Inv X pins σ H s) (u:Un X.fs [] H H' s.heap h') (hok:HOk X.prog X.w H' h'):Inv X pins σ H' { s with heap:=h',toks:=t' }:=by
 obtain ⟨m,⟨o,es,ep,ho,r⟩,_⟩:=id I.loc
 obtain ⟨sl,hL⟩:=u.any ho I.free (by simp)
 exact I.step (g':=s.gens) (d':=s.drawn) (ch:=[]) (fun _ z=>nomatch z) (fun b o _ hb _ e n=>u.keep b o e n hb (by simp)) (fun b o _ hb _ e n=>u.slot b o e n hb (by simp)) (fun b o _ e n=>u.free b o e n (by simp)) (fun b o _ e=>u.there b o e (by simp)) u.tups u.frzs u.tbls (fun m' hm=>by
  obtain ⟨o',es',ep',ho',r'⟩:=hm
  rw [ho] at ho';cases ho'
  exact⟨_,es',ep',hL,r'⟩) hok I.bare
theorem Inv.call {g':Array GenState} {t':Nat} {d':Drawn} {ch:List Addr} (I:Inv X pins σ H s) (u:Un (frs X.stack) ch H H' s.heap h') (hok:HOk X.prog X.w H' h') (hg:AllBare g')
  (hch:∀ b∈ch,(b∈X.ex∨X.s₀.heap.objs.size≤b)∧b≠X.env.locals∧(∀ x c,X.env.cells.lookup x=some c→c≠b)∧∀ p∈X.pn++pins,p.1≠b) :
  Inv X pins σ H' { s with heap:=h',gens:=g',drawn:=d',toks:=t' }:=by
 obtain ⟨m,⟨o,es,ep,ho,r⟩,_⟩:=id I.loc
 obtain ⟨sl,hL⟩:=u.any ho I.free fun z=>(hch _ z).2.1 rfl
 exact I.step (ch:=ch) hch (fun b o hL hb hc e n=>u.keep b o e n (fun z=>(List.mem_cons.mp (I.stkSub b z)).elim hL hb) hc) (fun b o _ _ hc e n=>u.any e n hc) (fun b o hc e n=>u.free b o e n hc) (fun b o hc e=>u.there b o e hc) u.tups u.frzs u.tbls (fun m' hm=>by
  obtain ⟨o',es',ep',ho',r'⟩:=hm
  rw [ho] at ho';cases ho'
  exact⟨_,es',ep',hL,r'⟩) hok hg
theorem Inv.turned {t':Nat} {it:Addr} (I:Inv X pins σ H s) (k:∀ b o,b≠it→s.heap.get? b=some o→h'.get? b=some o) (hn:H it=none) (hL:it≠X.env.locals)
  (h1:it∈X.ex∨X.s₀.heap.objs.size≤it) (h2:∀ x c,X.env.cells.lookup x=some c→c≠it) (h3:∀ p∈X.pn++pins,p.1≠it):Inv X pins σ H { s with heap:=h',toks:=t' }:=by
 have nit:∀ b u,H b=some u→b≠it:=fun b u e z=>by rw [z,hn] at e;cases e
 refine I.step (g':=s.gens) (d':=s.drawn) (ch:=[it]) (fun b hb=>?_) (fun b o _ _ hc e _=>k b o (fun z=>hc (by simp [z])) e) (fun b o _ _ hc e _=>⟨o.slots,k b o (fun z=>hc (by simp [z])) e⟩) (fun _ _ _ _ n=>n)
  (fun b o hc e=>⟨o,k b o (fun z=>hc (by simp [z])) e⟩) (fun _ _ e=>e) (fun _ _ _ e=>e) (fun b ps e=>⟨#[],by rw [e];simp⟩) (fun m hm=>?_) (fun b u e=>?_) I.bare
 ·have e:b=it:=by simpa using hb
  subst e
  exact⟨h1,hL,h2,h3⟩
 ·obtain ⟨o,es,ep,ho,r⟩:=hm
  exact⟨o,es,ep,k _ o (Ne.symm hL) ho,r⟩
 ·refine (I.hok b u e).stay (fun c v hc q=>k c v ?_ q) (fun _ q=>q) fun _ _ q=>q
  rcases hc with z|z
  ·rw [z];exact nit b u e
  ·exact nit c _ z
theorem Inv.tok (I:Inv X pins σ H s) (t:Nat):Inv X pins σ H { s with toks:=t }:=I.un (h':=s.heap) (t':=t) Un.refl I.hok
theorem Inv.kept {t':Nat} (I:Inv X pins σ H s) (k:∀ b u,s.heap.get? b=some u→h'.get? b=some u):Inv X pins σ H { s with heap:=h',toks:=t' }:=I.un (Un.kept k) (I.hok.kept k)
theorem Inv.laid {a:Addr} {o:HO} {t':Nat} (I:Inv X pins σ H s) (k:∀ b u,s.heap.get? b=some u→h'.get? b=some u) (hp:s.heap.objs.size≤a) (new:ObjOk X.prog X.w (upd H a o) h' a o) :
  Inv X pins σ (upd H a o) { s with heap:=h',toks:=t' }:=I.un (Un.laid k hp (I.hok.fresh hp)) (I.hok.laid k hp new)
theorem Inv.write {x e:Addr} {o:HO} {t':Nat} (I:Inv X pins σ H s) (mu:Mut (H x)) (he:e=x∨H e=some (.own x)) (k:∀ b u,b≠e→s.heap.get? b=some u→h'.get? b=some u) (heo:∃ u,h'.get? e=some u)
  (new:ObjOk X.prog X.w (upd H x o) h' x o):Inv X pins σ (upd H x o) { s with heap:=h',toks:=t' }:=I.un (Un.write mu he k heo) (I.hok.write mu he k heo new)
theorem Inv.pins_of {pins':List (Addr×Obj)} (I:Inv X pins σ H s) (h:∀ p∈pins',s.heap.get? p.1=some p.2∧H p.1=none∧p.1≠X.env.locals∧p.1∉X.fs∧∀ v,p.2.data≠.cell v):Inv X pins' σ H s :=
 ⟨I.ok,I.os,I.bare,I.base,I.loc,I.cell,I.free,I.freeC,fun p hp=>(List.mem_append.mp hp).elim (fun z=>I.pin p (List.mem_append_left _ z)) (h p),I.hok,I.len⟩
theorem nodup_ix {N:List Str} (hN:N.Nodup) {i j:Nat} {x:Str} (a:N[i]?=some x) (b:N[j]?=some x):i=j:=by
 obtain ⟨h1,e1⟩:=List.getElem?_eq_some_iff.mp a
 obtain ⟨h2,e2⟩:=List.getElem?_eq_some_iff.mp b
 exact (List.getElem_inj hN).mp (e1.trans e2.symm)
theorem store_ok2 {M:Model} {A:Around} {E:Value→Shared→Prop} {i:Nat} {x:Str} {v:V} {u:Value} {Q:Unit→Shared→Prop} (I:Inv X pins σ H s) (hN:X.N.Nodup) (hi:X.N[i]?=some x) (hx:Loc X.env.scope x) (r:RelV v u)
  (h:∀ s',Inv X pins (σ.set i (some v)) H s'→(∃ a,Heap.SameBut a s.heap s'.heap∧(a=X.env.locals∨X.env.cells.lookup x=some a))→Q () s') (hf:X.fn x=true∨X.env.scope.names.lookup x=some .local:=by first|exact .inl rfl|exact .inr rfl|assumption):wpAny M A (storeName X.env x u) Q E s:=by
 obtain ⟨m,hn,hl⟩:=id I.loc
 have hcls:(X.env.scope.kind == .class || (X.env.scope.kind == .module && X.env.locals != X.env.globals))=false:=by rw [I.ok.kind];rfl
 have hiσ:i<σ.length:=by rw [I.len];exact (List.getElem?_eq_some_iff.mp hi).1
 have cne:=I.cne
 have tracked:∀ {a:Addr} {h':Heap},(∃ o,s.heap.get? a=some o∧H a=none)→Heap.SameBut a s.heap h'→HOk X.prog X.w H h':=fun {a h'} ha hs b ob e=>by
  obtain ⟨_,_,hfree⟩:=ha
  refine (I.hok b ob e).stay (fun c w' hc q=>(hs.2 c ?_).trans q) (fun _ q=>q) fun _ _ q=>q
  rintro rfl
  rcases hc with rfl|hc
  ·rw [hfree] at e;cases e
  ·rw [hfree] at hc;cases hc
 rcases hx with hk|hk
 ·refine wpAny_storeName_local hk hn (fun h' hn' hs=>?_) hcls
  obtain ⟨oL,_,_,hoL,_⟩:=id hn
  refine h _ ⟨I.ok,I.os,I.bare,⟨fun b o e n hb hx=>?_,fun b o e n hb hx=>?_,I.base.free,fun b o e hx=>?_,I.base.tups,I.base.frzs,I.base.tbls⟩,⟨_,hn',fun j y v' e1 e2 e3=>?_⟩,fun y c e=>?_,I.free,I.freeC,fun p hp=>?_,tracked ⟨oL,hoL,I.free⟩ hs,by simpa using I.len⟩ ⟨_,hs,.inl rfl⟩
  ·exact (hs.2 b (Nat.ne_of_lt (Nat.lt_of_lt_of_le (Heap.lt_size e) I.ok.above))).trans (I.base.keep b o e n hb hx)
  ·obtain ⟨sl,e1⟩:=I.base.slot b o e n hb hx
   exact⟨sl,(hs.2 b (Nat.ne_of_lt (Nat.lt_of_lt_of_le (Heap.lt_size e) I.ok.above))).trans e1⟩
  ·obtain ⟨o',e1⟩:=I.base.there b o e hx
   exact⟨o',(hs.2 b (Nat.ne_of_lt (Nat.lt_of_lt_of_le (Heap.lt_size e) I.ok.above))).trans e1⟩
  ·by_cases hj:j=i
   ·subst hj
    rw [hi] at e1;cases e1
    rw [List.getElem?_set_self hiσ] at e2
    cases e2
    exact⟨u,r,.inl ⟨hk,by simp⟩⟩
   ·rw [List.getElem?_set_ne (Ne.symm hj)] at e2
    obtain ⟨u',r',q⟩:=hl j y v' e1 e2 e3
    refine⟨u',r',?_⟩
    rcases q with ⟨k,e⟩|⟨k,c,e,z⟩
    ·refine .inl ⟨k,?_⟩
     have:y≠x:=fun e=>hj (nodup_ix hN e1 (e ▸ hi))
     simp [this,e]
    ·exact .inr ⟨k,c,e,z.sameBut hs (cne y c e)⟩
  ·obtain ⟨w',z⟩:=I.cell y c e
   exact⟨w',z.sameBut hs (cne y c e)⟩
  ·obtain ⟨e,n,ne,nf,d⟩:=I.pin p hp
   exact⟨(hs.2 p.1 ne).trans e,n,ne,nf,d⟩
 ·have hfn:X.fn x=true:=by
   rcases hf with z|z
   ·exact z
   ·rw [z] at hk;cases hk
  obtain ⟨c,hc⟩:=I.ok.has x (.inl hk)
  obtain ⟨w',z⟩:=I.cell x c hc
  refine wpAny_storeName_cell I.ok.kind hk hc z (fun h' hc' hs=>?_)
  obtain ⟨oc,hoc,hocd⟩:=id z
  refine h { s with heap:=h' } ⟨I.ok,I.os,I.bare,⟨fun b o e n hb hx=>?_,fun b o e n hb hx=>?_,I.base.free,fun b o e hx=>?_,I.base.tups,I.base.frzs,I.base.tbls⟩,⟨m,hn.sameBut hs (Ne.symm (cne x c hc)),fun j y v' e1 e2 e3=>?_⟩,fun y c' e=>?_,I.free,I.freeC,fun p hp=>?_,tracked ⟨oc,hoc,I.freeC x c hc⟩ hs,by simpa using I.len⟩ ⟨c,hs,.inr hc⟩
  ·exact (hs.2 b (Nat.ne_of_lt (Nat.lt_of_lt_of_le (Heap.lt_size e) (I.ok.cab x c hfn hc)))).trans (I.base.keep b o e n hb hx)
  ·obtain ⟨sl,e1⟩:=I.base.slot b o e n hb hx
   exact⟨sl,(hs.2 b (Nat.ne_of_lt (Nat.lt_of_lt_of_le (Heap.lt_size e) (I.ok.cab x c hfn hc)))).trans e1⟩
  ·obtain ⟨o',e1⟩:=I.base.there b o e hx
   exact⟨o',(hs.2 b (Nat.ne_of_lt (Nat.lt_of_lt_of_le (Heap.lt_size e) (I.ok.cab x c hfn hc)))).trans e1⟩
  ·by_cases hj:j=i
   ·subst hj
    rw [hi] at e1;cases e1
    rw [List.getElem?_set_self hiσ] at e2
    cases e2
    exact⟨u,r,.inr ⟨.inl hk,c,hc,hc'⟩⟩
   ·rw [List.getElem?_set_ne (Ne.symm hj)] at e2
    obtain ⟨u',r',q⟩:=hl j y v' e1 e2 e3
    refine⟨u',r',?_⟩
    rcases q with q|⟨k,c',e,z'⟩
    ·exact .inl q
    ·refine .inr ⟨k,c',e,z'.sameBut hs ?_⟩
     rintro rfl
     exact hj (nodup_ix hN e1 (I.ok.inj _ _ _ e hc ▸ hi))
  ·by_cases hcc:c'=c
   ·subst hcc;exact⟨_,hc'⟩
   ·obtain ⟨w2,z2⟩:=I.cell y c' e
    exact⟨w2,z2.sameBut hs hcc⟩
  ·obtain ⟨e,n,ne,nf,d⟩:=I.pin p hp
   refine⟨(hs.2 p.1 ?_).trans e,n,ne,nf,d⟩
   intro q
   rw [q,hoc] at e
   have q':oc=p.2:=Option.some.inj e
   exact d w' (by rw [← q'];exact hocd)
theorem store_ok {M:Model} {A:Around} {E:Value→Shared→Prop} {i:Nat} {x:Str} {v:V} {u:Value} {Q:Unit→Shared→Prop} (I:Inv X pins σ H s) (hN:X.N.Nodup) (hi:X.N[i]?=some x) (hx:Loc X.env.scope x) (r:RelV v u)
  (h:∀ s',Inv X pins (σ.set i (some v)) H s'→Q () s') (hf:X.fn x=true∨X.env.scope.names.lookup x=some .local:=by first|exact .inl rfl|exact .inr rfl|assumption):wpAny M A (storeName X.env x u) Q E s :=
 store_ok2 I hN hi hx r (fun s' I' _=>h s' I') hf
theorem Inv.call' {s':Shared} {ch:List Addr} (I:Inv X pins σ H s) (ho:s'.os=s.os) (u:Un (frs X.stack) ch H H' s.heap s'.heap) (hok:HOk X.prog X.w H' s'.heap) (hg:AllBare s'.gens)
  (hch:∀ b∈ch,(b∈X.ex∨X.s₀.heap.objs.size≤b)∧b≠X.env.locals∧(∀ x c,X.env.cells.lookup x=some c→c≠b)∧∀ p∈X.pn++pins,p.1≠b):Inv X pins σ H' s':=by
 obtain ⟨h',g',d',t',o'⟩:=s'
 have e:o'=s.os:=ho
 subst e
 exact I.call (g':=g') (t':=t') (d':=d') u hok hg hch
end
noncomputable abbrev XK:=Value→Option Addr→Hp→Prop
noncomputable abbrev St:=List (Option V)
noncomputable abbrev VK:=V→Hp→Prop
noncomputable abbrev TE:=St→Hp→VK→Prop
noncomputable abbrev TT:=St→Hp→(Bool→Hp→Prop)→Prop
noncomputable abbrev TA:=St→Hp→(List V→Hp→Prop)→Prop
structure Ends where
 nx:St→Hp→Prop
 rt:VK
 bk:St→Hp→Prop:=fun _ _=>False
 ct:St→Hp→Prop:=fun _ _=>False
noncomputable abbrev TS:=Ends→St→Hp→Prop
noncomputable def EP (X:Cx) (pins:List (Addr×Obj)) (σ:St) (Q:VK) (u:Value) (s':Shared):Prop:=∃ v H',Inv X pins σ H' s'∧RelV v u∧Q v H'
noncomputable def TP (X:Cx) (pins:List (Addr×Obj)) (σ:St) (Q:Bool→Hp→Prop) (b:Bool) (s':Shared):Prop:=∃ H',Inv X pins σ H' s'∧Q b H'
noncomputable def AP (X:Cx) (pins:List (Addr×Obj)) (σ:St) (Q:List V→Hp→Prop) (us:List Value) (s':Shared):Prop:=∃ vs H',Inv X pins σ H' s'∧Vals vs us∧Q vs H'
noncomputable def SP (X:Cx) (pins:List (Addr×Obj)) (D:Ends) (f:Flow) (s':Shared):Prop :=
 match f with
 | .next=>∃ σ' H',Inv X pins σ' H' s'∧D.nx σ' H'
 | .brk=>∃ σ' H',Inv X pins σ' H' s'∧D.bk σ' H'
 | .cont=>∃ σ' H',Inv X pins σ' H' s'∧D.ct σ' H'
 | .ret u=>∃ v σ' H',Inv X pins σ' H' s'∧RelV v u∧D.rt v H'
noncomputable def PE (X:Cx) (e:Expr) (t:TE):Prop :=
 ∀ (pins:List (Addr×Obj)) (s:Shared) (σ:St) (H:Hp) (Q:VK),Inv X pins σ H s→t σ H Q→wpAny (model X.prog X.w) X.A (eval e X.env) (EP X pins σ Q) X.xe s
noncomputable def PT (X:Cx) (e:Expr) (t:TT):Prop :=
 ∀ (pins:List (Addr×Obj)) (s:Shared) (σ:St) (H:Hp) (Q:Bool→Hp→Prop),Inv X pins σ H s→t σ H Q→wpAny (model X.prog X.w) X.A (isTrue e X.env (eval e X.env)) (TP X pins σ Q) X.xe s
noncomputable def PW (X:Cx) (e:Expr) (t:TT):Prop :=
 ∀ (whole:Sem Value) (pins:List (Addr×Obj)) (s:Shared) (σ:St) (H:Hp) (Q:Bool→Hp→Prop),Inv X pins σ H s→t σ H Q→wpAny (model X.prog X.w) X.A (isTrue e X.env whole) (TP X pins σ Q) X.xe s
theorem PW.pt {X:Cx} {e:Expr} {t:TT} (h:PW X e t):PT X e t:=h _
noncomputable def PA (X:Cx) (es:List Expr) (t:TA):Prop :=
 ∀ (pos:Pos) (pins:List (Addr×Obj)) (s:Shared) (σ:St) (H:Hp) (Q:List V→Hp→Prop),Inv X pins σ H s→t σ H Q→wpAny (model X.prog X.w) X.A (spliced (backTo pos (starEach es X.env))) (AP X pins σ Q) X.xe s
noncomputable def PS (X:Cx) (st:Stmt) (t:TS):Prop :=
 ∀ (pins:List (Addr×Obj)) (s:Shared) (σ:St) (H:Hp) (D:Ends),Inv X pins σ H s→t D σ H→wpAny (model X.prog X.w) X.A (exec st X.env) (SP X pins D) X.xe s
noncomputable def PSs (X:Cx) (st:List Stmt) (t:TS):Prop :=
 ∀ (pins:List (Addr×Obj)) (s:Shared) (σ:St) (H:Hp) (D:Ends),Inv X pins σ H s→t D σ H→wpAny (model X.prog X.w) X.A (execs st X.env) (SP X pins D) X.xe s
theorem thn {α:Type} {t:Sem α} {Q Q':α→Shared→Prop} {M:Model} {A:Around} {E:Value→Shared→Prop} {s:Shared} (h:wpAny M A t Q E s) (hQ:∀ a s,Q a s→Q' a s):wpAny M A t Q' E s:=wpAny_mono h hQ fun _ _ x=>x
end L2
namespace L2
open PySem PySem.Spec PyProof.Rows
section
variable {X:Cx}
theorem bin {a b:Expr} {ta tb:TE} (ha:PE X a ta) (hb:PE X b tb) {pins:List (Addr×Obj)} {s:Shared} {σ:St} {H:Hp} {R:V→V→Hp→Prop} (I:Inv X pins σ H s) (h:ta σ H fun x H1=>tb σ H1 fun y H2=>R x y H2)
  {α:Type} {Q:α→Shared→Prop} {f:Value→Value→Sem α}
  (hf:∀ v u s2 x y H2,Inv X pins σ H2 s2→RelV x v→RelV y u→R x y H2→wpAny (model X.prog X.w) X.A (f v u) Q X.xe s2) :
  wpAny (model X.prog X.w) X.A (eval a X.env) (fun v s₁=>wpAny (model X.prog X.w) X.A (eval b X.env) (fun u s₂=>wpAny (model X.prog X.w) X.A (f v u) Q X.xe s₂) X.xe s₁) X.xe s:=by
 refine thn (ha pins s σ H _ I h) fun v s1 ⟨x,H1,I1,r1,q1⟩=>?_
 refine thn (hb pins s1 σ H1 _ I1 q1) fun u s2 ⟨y,H2,I2,r2,q2⟩=>?_
 exact hf v u s2 x y H2 I2 r1 r2 q2
noncomputable def tVar (i:Nat):TE:=fun σ H Q=>∃ v,σ[i]?=some (some v)∧Q v H
noncomputable def tC (v:V):TE:=fun _ H Q=>Q v H
theorem pe_var {i:Nat} {x:Str} {pos:Pos} (hN:X.N[i]?=some x) (hv:Vis X.env.scope x) (hd:(x == ("__debug__":Str))=false:=by decide) (hcd:(x == ("__classdict__":Str))=false:=by decide):PE X (.Name x pos) (tVar i):=by
 intro pins s σ H Q I h
 obtain ⟨v,e,h⟩:=h
 obtain ⟨m,hn,hl⟩:=I.loc
 obtain ⟨u,r,l⟩:=hl i x v hN e hv
 have fin:EP X pins σ Q u s:=⟨v,H,I,r,h⟩
 rcases l with ⟨hk,hm⟩|⟨hk,c,hc,hcell⟩
 ·exact wpAny_Name (wpAny_loadName_local I.ok.kind hk hn hm fin) hd
 ·rcases hk with hk|hk
  ·exact wpAny_Name (wpAny_loadName_cell I.ok.kind hk hc hcell fin) hd
  ·exact wpAny_Name (wpAny_loadName_free I.ok.kind hk hc hcell fin hcd) hd
theorem pe_int {i j pos}:PE X (.Constant (.int i) j pos) (tC (.int i)):=fun _ _ _ H _ I h=>wpAny_Constant_int ⟨.int i,H,I.tok _,⟨_,rfl⟩,h⟩
theorem pe_bl {b j pos}:PE X (.Constant (.bool b) j pos) (tC (.bl b)):=fun _ _ _ H _ I h=>Constant_bool ⟨.bl b,H,I,rfl,h⟩
theorem pe_non {j pos}:PE X (.Constant .none j pos) (tC .non):=fun _ _ _ H _ I h=>Constant_none ⟨.non,H,I,rfl,h⟩
noncomputable def Gl (X:Cx) (x:Str):Prop:=X.env.kindOf x=some .globalImplicit
theorem ld_glob {E:Value→Shared→Prop} {pins:List (Addr×Obj)} {s:Shared} {σ:St} {H:Hp} {x:Str} {u:Value} {pos:Pos} {Q:Value→Shared→Prop} (I:Inv X pins σ H s) (hg:Gl X x) (hm:X.mg x=some u) (h:Q u s)
  (hd:(x == ("__debug__":Str))=false:=by decide):wpAny (model X.prog X.w) X.A (eval (.Name x pos) X.env) Q E s :=
 Calls.Name_function_global I.ok.kind hg (Calls.loadGlobal_global (by rw [I.ok.glob];exact I.mod.glob.keeps I.bk) hm h) hd
theorem ld_blt {E:Value→Shared→Prop} {pins:List (Addr×Obj)} {s:Shared} {σ:St} {H:Hp} {x:Str} {u:Value} {pos:Pos} {Q:Value→Shared→Prop} (I:Inv X pins σ H s) (hg:Gl X x) (hm:X.mg x=none) (hv:bootBuiltins x=some u) (h:Q u s)
  (hn:x≠"__name__":=by decide) (hd:(x == ("__debug__":Str))=false:=by decide):wpAny (model X.prog X.w) X.A (eval (.Name x pos) X.env) Q E s:=by
 obtain ⟨mb,h1,h2⟩:=I.mod.blt
 exact Calls.Name_function_global I.ok.kind hg (Calls.loadGlobal_builtin (by rw [I.ok.glob];exact I.mod.glob.keeps I.bk) hm (by rw [I.ok.blt];exact h1.keeps I.bk) ((h2 x hn).trans hv) h) hd
theorem pe_glob {x:Str} {v:V} {u:Value} {pos:Pos} (hg:Gl X x) (hm:X.mg x=some u) (r:RelV v u) (hd:(x == ("__debug__":Str))=false:=by decide):PE X (.Name x pos) (tC v) :=
 fun _ _ _ H _ I h=>ld_glob I hg hm ⟨v,H,I,r,h⟩ hd
theorem pe_bltn {x:Str} {v:V} {u:Value} {pos:Pos} (hg:Gl X x) (hm:X.mg x=none) (hv:bootBuiltins x=some u) (r:RelV v u) (hn:x≠"__name__":=by decide) (hd:(x == ("__debug__":Str))=false:=by decide):PE X (.Name x pos) (tC v) :=
 fun _ _ _ H _ I h=>ld_blt I hg hm hv ⟨v,H,I,r,h⟩ hn hd
variable {a b:Expr} {ta tb:TE} {pos:Pos}
noncomputable def PC (X:Cx) (op:CmpOp) (a b:Expr) (t:TE):Prop :=
 ∀ (pins:List (Addr×Obj)) (s:Shared) (σ:St) (H:Hp) (Q:VK),Inv X pins σ H s→t σ H Q →
  wpAny (model X.prog X.w) X.A (eval a X.env) (fun v s₁=>wpAny (model X.prog X.w) X.A (eval b X.env) (fun u s₂=>wpAny (model X.prog X.w) X.A (compareOp op v u) (EP X pins σ Q) X.xe s₂) X.xe s₁) X.xe s
noncomputable def tB (t:TE):TT:=fun σ H Q=>t σ H fun x H1=>∃ c,x=.bl c∧Q c H1
theorem pt_cmp {op:CmpOp} {t:TE} (h:PC X op a b t) (h1:behindInMarks op b=false:=by first|exact nobehind _ (by decide) (by decide)|rfl):PT X (.Compare a [op] [b] pos) (tB t):=by
 intro pins s σ H Q I hw
 refine wpAny_isTrue_Compare1 (thn (h pins s σ H _ I hw) fun v s1 h1=>thn h1 fun u s2 h2=>thn h2 fun c s3 ⟨x,H1,I1,r1,q1⟩=>?_) h1
 obtain ⟨d,rfl,q⟩:=q1
 cases r1
 exact wpAny_truthy_bool ⟨H1,I1,q⟩
theorem pt_val {e:Expr} {t:TE} (h:PE X e t) (he:∀ whole,isTrue e X.env whole=(do let v ← whole;standAt e.pos;holding [v] (truthy v)):=by intro _;rfl):PT X e (tB t):=by
 intro pins s σ H Q I hw
 refine isTrue_plain (thn (h pins s σ H _ I hw) fun v s1 ⟨x,H1,I1,r1,q1⟩=>?_) (he _)
 obtain ⟨d,rfl,q⟩:=q1
 cases r1
 exact wpAny_truthy_bool ⟨H1,I1,q⟩
variable {tA tB':TT} {rest:List Expr}
noncomputable def tAnd (t u:TT):TT:=fun σ H Q=>t σ H fun c H1=>if c=true then u σ H1 Q else Q false H1
noncomputable def tOr (t u:TT):TT:=fun σ H Q=>t σ H fun c H1=>if c=true then Q true H1 else u σ H1 Q
noncomputable def tNot (t:TT):TT:=fun σ H Q=>t σ H fun c H1=>Q (!c) H1
theorem pw_and1 (ha:PT X a tA):PW X (.BoolOp .And [a] pos) tA:=by
 intro wh pins s σ H Q I h
 refine isTrue_and (thn (ha pins s σ H Q I h) fun c s1 e=>?_)
 cases c with
 | true=>exact isTrue_and_nil e
 | false=>exact e
theorem pw_or1 (ha:PT X a tA):PW X (.BoolOp .Or [a] pos) tA:=by
 intro wh pins s σ H Q I h
 refine isTrue_or (thn (ha pins s σ H Q I h) fun c s1 e=>?_)
 cases c with
 | false=>exact isTrue_or_nil e
 | true=>exact e
theorem pw_and (ha:PT X a tA) (hb:PW X (.BoolOp .And (b::rest) pos) tB'):PW X (.BoolOp .And (a::b::rest) pos) (tAnd tA tB'):=by
 intro wh pins s σ H Q I h
 refine isTrue_and (thn (ha pins s σ H _ I h) fun c s1 ⟨H1,I1,q1⟩=>?_)
 cases c with
 | true=>exact hb wh pins s1 σ H1 Q I1 q1
 | false=>exact⟨H1,I1,q1⟩
theorem pw_or (ha:PT X a tA) (hb:PW X (.BoolOp .Or (b::rest) pos) tB'):PW X (.BoolOp .Or (a::b::rest) pos) (tOr tA tB'):=by
 intro wh pins s σ H Q I h
 refine isTrue_or (thn (ha pins s σ H _ I h) fun c s1 ⟨H1,I1,q1⟩=>?_)
 cases c with
 | true=>exact⟨H1,I1,q1⟩
 | false=>exact hb wh pins s1 σ H1 Q I1 q1
theorem pt_not (ha:PT X a tA):PT X (.UnaryOp .Not a pos) (tNot tA):=by
 intro pins s σ H Q I h
 exact isTrue_not (ha pins s σ H (fun c H1=>Q (!c) H1) I h)
noncomputable def tAndV (ta tb:TE):TE:=fun σ H Q=>ta σ H fun x H1=>∃ c,x=.bl c∧if c=true then tb σ H1 Q else Q (.bl false) H1
noncomputable def tNotV (ta:TE):TE:=fun σ H Q=>ta σ H fun x H1=>∃ c,x=.bl c∧Q (.bl (!c)) H1
theorem pe_one {op} {t:TE} (h:PE X a t):PE X (.BoolOp op [a] pos) t:=fun pins s σ H Q I hw=>BoolOp_one (h pins s σ H Q I hw)
theorem pe_and (ha:PE X a ta) (hb:PE X (.BoolOp .And (b::rest) pos) tb):PE X (.BoolOp .And (a::b::rest) pos) (tAndV ta tb):=by
 intro pins s σ H Q I h
 refine BoolOp_and (thn (ha pins s σ H _ I h) fun v s1 ⟨x,H1,I1,r1,q1⟩=>?_)
 obtain ⟨c,rfl,q1⟩:=q1
 cases r1
 refine wpAny_truthy_bool ?_
 cases c with
 | true=>exact hb pins s1 σ H1 Q I1 q1
 | false=>exact⟨.bl false,H1,I1,rfl,q1⟩
theorem pe_not (ha:PE X a ta):PE X (.UnaryOp .Not a pos) (tNotV ta):=by
 intro pins s σ H Q I h
 refine UnaryOp_ (thn (ha pins s σ H _ I h) fun v s1 ⟨x,H1,I1,r1,q1⟩=>?_)
 obtain ⟨c,rfl,q1⟩:=q1
 cases r1
 exact not_of (wpAny_truthy_bool ⟨.bl (!c),H1,I1,rfl,q1⟩)
noncomputable def tIf (t:TT) (ta tb:TE):TE:=fun σ H Q=>t σ H fun c H1=>if c=true then ta σ H1 Q else tb σ H1 Q
theorem pe_ifExp {c:Expr} (hc:PT X c tA) (ha:PE X a ta) (hb:PE X b tb):PE X (.IfExp c a b pos) (tIf tA ta tb):=by
 intro pins s σ H Q I h
 refine wpAny_IfExp (thn (hc pins s σ H _ I h) fun d s1 ⟨H1,I1,q1⟩=>?_)
 cases d with
 | true=>exact ha pins s1 σ H1 Q I1 q1
 | false=>exact hb pins s1 σ H1 Q I1 q1
end
end L2
namespace L2
open PySem PySem.Spec PyProof.Rows
noncomputable def SqL (K:PySem.W.Frag) (H:Hp) (a:Addr) (xs:List V):Prop :=
 Rd H a (.lst xs) ∨
  ∃ (o:Obj) (its:Array Value) (n:Nat),K.lookup a=some o∧o.cls=.type "list"∧o.dict=none∧o.data=.seq its n∧its.size≤sizeLine∧Vals xs its.toList
noncomputable def SqT (K:PySem.W.Frag) (H:Hp) (a:Addr) (xs:List V):Prop :=
 Rd H a (.tup xs) ∨
  ∃ (o:Obj) (its:Array Value) (n:Nat),K.lookup a=some o∧o.cls=.type "tuple"∧o.data=.seq its n∧its.size≤sizeLine∧Vals xs its.toList
noncomputable def absV:Value→Option V
 | .none=>some .non
 | .bool b=>some (.bl b)
 | .int i _=>some (.int i)
 | .str x _=>some (.str x)
 | .bytes b _=>some (.byt b)
 | .float b _=>some (.flt b)
 | .ref a=>some (.ref a)
 | .type n=>some (.ty n)
 | _=>none
theorem RelV.abs {x:V} {u:Value} (r:RelV x u):absV u=some x:=by
 cases x with
 | non=>cases r;rfl
 | bl _=>cases r;rfl
 | int _=>obtain ⟨t,rfl⟩:=r;rfl
 | str _=>obtain ⟨t,rfl⟩:=r;rfl
 | byt _=>obtain ⟨t,rfl⟩:=r;rfl
 | flt _=>obtain ⟨t,rfl⟩:=r;rfl
 | ref _=>cases r;rfl
 | ty _=>cases r;rfl
theorem RelV.inj {x y:V} {u:Value} (r:RelV x u) (q:RelV y u):x=y:=Option.some.inj (r.abs.symm.trans q.abs)
theorem Vals.inj:∀ {xs ys:List V} {us:List Value},Vals xs us→Vals ys us→xs=ys
 | _,_,_,.nil,.nil=>rfl
 | _,_,_,.cons r t,.cons r' t'=>by rw [r.inj r',Vals.inj t t']
section
variable {X:Cx} {pins:List (Addr×Obj)} {σ:St} {H:Hp} {s:Shared} {a:Addr} {xs ys:List V}
theorem SqL.of {K:PySem.W.Frag} (h:H a=some (.lst xs)):SqL K H a xs:=.inl (.inl h)
theorem SqT.of {K:PySem.W.Frag} (h:H a=some (.tup xs)):SqT K H a xs:=.inl (.inl h)
theorem Inv.list (I:Inv X pins σ H s) (h:SqL X.K H a xs):∃ its:List Value,Vals xs its∧PlainL s.heap a its.toArray∧xs.length≤sizeLine:=by
 rcases h with h|⟨o,its,n,hk,hc,hd,hs,hz,r⟩
 ·obtain ⟨z,its,n,r,e⟩:=h.ok I.hok
  exact⟨its,r,⟨_,n,e,rfl,rfl,rfl⟩,z⟩
 ·refine⟨its.toList,r,⟨o,n,I.kIn a o hk,hc,hd,by simpa using hs⟩,?_⟩
  have e:=r.length
  simp only [Array.length_toList] at e
  lia
theorem Inv.tuple (I:Inv X pins σ H s) (h:SqT X.K H a xs):∃ its:List Value,Vals xs its∧IsTup s.heap a its.toArray∧xs.length≤sizeLine:=by
 rcases h with h|⟨o,its,n,hk,hc,hs,hz,r⟩
 ·obtain ⟨z,its,r,p⟩:=h.ok I.hok
  exact⟨its,r,p,z⟩
 ·refine⟨its.toList,r,⟨o,I.kIn a o hk,hc,n,by simpa using hs⟩,?_⟩
  have e:=r.length
  simp only [Array.length_toList] at e
  lia
theorem Inv.list_inj (I:Inv X pins σ H s) (h:SqL X.K H a xs) (h':SqL X.K H a ys):xs=ys:=by
 obtain ⟨its,r,⟨o,n,e,_,_,d⟩,_⟩:=I.list h
 obtain ⟨its',r',⟨o',n',e',_,_,d'⟩,_⟩:=I.list h'
 rw [e] at e';cases e'
 rw [d] at d'
 injection d' with d1 _
 have:its=its':=by simpa using congrArg Array.toList d1
 subst this
 exact r.inj r'
theorem Inv.tuple_inj (I:Inv X pins σ H s) (h:SqT X.K H a xs) (h':SqT X.K H a ys):xs=ys:=by
 obtain ⟨its,r,⟨o,e,_,n,d⟩,_⟩:=I.tuple h
 obtain ⟨its',r',⟨o',e',_,n',d'⟩,_⟩:=I.tuple h'
 rw [e] at e';cases e'
 rw [d] at d'
 injection d' with d1 _
 have:its=its':=by simpa using congrArg Array.toList d1
 subst this
 exact r.inj r'
end
noncomputable abbrev Cx.wish (X:Cx) (E:Value→Shared→Prop):Cx:={ X with xe:=E }
noncomputable abbrev Cx.nox (X:Cx):Cx:=X.wish fun _ _=>False
theorem Cx.Ok.wish {X:Cx} (ok:X.Ok) (E:Value→Shared→Prop):(X.wish E).Ok :=
 ⟨ok.mod,ok.kind,ok.glob,ok.blt,ok.above,ok.inj,ok.has,ok.cab,ok.hd,ok.frames,ok.stk,ok.exf,ok.bs,ok.bsz,ok.noex,ok.exfs,ok.funs,ok.frf⟩
theorem Cx.Ok.unwish {X:Cx} {E:Value→Shared→Prop} (ok:(X.wish E).Ok):X.Ok :=
 ⟨ok.mod,ok.kind,ok.glob,ok.blt,ok.above,ok.inj,ok.has,ok.cab,ok.hd,ok.frames,ok.stk,ok.exf,ok.bs,ok.bsz,ok.noex,ok.exfs,ok.funs,ok.frf⟩
section
variable {X:Cx} {pins:List (Addr×Obj)} {σ:St} {H:Hp} {s:Shared} {E:Value→Shared→Prop}
theorem Inv.wish (I:Inv X pins σ H s) (E:Value→Shared→Prop):Inv (X.wish E) pins σ H s:=⟨I.ok.wish E,I.os,I.bare,I.base,I.loc,I.cell,I.free,I.freeC,I.pin,I.hok,I.len⟩
theorem Inv.unwish (I:Inv (X.wish E) pins σ H s):Inv X pins σ H s:=⟨I.ok.unwish,I.os,I.bare,I.base,I.loc,I.cell,I.free,I.freeC,I.pin,I.hok,I.len⟩
theorem SP.unwish {D:Ends} {f:Flow} {s':Shared} (h:SP (X.wish E) pins D f s'):SP X pins D f s':=by
 cases f with
 | next=>obtain ⟨σ',H',I,q⟩:=h;exact⟨σ',H',I.unwish,q⟩
 | brk=>obtain ⟨σ',H',I,q⟩:=h;exact⟨σ',H',I.unwish,q⟩
 | cont=>obtain ⟨σ',H',I,q⟩:=h;exact⟨σ',H',I.unwish,q⟩
 | ret u=>obtain ⟨v,σ',H',I,r,q⟩:=h;exact⟨v,σ',H',I.unwish,r,q⟩
theorem PSs.nox {st:List Stmt} {t:TS} (h:PSs X.nox st t):PSs X st t:=fun pins s σ H D I hw =>
 wpAny_mono (h pins s σ H D (I.wish _) hw) (fun _ _ q=>q.unwish) fun _ _ z=>False.elim z
end
section
variable {X:Cx} {st:Stmt} {rest:List Stmt} {t u:TS} {e:Expr} {te:TE} {pos:Pos}
noncomputable def tNext:TS:=fun D σ H=>D.nx σ H
noncomputable def tSeq (t u:TS):TS:=fun D σ H=>t { D with nx:=u D } σ H
theorem pss_nil:PSs X [] tNext:=fun _ _ σ H _ I h=>wpAny_execs_nil ⟨σ,H,I,h⟩
theorem pss_cons (h1:PS X st t) (h2:PSs X rest u):PSs X (st::rest) (tSeq t u):=by
 intro pins s σ H D I h
 refine wpAny_execs_cons (thn (h1 pins s σ H { D with nx:=u D } I h) fun f s1 q=>?_)
 cases f with
 | next =>
  obtain ⟨σ',H',I',q⟩:=q
  exact h2 pins s1 σ' H' D I' q
 | ret v=>exact q
 | brk=>exact q
 | cont=>exact q
theorem pss_one (h1:PS X st t):PSs X [st] t:=by
 intro pins s σ H D I h
 refine wpAny_execs_cons (thn (h1 pins s σ H D I h) fun f s1 q=>?_)
 cases f with
 | next=>exact wpAny_execs_nil q
 | ret v=>exact q
 | brk=>exact q
 | cont=>exact q
theorem Inv.quiet {pins:List (Addr×Obj)} {σ:St} {H:Hp} {s:Shared} (I:Inv X pins σ H s):interactive X.env=false:=by simp [interactive,I.ok.kind]
noncomputable def tDrop (te:TE):TS:=fun D σ H=>te σ H fun _ H1=>D.nx σ H1
theorem ps_expr (he:PE X e te) (hs:swapsWith e none pos.line X.env=pure false:=by rfl):PS X (.Expr e pos) (tDrop te):=by
 intro pins s σ H D I h
 exact wpAny_Expr_any (thn (he pins s σ H _ I h) fun v s1 ⟨x,H1,I1,r1,q1⟩=>⟨σ,H1,I1,q1⟩) I.quiet hs
noncomputable def tRet (te:TE):TS:=fun D σ H=>te σ H D.rt
theorem ps_ret (he:PE X e te):PS X (.Return (some e) pos) (tRet te):=by
 intro pins s σ H D I h
 exact wpAny_Return_some (thn (he pins s σ H _ I h) fun v s1 ⟨x,H1,I1,r1,q1⟩=>⟨x,σ,H1,I1,r1,q1⟩)
noncomputable def tIfS (c:TT) (t u:TS):TS:=fun D σ H=>c σ H fun b H1=>if b=true then t D σ H1 else u D σ H1
theorem ps_if {c:Expr} {a b:List Stmt} {tc:TT} (hc:PT X c tc) (ha:PSs X a t) (hb:PSs X b u):PS X (.If c a b pos) (tIfS tc t u):=by
 intro pins s σ H D I h
 refine wpAny_If (thn (hc pins s σ H _ I h) fun d s1 ⟨H1,I1,q1⟩=>?_)
 cases d with
 | true=>exact ha pins s1 σ H1 D I1 q1
 | false=>exact hb pins s1 σ H1 D I1 q1
noncomputable def tNever:TS:=fun _ _ _=>False
theorem ps_never:PS X st tNever:=fun _ _ _ _ _ _ h=>h.elim
end
noncomputable abbrev TG:=V→St→Hp→(St→Hp→Prop)→Prop
noncomputable abbrev TGs:=List V→St→Hp→(St→Hp→Prop)→Prop
noncomputable def PG (X:Cx) (target:Expr) (t:TG):Prop :=
 ∀ (pins:List (Addr×Obj)) (s:Shared) (σ:St) (H:Hp) (v:V) (u:Value) (Q:St→Hp→Prop),Inv X pins σ H s→RelV v u→t v σ H Q →
  wpAny (model X.prog X.w) X.A (assign target X.env u) (fun _ s'=>∃ σ' H',Inv X pins σ' H' s'∧Q σ' H') X.xe s
noncomputable def PGs (X:Cx) (ts:List Expr) (t:TGs):Prop :=
 ∀ (pins:List (Addr×Obj)) (s:Shared) (σ:St) (H:Hp) (vs:List V) (us:List Value) (Q:St→Hp→Prop),Inv X pins σ H s→Vals vs us→t vs σ H Q →
  wpAny (model X.prog X.w) X.A (assignInOrder ((assignEach ts X.env).map (·.2)) us) (fun _ s'=>∃ σ' H',Inv X pins σ' H' s'∧Q σ' H') X.xe s
noncomputable abbrev TSet:=V→V→V→Hp→(Hp→Prop)→Prop
noncomputable def PSet (X:Cx) (t:TSet):Prop :=
 ∀ (pins:List (Addr×Obj)) (s:Shared) (σ:St) (H:Hp) (o i v:V) (ov iv u:Value) (Q:Hp→Prop),Inv X pins σ H s→RelV o ov→RelV i iv→RelV v u→t o i v H Q →
  wpAny (model X.prog X.w) X.A (setItem ov iv u) (fun _ s'=>∃ H',Inv X pins σ H' s'∧Q H') X.xe s
section
variable {X:Cx} {pos:Pos}
noncomputable def gName (i:Nat):TG:=fun v σ H Q=>Q (σ.set i (some v)) H
theorem pg_name {i:Nat} {x:Str} (hN:X.N.Nodup) (hi:X.N[i]?=some x) (hx:Loc X.env.scope x) (hf:X.fn x=true∨X.env.scope.names.lookup x=some .local:=by first|exact .inl rfl|exact .inr rfl|assumption):PG X (.Name x pos) (gName i):=by
 intro pins s σ H v u Q I r h
 exact wpAny_assign_Name (store_ok I hN hi hx r (fun s' I'=>⟨_,H,I',h⟩) hf)
noncomputable def gNil:TGs:=fun vs σ H Q=>vs=[]∧Q σ H
noncomputable def gCons (t:TG) (u:TGs):TGs:=fun vs σ H Q=>∃ v r,vs=v::r∧t v σ H fun σ' H'=>u r σ' H' Q
theorem pgs_nil:PGs X [] gNil:=by
 intro pins s σ H vs us Q I r h
 obtain ⟨e,h⟩:=h
 subst e
 cases r
 exact assignInOrder_nil ⟨σ,H,I,h⟩
theorem pgs_cons {e:Expr} {es:List Expr} {t:TG} {u:TGs} (h1:PG X e t) (h2:PGs X es u)
  (hs:(assignEach (e::es) X.env).map (·.2)=assign e X.env::(assignEach es X.env).map (·.2):=by rfl):PGs X (e::es) (gCons t u):=by
 intro pins s σ H vs us Q I r h
 obtain ⟨v,vr,e1,h⟩:=h
 subst e1
 cases r with
 | cons r rr =>
  rw [hs]
  refine assignInOrder_cons (thn (h1 pins s σ H _ _ _ I r h) fun _ s1 ⟨σ1,H1,I1,q1⟩=>?_)
  exact h2 pins s1 σ1 H1 _ _ Q I1 rr q1
noncomputable def gTup (K:PySem.W.Frag) (n:Nat) (t:TGs):TG:=fun v σ H Q=>∃ a xs,v=.ref a∧SqT K H a xs∧xs.length=n∧t xs σ H Q
theorem pg_tup {es:List Expr} {k:Nat} {t:TGs} {n:Nat} (hc:X.calm=true) (h:PGs X es t)
  (hn:(assignEach es X.env).length=n:=by rfl) (hst:(assignEach es X.env).findIdx? (·.1)=none:=by rfl):PG X (.Tuple es k pos) (gTup X.K n t):=by
 intro pins s σ H v u Q I r hw
 obtain ⟨a,xs,e1,hq,hl,hw⟩:=hw
 subst e1
 cases r
 obtain ⟨its,rv,ht,hz⟩:=I.tuple hq
 refine assign_Tuple_tuple (I.ok.hd hc) ht (by simp [hn,← hl,rv.length]) hst fun h' hx=>?_
 have I1:Inv X pins σ H { s with heap:=h' }:=I.kept (t':=s.toks) fun b o e=>hx b o (Nat.ne_of_lt (Heap.lt_size e)) e
 exact h pins _ σ H xs _ Q I1 (by simpa using rv) hw
noncomputable def gSub (to ti:TE) (t:TSet):TG:=fun v σ H Q=>to σ H fun o H1=>ti σ H1 fun i H2=>t o i v H2 fun H3=>Q σ H3
theorem pg_sub {o i:Expr} {to ti:TE} {t:TSet} (ho:PE X o to) (hi:PE X i ti) (hs:PSet X t)
  (ha:∀ v,assign (.Subscript o i pos) X.env v=(do
   let ov ← holding [v] (eval o X.env)
   let iv ← holding [v,ov] (eval i X.env)
   standAt pos
   holding [v,ov,iv] (setItem ov iv v)
   release [v,ov,iv] []):=by intro _;rfl):PG X (.Subscript o i pos) (gSub to ti t):=by
 intro pins s σ H v u Q I r h
 rw [ha]
 refine wpAny_bind (wpAny_holding (thn (ho pins s σ H _ I h) fun ov s1 ⟨x,H1,I1,r1,q1⟩=>?_))
 refine wpAny_bind (wpAny_holding (thn (hi pins s1 σ H1 _ I1 q1) fun iv s2 ⟨y,H2,I2,r2,q2⟩=>?_))
 refine wpAny_bind (wpAny_standAt (wpAny_bind (wpAny_holding (thn (hs pins s2 σ H2 x y v ov iv u _ I2 r1 r2 r q2) fun _ s3 ⟨H3,I3,q3⟩=>?_))))
 exact wpAny_release ⟨σ,H3,I3,q3⟩
noncomputable def tAsg (te:TE) (g:TG):TS:=fun D σ H=>te σ H fun x H1=>g x σ H1 D.nx
theorem ps_asg {tg e:Expr} {te:TE} {g:TG} (he:PE X e te) (hg:PG X tg g) (hs:swapsWithSole [tg] e pos.line X.env=pure false:=by rfl) (hw:swappedStores [tg] e X.env=pure none:=by rfl)
  (h1:(assignEach [tg] X.env).map (·.2)=[assign tg X.env]:=by rfl):PS X (.Assign [tg] e pos) (tAsg te g):=by
 intro pins s σ H D I h
 refine wpAny_Assign_stores (thn (he pins s σ H _ I h) fun v s1 ⟨x,H1,I1,r1,q1⟩=>?_) hs hw
 rw [h1]
 exact thn (hg pins s1 σ H1 x v _ I1 r1 q1) fun _ s2 q=>q
theorem ps_set {i:Nat} {x:Str} {e:Expr} {te:TE} {pos':Pos} (hN:X.N.Nodup) (hi:X.N[i]?=some x) (hx:Loc X.env.scope x) (he:PE X e te) (hs:swapsWith e (some (.Name x pos')) pos.line X.env=pure false:=by rfl) (hf:X.fn x=true∨X.env.scope.names.lookup x=some .local:=by first|exact .inl rfl|exact .inr rfl|assumption) :
  PS X (.Assign [.Name x pos'] e pos) (tAsg te (gName i)):=by
 intro pins s σ H D I h
 refine wpAny_Assign_Name (thn (he pins s σ H _ I h) fun v s1 ⟨y,H1,I1,r1,q1⟩=>?_) hs
 exact store_ok I1 hN hi hx r1 (fun s2 I2=>⟨_,H1,I2,q1⟩) hf
end
section
variable {X:Cx} {pos:Pos}
noncomputable def tWhile (c:TT) (tb:TS):TS:=fun D σ H=>∃ W:Nat→St→Hp→Prop,(∃ m,W m σ H)∧∀ m σ H,W m σ H →
 c σ H fun b H1=>if b=true then ∃ N:St→Hp→Prop,(∀ σ' H',N σ' H'→∃ m',m'<m∧W m' σ' H')∧tb { D with nx:=N,ct:=N,bk:=D.nx } σ H1 else D.nx σ H1
theorem ps_while {c:Expr} {body:List Stmt} {tc:TT} {tb:TS} (hp:PassesOwn (model X.prog X.w) X.A X.env X.xe) (hc:PT X c tc) (hb:PSs X body tb):PS X (.While c body [] pos) (tWhile tc tb):=by
 intro pins s σ H D I h
 obtain ⟨W,⟨m0,w0⟩,turn⟩:=h
 refine wpAny_While (codeAny_whileLoop (fun n s'=>∃ σ' H',Inv X pins σ' H' s'∧W n σ' H') ?_ m0 ⟨σ,H,I,w0⟩)
 rintro n s1 ⟨σ1,H1,I1,w1⟩
 refine wpAny_passesOwn hp (thn (hc pins s1 σ1 H1 _ I1 (turn n σ1 H1 w1)) fun b s2 ⟨H2,I2,q2⟩=>?_)
 cases b with
 | true =>
  obtain ⟨N,hN,q2⟩:=q2
  rw [if_pos rfl]
  refine wpAny_passesOwn hp (thn (hb pins s2 σ1 H2 _ I2 q2) fun f s3 q3=>?_)
  cases f with
  | next =>
   obtain ⟨σ3,H3,I3,n3⟩:=q3
   obtain ⟨m',hm,w3⟩:=hN σ3 H3 n3
   exact⟨m',hm,σ3,H3,I3,w3⟩
  | cont =>
   obtain ⟨σ3,H3,I3,n3⟩:=q3
   obtain ⟨m',hm,w3⟩:=hN σ3 H3 n3
   exact⟨m',hm,σ3,H3,I3,w3⟩
  | brk=>exact q3
  | ret v=>exact q3
 | false =>
  rw [if_neg Bool.false_ne_true]
  exact wpAny_execs_nil ⟨σ1,H2,I2,q2⟩
end
structure It where
 go:Nat→Hp→Prop
 yld:Nat→Hp→V→Hp→Prop
 stop:Nat→Hp→Prop
noncomputable def FpOk (X:Cx) (pins:List (Addr×Obj)) (H:Hp) (b:Addr):Prop :=
 H b=none∧b≠X.env.locals∧b∉X.fs∧(b∈X.ex∨X.s₀.heap.objs.size≤b)∧(∀ x c,X.env.cells.lookup x=some c→c≠b)∧∀ p∈X.pn++pins,p.1≠b
theorem Inv.fpOk {X:Cx} {pins:List (Addr×Obj)} {σ:St} {H H':Hp} {s:Shared} {b:Addr} (I:Inv X pins σ H s) (hb:s.heap.objs.size≤b) (hn:H' b=none):FpOk X pins H' b:=by
 refine⟨hn,Nat.ne_of_gt (Nat.lt_of_lt_of_le I.lt hb),I.nofs hb,.inr (Nat.le_trans I.sz hb),fun x c e z=>?_,fun p hp z=>?_⟩
 ·obtain ⟨v,q⟩:=I.cell x c e
  exact absurd (Nat.lt_of_lt_of_le q.lt (by rw [z];exact hb)) (Nat.lt_irrefl _)
 ·exact absurd (Nat.lt_of_lt_of_le (Heap.lt_size (I.pin p hp).1) (by rw [z];exact hb)) (Nat.lt_irrefl _)
structure Turn (P:Program) (w:World) (K:PySem.W.Frag) (tg:Expr) (J:It) (fp:List Addr) (it:Addr) (tn:Nat→Heap→Prop):Prop where
 mem:it∈fp
 obj:∀ i h,tn i h→∀ b∈fp,∃ o,h.get? b=some o∧∀ v,o.data≠.cell v
 keep:∀ i h h',tn i h→(∀ b∈fp,∀ o,h.get? b=some o→h'.get? b=some o)→tn i h'
 item:∀ (X:Cx),X.prog=P→X.w=w→X.K=K→X.calm=true→∀ (i:Nat) (pins:List (Addr×Obj)) (s:Shared) (σ:St) (H:Hp) (E:Value→Shared→Prop),Inv X pins σ H s→(∀ b∈fp,FpOk X pins H b)→tn i s.heap→J.go i H →
  wpAny (model P w) X.A (pyNext (.ref it)) (fun r s1=>∃ u,r=some u ∧
   wpAny (model P w) X.A (letOwnedTupleGo tg (.ref it) u) (fun _ s2=>∃ x H',Inv X pins σ H' s2∧RelV x u∧J.yld i H x H'∧tn (i+1) s2.heap∧∀ b∈fp,H' b=none) E s1) E s
 done:∀ (X:Cx),X.prog=P→X.w=w→X.K=K→X.calm=true→∀ (i:Nat) (pins:List (Addr×Obj)) (s:Shared) (σ:St) (H:Hp) (E:Value→Shared→Prop),Inv X pins σ H s→(∀ b∈fp,FpOk X pins H b)→tn i s.heap→J.stop i H →
  wpAny (model P w) X.A (pyNext (.ref it)) (fun r s1=>r=none∧Inv X pins σ H s1) E s
 self:∀ (A:Around) (i:Nat) (s:Shared) (Q:Value→Shared→Prop) (E:Value→Shared→Prop),tn i s.heap→Q (.ref it) s→wpAny (model P w) A (pyIter (.ref it)) Q E s
noncomputable abbrev TI:=St→Hp→(It→Hp→Prop)→Prop
noncomputable def PIE (X:Cx) (pins:List (Addr×Obj)) (σ:St) (tg:Expr) (R:It→Hp→Prop) (itv:Value) (s2:Shared):Prop :=
 ∃ (it:Addr) (fp:List Addr) (tn:Nat→Heap→Prop) (J:It) (H':Hp),itv=.ref it∧Inv X pins σ H' s2∧Turn X.prog X.w X.K tg J fp it tn∧tn 0 s2.heap∧(∀ b∈fp,FpOk X pins H' b)∧R J H'
noncomputable def PI (X:Cx) (tg iter:Expr) (wi:TI):Prop :=
 ∀ (pins:List (Addr×Obj)) (s:Shared) (σ:St) (H:Hp) (R:It→Hp→Prop),Inv X pins σ H s→wi σ H R →
  wpAny (model X.prog X.w) X.A (eval iter X.env) (fun v s1=>wpAny (model X.prog X.w) X.A (pyIter v) (PIE X pins σ tg R) X.xe s1) X.xe s
theorem go_of {M : Model} {A : Around} {E : Value → Shared → Prop} {s : Shared} {tg : Expr} {it : Addr} {u : Value} {o : Obj} {n : String} {vs : Array Value} {Q : Unit → Shared → Prop} (ho : s.heap.get? it=some o) (hc : o.cls=.type n) (hd : o.data=.fields vs)
    (hn : ["enumerate", "zip", "dict_itemiterator", "dict_reverseitemiterator", "odict_iterator", "itertools.zip_longest", "itertools.pairwise"].contains n=false) (hQ : Q () s) : wpAny M A (letOwnedTupleGo tg (.ref it) u) Q E s := by
  unfold letOwnedTupleGo
  cases tg <;> first
    | exact wpAny_pure hQ
    | (cases u <;> first
        | exact wpAny_pure hQ
        | (refine wpAny_bind (wpAny_load ho ?_)
           rw [hc, hd]
           show wpAny M A (if (["enumerate", "zip", "dict_itemiterator", "dict_reverseitemiterator", "odict_iterator", "itertools.zip_longest", "itertools.pairwise"].contains n && vs[0]? == some (rawInt _))=true then _ else _) Q E s
           rw [if_neg (by intro h;rw [hn, Bool.false_and] at h;cases h)]
           exact wpAny_pure hQ))
noncomputable def Itl (K:PySem.W.Frag) (a:Addr):It :=
 ⟨fun i H=>∃ xs x,SqL K H a xs∧xs[i]?=some x,fun i H x H'=>H'=H∧∀ xs,SqL K H a xs→xs[i]?=some x,fun i H=>∃ xs,SqL K H a xs∧xs.length≤i⟩
noncomputable def Itt (K:PySem.W.Frag) (a:Addr):It :=
 ⟨fun i H=>∃ xs x,SqT K H a xs∧xs[i]?=some x,fun i H x H'=>H'=H∧∀ xs,SqT K H a xs→xs[i]?=some x,fun i H=>∃ xs,SqT K H a xs∧xs.length≤i⟩
noncomputable def Itr (lo:Int) (n:Nat):It:=⟨fun i _=>i<n,fun i H x H'=>H'=H∧x=.int (lo+i),fun i _=>n≤i⟩
theorem turn_list {P:Program} {w:World} {K:PySem.W.Frag} {tg:Expr} (a it:Addr):Turn P w K tg (Itl K a) [it] it (fun i h=>h.IsListIter it a i) where
 mem:=by simp
 obj:=fun i h st b hb=>by
  have e:b=it:=by simpa using hb
  subst e
  obtain ⟨o,e,c,d⟩:=st
  exact⟨o,e,fun v z=>by rw [d] at z;cases z⟩
 keep:=fun i h h' st k=>st.at fun o e=>k it (by simp) o e
 item:=by
  intro X hP hw hK hc i pins s σ H E I hf st hg
  subst hP hw hK
  obtain ⟨xs,x,hq,hx⟩:=hg
  obtain ⟨its,rv,p,hz⟩:=I.list hq
  obtain ⟨u,hu,ru⟩:=rv.get hx
  obtain ⟨f0,f1,f2,f3,f4,f5⟩:=hf it (by simp)
  refine wpAny_pyNext_list_item st p.isList (x:=u) (by simpa using hu) fun h' st' sb=>?_
  have I1:Inv X pins σ H { s with heap:=h' }:=I.turned (t':=s.toks) (fun b o hb e=>(sb.2 b hb).trans e) f0 f1 f3 f4 f5
  obtain ⟨o,e,c,d⟩:=id st'
  exact⟨u,rfl,go_of (s:={ s with heap:=h' }) e c d (by decide) ⟨x,H,I1,ru,⟨rfl,fun ys hy=>by rw [I.list_inj hy hq];exact hx⟩,st',fun b hb=>(hf b hb).1⟩⟩
 done:=by
  intro X hP hw hK hc i pins s σ H E I hf st hg
  subst hP hw hK
  obtain ⟨xs,hq,hx⟩:=hg
  obtain ⟨its,rv,p,hz⟩:=I.list hq
  obtain ⟨f0,f1,f2,f3,f4,f5⟩:=hf it (by simp)
  have hl:=rv.length
  exact wpAny_pyNext_list_end (I.ok.hd hc) st p.isList (by simp;lia) fun h' eb=>⟨rfl,I.turned (t':=s.toks) (fun b o hb e=>eb b o hb e) f0 f1 f3 f4 f5⟩
 self:=fun _ _ _ _ _ st h=>wpAny_pyIter_listiter st h
theorem turn_tuple {P:Program} {w:World} {K:PySem.W.Frag} {tg:Expr} (a it:Addr):Turn P w K tg (Itt K a) [it] it (fun i h=>h.IsTupleIter it a i) where
 mem:=by simp
 obj:=fun i h st b hb=>by
  have e:b=it:=by simpa using hb
  subst e
  obtain ⟨o,e,c,d⟩:=st
  exact⟨o,e,fun v z=>by rw [d] at z;cases z⟩
 keep:=fun i h h' st k=>st.at fun o e=>k it (by simp) o e
 item:=by
  intro X hP hw hK hc i pins s σ H E I hf st hg
  subst hP hw hK
  obtain ⟨xs,x,hq,hx⟩:=hg
  obtain ⟨its,rv,p,hz⟩:=I.tuple hq
  obtain ⟨u,hu,ru⟩:=rv.get hx
  obtain ⟨f0,f1,f2,f3,f4,f5⟩:=hf it (by simp)
  refine wpAny_pyNext_tuple_item st (show s.heap.IsTuple a its.toArray from p) (x:=u) (by simpa using hu) fun h' st' sb=>?_
  have I1:Inv X pins σ H { s with heap:=h' }:=I.turned (t':=s.toks) (fun b o hb e=>(sb.2 b hb).trans e) f0 f1 f3 f4 f5
  obtain ⟨o,e,c,d⟩:=id st'
  exact⟨u,rfl,go_of (s:={ s with heap:=h' }) e c d (by decide) ⟨x,H,I1,ru,⟨rfl,fun ys hy=>by rw [I.tuple_inj hy hq];exact hx⟩,st',fun b hb=>(hf b hb).1⟩⟩
 done:=by
  intro X hP hw hK hc i pins s σ H E I hf st hg
  subst hP hw hK
  obtain ⟨xs,hq,hx⟩:=hg
  obtain ⟨its,rv,p,hz⟩:=I.tuple hq
  obtain ⟨f0,f1,f2,f3,f4,f5⟩:=hf it (by simp)
  have hl:=rv.length
  exact wpAny_pyNext_tuple_end (I.ok.hd hc) st (show s.heap.IsTuple a its.toArray from p) (by simp;lia) fun h' eb=>⟨rfl,I.turned (t':=s.toks) (fun b o hb e=>eb b o hb e) f0 f1 f3 f4 f5⟩
 self:=fun _ _ _ _ _ st h=>wpAny_pyIter_tupleiter st h
theorem turn_range {P:Program} {w:World} {K:PySem.W.Frag} {tg:Expr} (it:Addr) (lo:Int) (n:Nat):Turn P w K tg (Itr lo n) [it] it (fun i h=>IsRangeIter h it (lo+(i:Nat)*1) ((n:Int) - (i:Nat)) 1) where
 mem:=by simp
 obj:=fun i h st b hb=>by
  have e:b=it:=by simpa using hb
  subst e
  exact⟨_,st,fun v z=>by
   have z':Data.fields _=Data.cell v:=z
   cases z'⟩
 keep:=fun i h h' st k=>k it (by simp) _ st
 item:=by
  intro X hP hw hK hc i pins s σ H E I hf st hg
  subst hP hw hK
  obtain ⟨f0,f1,f2,f3,f4,f5⟩:=hf it (by simp)
  have W:=Walks.range (prog:=X.prog) (w:=X.w) (I.ok.hd hc) it lo 1 n
  refine W.item i s _ _ hg st fun v h' tk hv st' kk=>?_
  obtain ⟨t,rfl⟩:=hv
  have I1:Inv X pins σ H { s with heap:=h',toks:=tk }:=I.turned (fun b o hb e=>kk b o (by simpa using hb) e) f0 f1 f3 f4 f5
  refine⟨_,rfl,go_of (s:={ s with heap:=h',toks:=tk }) (n:="range_iterator") st' rfl rfl (by decide) ⟨.int (lo+i),H,I1,⟨t,?_⟩,⟨rfl,rfl⟩,st',fun b hb=>(hf b hb).1⟩⟩
  rw [Int.mul_one]
 done:=by
  intro X hP hw hK hc i pins s σ H E I hf st hg
  subst hP hw hK
  obtain ⟨f0,f1,f2,f3,f4,f5⟩:=hf it (by simp)
  exact wpAny_pyNext_range_end (I.ok.hd hc) st (by have:n≤i:=hg;lia) fun h' eb=>⟨rfl,I.turned (t':=s.toks) (fun b o hb e=>eb b o hb e) f0 f1 f3 f4 f5⟩
 self:=fun _ _ _ _ _ st h=>wpAny_pyIter_rangeiter st h
end L2
namespace L2
open PySem PySem.Spec PyProof.Rows
section
variable {X:Cx} {tg:Expr}
noncomputable def iList (K:PySem.W.Frag) (tl:TE):TI:=fun σ H R=>tl σ H fun x H1=>∃ a,x=.ref a∧(∃ xs,SqL K H1 a xs)∧R (Itl K a) H1
noncomputable def iTup (K:PySem.W.Frag) (tl:TE):TI:=fun σ H R=>tl σ H fun x H1=>∃ a,x=.ref a∧(∃ xs,SqT K H1 a xs)∧R (Itt K a) H1
theorem pi_list {l:Expr} {tl:TE} (hl:PE X l tl):PI X tg l (iList X.K tl):=by
 intro pins s σ H R I h
 refine thn (hl pins s σ H _ I h) fun v s1 ⟨x,H1,I1,r1,q1⟩=>?_
 obtain ⟨a,e,⟨xs,hq⟩,q⟩:=q1
 subst e
 cases r1
 obtain ⟨its,rv,p,hz⟩:=I1.list hq
 refine wpAny_pyIter_list p.isList ?_
 refine⟨s1.heap.objs.size,[s1.heap.objs.size],_,_,H1,rfl,I1.kept (t':=s1.toks) fun b o e=>Heap.get?_push_of_some _ e,turn_list a _,⟨_,Heap.get?_push_size _ rfl,rfl,rfl⟩,fun b hb=>?_,q⟩
 have e:b=s1.heap.objs.size:=by simpa using hb
 subst e
 exact I1.fpOk (Nat.le_refl _) (I1.hok.fresh (Nat.le_refl _))
theorem pi_tup {l:Expr} {tl:TE} (hl:PE X l tl):PI X tg l (iTup X.K tl):=by
 intro pins s σ H R I h
 refine thn (hl pins s σ H _ I h) fun v s1 ⟨x,H1,I1,r1,q1⟩=>?_
 obtain ⟨a,e,⟨xs,hq⟩,q⟩:=q1
 subst e
 cases r1
 obtain ⟨its,rv,p,hz⟩:=I1.tuple hq
 refine wpAny_pyIter_tuple (show s1.heap.IsTuple a its.toArray from p) ?_
 refine⟨s1.heap.objs.size,[s1.heap.objs.size],_,_,H1,rfl,I1.kept (t':=s1.toks) fun b o e=>Heap.get?_push_of_some _ e,turn_tuple a _,⟨_,Heap.get?_push_size _ rfl,rfl,rfl⟩,fun b hb=>?_,q⟩
 have e:b=s1.heap.objs.size:=by simpa using hb
 subst e
 exact I1.fpOk (Nat.le_refl _) (I1.hok.fresh (Nat.le_refl _))
theorem range_it {pins:List (Addr×Obj)} {σ:St} {H:Hp} {s:Shared} {R:It→Hp→Prop} {E:Value→Shared→Prop} {lo hi:Int} {t u v:Tok} {tk:Nat} (I:Inv X pins σ H s) (h1:-(2 ^ 62)≤lo) (h2:lo<2 ^ 62) (h3:-(2 ^ 62)≤hi) (h4:hi<2 ^ 62)
  (q:R (Itr lo (hi - lo).toNat) H):wpAny (model X.prog X.w) X.A (pyIter (.ref s.heap.objs.size)) (PIE X pins σ tg R) E { s with heap:=s.heap.push { cls:=.type "range",data:=.fields #[.int lo t,.int hi u,.int 1 v] },toks:=tk }:=by
 refine wpAny_pyIter_range (IsRange.new ..) (small_one h1 h2 h3 h4) ?_
 have I1:Inv X pins σ H { s with heap:=s.heap.push { cls:=.type "range",data:=.fields #[.int lo t,.int hi u,.int 1 v] },toks:=tk }:=I.kept fun b o e=>Heap.get?_push_of_some _ e
 refine⟨(s.heap.push { cls:=.type "range",data:=.fields #[.int lo t,.int hi u,.int 1 v] }).objs.size,[(s.heap.push { cls:=.type "range",data:=.fields #[.int lo t,.int hi u,.int 1 v] }).objs.size],_,_,H,rfl,
  I1.kept (t':=tk) fun b o e=>Heap.get?_push_of_some _ e,turn_range _ lo (hi - lo).toNat,?_,fun b hb=>?_,q⟩
 ·have e1:lo+((0:Nat):Int)*1=lo:=by simp
  have e2:(((hi - lo).toNat:Nat):Int) - ((0:Nat):Int)=Builtin.Range.rangeSize lo hi 1:=by rw [rangeSize_one];split <;> lia
  show IsRangeIter _ _ (lo+((0:Nat):Int)*1) ((((hi - lo).toNat:Nat):Int) - ((0:Nat):Int)) 1
  rw [e1,e2]
  exact Heap.get?_push_size _ rfl
 ·have e:b=(s.heap.push { cls:=.type "range",data:=.fields #[.int lo t,.int hi u,.int 1 v] }).objs.size:=by simpa using hb
  subst e
  exact I1.fpOk (Nat.le_refl _) (I1.hok.fresh (Nat.le_refl _))
noncomputable def iRng1 (ta:TA):TI:=fun σ H R=>ta σ H fun vs H1=>∃ j:Int,vs=[.int j]∧-(2 ^ 62)≤j∧j<2 ^ 62∧R (Itr 0 j.toNat) H1
theorem pi_range1 {a:Expr} {ta:TA} {p pos:Pos} (hg:Gl X "range") (hm:X.mg "range"=none) (ha:PA X [a] ta) (hs:starEach [a] X.env=[(false,eval a X.env)]:=by rfl):PI X tg (.Call (.Name "range" p) [a] [] pos) (iRng1 ta):=by
 intro pins s σ H R I h
 refine Call_ (ld_blt I hg hm boot_range (PyProof.Rows.callWith_type1 (thn (ha pos pins s σ H _ I h) fun us s1 ⟨vs,H1,I1,r1,q1⟩=>?_) hs rfl))
 obtain ⟨j,e,q1,q2,q⟩:=q1
 subst e
 cases r1 with
 | cons r rr =>
  cases rr
  obtain ⟨t,rfl⟩:=r
  exact call_range_1 (range_it I1 (by lia) (by lia) q1 q2 (by simpa using q))
noncomputable def tFor (wi:TI) (g:TG) (tb:TS):TS:=fun D σ H=>wi σ H fun J H1=>∃ W:Nat→Nat→St→Hp→Prop,(∃ m,W 0 m σ H1)∧∀ i m σ H,W i m σ H →
 (J.stop i H∧D.nx σ H)∨(J.go i H∧∃ N:St→Hp→Prop,(∀ σ' H',N σ' H'→∃ m',m'<m∧W (i+1) m' σ' H')∧∀ x H',J.yld i H x H'→g x σ H' fun σ2 H2=>tb { D with nx:=N,ct:=N,bk:=D.nx } σ2 H2)
noncomputable def pinsAt (fp:List Addr) (h:Heap):List (Addr×Obj):=fp.filterMap fun b=>(h.get? b).map fun o=>(b,o)
theorem mem_pinsAt {fp:List Addr} {h:Heap} {b:Addr} {o:Obj} (hb:b∈fp) (e:h.get? b=some o):(b,o)∈pinsAt fp h:=List.mem_filterMap.mpr ⟨b,hb,by rw [e];rfl⟩
theorem of_pinsAt {fp:List Addr} {h:Heap} {p:Addr×Obj} (hp:p∈pinsAt fp h):p.1∈fp∧h.get? p.1=some p.2:=by
 obtain ⟨b,hb,e⟩:=List.mem_filterMap.mp hp
 cases q:h.get? b with
 | none=>rw [q] at e;cases e
 | some o =>
  rw [q] at e
  have e':(b,o)=p:=Option.some.inj e
  subst e'
  exact⟨hb,q⟩
theorem Inv.pinned {pins:List (Addr×Obj)} {σ:St} {H:Hp} {s:Shared} {fp:List Addr} (I:Inv X pins σ H s) (hf:∀ b∈fp,FpOk X pins H b) (ho:∀ b∈fp,∃ o,s.heap.get? b=some o∧∀ v,o.data≠.cell v):Inv X (pins++pinsAt fp s.heap) σ H s :=
 I.pins_of fun p hp=>(List.mem_append.mp hp).elim (fun z=>I.pin p (List.mem_append_right _ z)) fun z=>by
  obtain ⟨hb,e⟩:=of_pinsAt z
  obtain ⟨f0,f1,f2,_⟩:=hf p.1 hb
  obtain ⟨o,e',d⟩:=ho p.1 hb
  rw [e] at e';cases e'
  exact⟨e,f0,f1,f2,d⟩
theorem Inv.unpinned {pins pl:List (Addr×Obj)} {σ:St} {H:Hp} {s:Shared} (I:Inv X (pins++pl) σ H s):Inv X pins σ H s:=I.pins_of fun p hp=>I.pin p (List.mem_append_right _ (List.mem_append_left _ hp))
theorem ps_for {iter:Expr} {body:List Stmt} {wi:TI} {g:TG} {tb:TS} {pos:Pos} (hp:PassesOwn (model X.prog X.w) X.A X.env X.xe) (hc:X.calm=true) (hi:PI X tg iter wi) (hg:PG X tg g) (hb:PSs X body tb)
  (hs:∀ x,foldedSetIterable iter X.env x=pure x:=by intro _;rfl):PS X (.For tg iter body [] pos) (tFor wi g tb):=by
 intro pins s σ H D I h
 refine wpAny_For (thn (hi pins s σ H _ I h) fun v s1 h1=>thn h1 fun itv s2 h2=>?_) hs
 obtain ⟨it,fp,tn,J,H2,e,I2,T,st2,f2,W,⟨m0,w0⟩,turn⟩:=h2
 subst e
 have stat:∀ {H':Hp},(∀ b∈fp,H' b=none)→∀ b∈fp,FpOk X pins H' b:=fun hn b hb=>⟨hn b hb,(f2 b hb).2⟩
 refine codeAny_forLoop_any (fun n s'=>∃ i σ' H',Inv X pins σ' H' s'∧tn i s'.heap∧(∀ b∈fp,H' b=none)∧W i n σ' H') ?_ m0 ⟨0,σ,H2,I2,st2,fun b hb=>(f2 b hb).1,w0⟩
 rintro n s3 ⟨i,σ3,H3,I3,st3,fr3,w3⟩
 rcases turn i n σ3 H3 w3 with ⟨stop,qn⟩|⟨go,N,hN,step⟩
 ·refine wpAny_passesOwn hp (thn (T.done X rfl rfl rfl hc i pins s3 σ3 H3 X.xe I3 (stat fr3) st3 stop) fun r s4 ⟨hr,I4⟩=>?_)
  subst hr
  exact wpAny_execs_nil ⟨σ3,H3,I4,qn⟩
 ·refine wpAny_passesOwn hp (thn (T.item X rfl rfl rfl hc i pins s3 σ3 H3 X.xe I3 (stat fr3) st3 go) fun r s4 ⟨u,hr,h4⟩=>?_)
  subst hr
  refine wpAny_passesOwn hp (thn h4 fun _ s5 ⟨x,H5,I5,r5,y5,st5,fr5⟩=>?_)
  have I5':=I5.pinned (stat fr5) (T.obj _ _ st5)
  refine wpAny_passesOwn hp (thn (hg _ s5 σ3 H5 x u _ I5' r5 (step x H5 y5)) fun _ s6 ⟨σ6,H6,I6,q6⟩=>?_)
  refine wpAny_passesOwn hp (thn (hb _ s6 σ6 H6 _ I6 q6) fun f s7 q7=>?_)
  have again:∀ {σ7:St} {H7:Hp},Inv X (pins++pinsAt fp s5.heap) σ7 H7 s7→N σ7 H7→∃ m,m<n∧∃ i σ' H',Inv X pins σ' H' s7∧tn i s7.heap∧(∀ b∈fp,H' b=none)∧W i m σ' H':=fun {σ7 H7} I7 n7=>by
   obtain ⟨m',hm,w7⟩:=hN σ7 H7 n7
   refine⟨m',hm,i+1,σ7,H7,I7.unpinned,T.keep _ _ _ st5 fun b hb o e=>(I7.pin (b,o) (List.mem_append_right _ (List.mem_append_right _ (mem_pinsAt hb e)))).1,fun b hb=>?_,w7⟩
   obtain ⟨o,e,d⟩:=T.obj _ _ st5 b hb
   exact (I7.pin (b,o) (List.mem_append_right _ (List.mem_append_right _ (mem_pinsAt hb e)))).2.1
  cases f with
  | next=>obtain ⟨σ7,H7,I7,n7⟩:=q7;exact again I7 n7
  | cont=>obtain ⟨σ7,H7,I7,n7⟩:=q7;exact again I7 n7
  | brk=>obtain ⟨σ7,H7,I7,q7⟩:=q7;exact⟨σ7,H7,I7.unpinned,q7⟩
  | ret v=>obtain ⟨x7,σ7,H7,I7,r7,q7⟩:=q7;exact⟨x7,σ7,H7,I7.unpinned,r7,q7⟩
end
theorem for_list {K:PySem.W.Frag} {a:Addr} {xs:List V} {g:TG} {tb:TS} {D:Ends} {σ:St} {H:Hp} (Pv:Nat→St→Hp→Prop) (h0:Pv 0 σ H) (hl:∀ i σ H,i≤xs.length→Pv i σ H→SqL K H a xs)
  (hs:∀ i x σ H,xs[i]?=some x→Pv i σ H→g x σ H fun σ2 H2=>tb { D with nx:=Pv (i+1),ct:=Pv (i+1),bk:=D.nx } σ2 H2) (hd:∀ σ H,Pv xs.length σ H→D.nx σ H) :
  ∃ W:Nat→Nat→St→Hp→Prop,(∃ m,W 0 m σ H)∧∀ i m σ H,W i m σ H →
   ((Itl K a).stop i H∧D.nx σ H)∨((Itl K a).go i H∧∃ N:St→Hp→Prop,(∀ σ' H',N σ' H'→∃ m',m'<m∧W (i+1) m' σ' H')∧∀ x H',(Itl K a).yld i H x H'→g x σ H' fun σ2 H2=>tb { D with nx:=N,ct:=N,bk:=D.nx } σ2 H2):=by
 refine⟨fun i m σ H=>m=xs.length - i∧i≤xs.length∧Pv i σ H,⟨xs.length,by simp,Nat.zero_le _,h0⟩,?_⟩
 rintro i m σ H ⟨rfl,hi,p⟩
 have q:=hl i σ H hi p
 by_cases hlt:i<xs.length
 ·refine .inr ⟨⟨xs,xs[i],q,by simp [hlt]⟩,Pv (i+1),fun σ' H' p'=>⟨xs.length - (i+1),by lia,rfl,hlt,p'⟩,fun x H' y=>?_⟩
  obtain ⟨e,y⟩:=y
  subst e
  exact hs i x σ _ (y xs q) p
 ·have e:i=xs.length:=by lia
  subst e
  exact .inl ⟨⟨xs,q,Nat.le_refl _⟩,hd σ H p⟩
theorem for_tup {K:PySem.W.Frag} {a:Addr} {xs:List V} {g:TG} {tb:TS} {D:Ends} {σ:St} {H:Hp} (Pv:Nat→St→Hp→Prop) (h0:Pv 0 σ H) (hl:∀ i σ H,i≤xs.length→Pv i σ H→SqT K H a xs)
  (hs:∀ i x σ H,xs[i]?=some x→Pv i σ H→g x σ H fun σ2 H2=>tb { D with nx:=Pv (i+1),ct:=Pv (i+1),bk:=D.nx } σ2 H2) (hd:∀ σ H,Pv xs.length σ H→D.nx σ H) :
  ∃ W:Nat→Nat→St→Hp→Prop,(∃ m,W 0 m σ H)∧∀ i m σ H,W i m σ H →
   ((Itt K a).stop i H∧D.nx σ H)∨((Itt K a).go i H∧∃ N:St→Hp→Prop,(∀ σ' H',N σ' H'→∃ m',m'<m∧W (i+1) m' σ' H')∧∀ x H',(Itt K a).yld i H x H'→g x σ H' fun σ2 H2=>tb { D with nx:=N,ct:=N,bk:=D.nx } σ2 H2):=by
 refine⟨fun i m σ H=>m=xs.length - i∧i≤xs.length∧Pv i σ H,⟨xs.length,by simp,Nat.zero_le _,h0⟩,?_⟩
 rintro i m σ H ⟨rfl,hi,p⟩
 have q:=hl i σ H hi p
 by_cases hlt:i<xs.length
 ·refine .inr ⟨⟨xs,xs[i],q,by simp [hlt]⟩,Pv (i+1),fun σ' H' p'=>⟨xs.length - (i+1),by lia,rfl,hlt,p'⟩,fun x H' y=>?_⟩
  obtain ⟨e,y⟩:=y
  subst e
  exact hs i x σ _ (y xs q) p
 ·have e:i=xs.length:=by lia
  subst e
  exact .inl ⟨⟨xs,q,Nat.le_refl _⟩,hd σ H p⟩
theorem for_range {lo:Int} {n:Nat} {g:TG} {tb:TS} {D:Ends} {σ:St} {H:Hp} (Pv:Nat→St→Hp→Prop) (h0:Pv 0 σ H)
  (hs:∀ i σ H,i<n→Pv i σ H→g (.int (lo+i)) σ H fun σ2 H2=>tb { D with nx:=Pv (i+1),ct:=Pv (i+1),bk:=D.nx } σ2 H2) (hd:∀ σ H,Pv n σ H→D.nx σ H) :
  ∃ W:Nat→Nat→St→Hp→Prop,(∃ m,W 0 m σ H)∧∀ i m σ H,W i m σ H →
   ((Itr lo n).stop i H∧D.nx σ H)∨((Itr lo n).go i H∧∃ N:St→Hp→Prop,(∀ σ' H',N σ' H'→∃ m',m'<m∧W (i+1) m' σ' H')∧∀ x H',(Itr lo n).yld i H x H'→g x σ H' fun σ2 H2=>tb { D with nx:=N,ct:=N,bk:=D.nx } σ2 H2):=by
 refine⟨fun i m σ H=>m=n - i∧i≤n∧Pv i σ H,⟨n,by simp,Nat.zero_le _,h0⟩,?_⟩
 rintro i m σ H ⟨rfl,hi,p⟩
 by_cases hlt:i<n
 ·refine .inr ⟨hlt,Pv (i+1),fun σ' H' p'=>⟨n - (i+1),by lia,rfl,hlt,p'⟩,fun x H' y=>?_⟩
  obtain ⟨e,y⟩:=y
  subst e y
  exact hs i σ _ hlt p
 ·have e:i=n:=by lia
  subst e
  exact .inl ⟨Nat.le_refl _,hd σ H p⟩
end L2
namespace L2
open PySem PySem.Spec PyProof.Rows
noncomputable abbrev R2:=V→V→Hp→VK→Prop
noncomputable def OpR (X:Cx) (f:Value→Value→Sem Value) (r:R2):Prop :=
 ∀ (pins:List (Addr×Obj)) (s:Shared) (σ:St) (H:Hp) (x y:V) (v u:Value) (Q:VK),Inv X pins σ H s→RelV x v→RelV y u→r x y H Q →
  wpAny (model X.prog X.w) X.A (f v u) (EP X pins σ Q) X.xe s
noncomputable def UnR (X:Cx) (f:Value→Sem Value) (r:V→Hp→VK→Prop):Prop :=
 ∀ (pins:List (Addr×Obj)) (s:Shared) (σ:St) (H:Hp) (x:V) (v:Value) (Q:VK),Inv X pins σ H s→RelV x v→r x H Q →
  wpAny (model X.prog X.w) X.A (f v) (EP X pins σ Q) X.xe s
noncomputable def CallR (X:Cx) (f:Value) (r:List V→Hp→VK→Prop):Prop :=
 ∀ (pins:List (Addr×Obj)) (s:Shared) (σ:St) (H:Hp) (xs:List V) (us:List Value) (Q:VK),Inv X pins σ H s→Vals xs us→r xs H Q →
  wpAny (model X.prog X.w) X.A (call f us) (EP X pins σ Q) X.xe s
noncomputable def tOp (r:R2) (ta tb:TE):TE:=fun σ H Q=>ta σ H fun x H1=>tb σ H1 fun y H2=>r x y H2 Q
noncomputable def tUn (r:V→Hp→VK→Prop) (ta:TE):TE:=fun σ H Q=>ta σ H fun x H1=>r x H1 Q
noncomputable def rI (C:Int→Int→Prop) (g:Int→Int→V):R2:=fun x y H Q=>∃ i j,x=.int i∧y=.int j∧C i j∧Q (g i j) H
noncomputable def rI0 (g:Int→Int→V):R2:=fun x y H Q=>∃ i j,x=.int i∧y=.int j∧Q (g i j) H
noncomputable def rU (g:Int→V):V→Hp→VK→Prop:=fun x H Q=>∃ i,x=.int i∧Q (g i) H
section
variable {X:Cx} {a b c:Expr} {ta tb tc:TE} {pos:Pos}
theorem binT (ha:PE X a ta) (hb:PE X b tb) {pins:List (Addr×Obj)} {s:Shared} {σ:St} {H:Hp} {R:V→V→Hp→Prop} (I:Inv X pins σ H s)
  (h:ta σ H fun x H1=>tb σ H1 fun y H2=>R x y H2) {Q:Value→Shared→Prop} {f:Value→Value→Sem Value}
  (hf:∀ v u s2 x y H2,Inv X pins σ H2 s2→RelV x v→RelV y u→R x y H2→wpAny (model X.prog X.w) X.A (f v u) Q X.xe s2) :
  wpAny (model X.prog X.w) X.A (eval a X.env) (fun v s₁=>wpAny (model X.prog X.w) X.A (eval b X.env) (fun u s₂=>wpAny (model X.prog X.w) X.A (f v u) Q X.xe s₂) X.xe s₁) X.xe s:=by
 refine thn (ha pins s σ H _ I h) fun v s1 ⟨x,H1,I1,r1,q1⟩=>?_
 refine thn (hb pins s1 σ H1 _ I1 q1) fun u s2 ⟨y,H2,I2,r2,q2⟩=>?_
 exact hf v u s2 x y H2 I2 r1 r2 q2
theorem pe_op {op:Operator} {r:R2} (ho:OpR X (binaryOp op) r) (ha:PE X a ta) (hb:PE X b tb):PE X (.BinOp a op b pos) (tOp r ta tb):=by
 intro pins s σ H Q I h
 exact wpAny_BinOp (binT ha hb I h fun v u s2 x y H2 I2 rx ry q=>ho pins s2 σ H2 x y v u Q I2 rx ry q)
theorem pe_un {op:UnaryOp} {r:V→Hp→VK→Prop} (ho:UnR X (unaryOp op) r) (ha:PE X a ta):PE X (.UnaryOp op a pos) (tUn r ta):=by
 intro pins s σ H Q I h
 exact UnaryOp_ (thn (ha pins s σ H _ I h) fun v s1 ⟨x,H1,I1,r1,q1⟩=>ho pins s1 σ H1 x v Q I1 r1 q1)
theorem opI {f:Value→Value→Sem Value} {C:Int→Int→Prop} {g:Int→Int→Int}
  (rule:∀ (i j:Int) (t u:Tok) (s:Shared) (Q:Value→Shared→Prop) (E:Value→Shared→Prop),C i j→Q (.int (g i j) s.toks) { s with toks:=s.toks+1 }→wpAny (model X.prog X.w) X.A (f (.int i t) (.int j u)) Q E s) :
  OpR X f (rI C fun i j=>.int (g i j)):=by
 intro pins s σ H x y v u Q I rx ry h
 obtain ⟨i,j,rfl,rfl,hc,q⟩:=h
 obtain ⟨t,rfl⟩:=rx
 obtain ⟨t',rfl⟩:=ry
 exact rule i j t t' s _ _ hc ⟨.int (g i j),H,I.tok _,⟨_,rfl⟩,q⟩
theorem opI0 {f:Value→Value→Sem Value} {g:Int→Int→Int}
  (rule:∀ (i j:Int) (t u:Tok) (s:Shared) (Q:Value→Shared→Prop) (E:Value→Shared→Prop),Q (.int (g i j) s.toks) { s with toks:=s.toks+1 }→wpAny (model X.prog X.w) X.A (f (.int i t) (.int j u)) Q E s) :
  OpR X f (rI0 fun i j=>.int (g i j)):=by
 intro pins s σ H x y v u Q I rx ry h
 obtain ⟨i,j,rfl,rfl,q⟩:=h
 obtain ⟨t,rfl⟩:=rx
 obtain ⟨t',rfl⟩:=ry
 exact rule i j t t' s _ _ ⟨.int (g i j),H,I.tok _,⟨_,rfl⟩,q⟩
theorem opB0 {f:Value→Value→Sem Value} {g:Int→Int→Bool}
  (rule:∀ (i j:Int) (t u:Tok) (s:Shared) (Q:Value→Shared→Prop) (E:Value→Shared→Prop),Q (.bool (g i j)) s→wpAny (model X.prog X.w) X.A (f (.int i t) (.int j u)) Q E s) :
  OpR X f (rI0 fun i j=>.bl (g i j)):=by
 intro pins s σ H x y v u Q I rx ry h
 obtain ⟨i,j,rfl,rfl,q⟩:=h
 obtain ⟨t,rfl⟩:=rx
 obtain ⟨t',rfl⟩:=ry
 exact rule i j t t' s _ _ ⟨.bl (g i j),H,I,rfl,q⟩
noncomputable def CDiv (i j:Int):Prop:=0<j∧j<1073741824
noncomputable def CPow (i j:Int):Prop:=0≤j∧j≤1000000∧i.natAbs<2 ^ 64
noncomputable def CMul (i j:Int):Prop:=(-(2 ^ 64)<i∧i<2 ^ 64)∨(-(2 ^ 64)<j∧j<2 ^ 64)
theorem CMul.ok {i j:Int} (h:CMul i j):IntMulOk i j:=by
 rcases h with ⟨h1,h2⟩|⟨h1,h2⟩
 ·exact .of_left (intBits_le_64 h1 h2)
 ·exact .of_right (intBits_le_64 h1 h2)
theorem op_add:OpR X (binaryOp .Add) (rI0 fun i j=>.int (i+j)):=opI0 fun _ _ _ _ _ _ _ q=>add_int q
theorem op_sub:OpR X (binaryOp .Sub) (rI0 fun i j=>.int (i - j)):=opI0 fun _ _ _ _ _ _ _ q=>sub_int q
theorem op_mul:OpR X (binaryOp .Mult) (rI CMul fun i j=>.int (i*j)):=opI fun _ _ _ _ _ _ _ hc q=>mul_int q hc.ok
theorem op_fdiv:OpR X (binaryOp .FloorDiv) (rI CDiv fun i j=>.int (i / j)):=opI fun i j _ _ _ _ _ hc q=>by
 have h1:(0:Int)<j:=hc.1
 have h2:j<1073741824:=hc.2
 exact floordiv_int (by lia) (by rw [Int.fdiv_eq_ediv_of_nonneg i (by lia)];exact q) (.inl (PyProof.noPylong_small (by lia)))
theorem op_mod:OpR X (binaryOp .Mod) (rI (fun _ j=>0<j) fun i j=>.int (i % j)):=opI fun i j _ _ _ _ _ hc q=>by
 have h1:(0:Int)<j:=hc
 exact mod_int' (by lia) (by rw [Int.fmod_eq_emod_of_nonneg i (by lia)];exact q)
theorem op_modN:OpR X (binaryOp .Mod) (rI (fun _ j=>j≠0) fun i j=>.int (i.fmod j)):=opI fun _ _ _ _ _ _ _ hc q=>mod_int' hc q
theorem op_pow:OpR X (binaryOp .Pow) (rI CPow fun i j=>.int (i ^ j.toNat)):=opI fun _ _ _ _ _ _ _ hc q=>pow_int_small hc.1 hc.2.1 hc.2.2 q
theorem unI {f:Value→Sem Value} {g:Int→Int}
  (rule:∀ (i:Int) (t:Tok) (s:Shared) (Q:Value→Shared→Prop) (E:Value→Shared→Prop),Q (.int (g i) s.toks) { s with toks:=s.toks+1 }→wpAny (model X.prog X.w) X.A (f (.int i t)) Q E s) :
  UnR X f (rU fun i=>.int (g i)):=by
 intro pins s σ H x v Q I rx h
 obtain ⟨i,rfl,q⟩:=h
 obtain ⟨t,rfl⟩:=rx
 exact rule i t s _ _ ⟨.int (g i),H,I.tok _,⟨_,rfl⟩,q⟩
theorem un_neg:UnR X (unaryOp .USub) (rU fun i=>.int (-i)):=unI fun _ _ _ _ _ q=>neg_int q
end
noncomputable def scal:V→V→Bool
 | .non,.non=>true|.non,.int _=>true|.int _,.non=>true|.non,.bl _=>true|.bl _,.non=>true|.non,.str _=>true|.str _,.non=>true
 | .int _,.int _=>true|.bl _,.bl _=>true|.str _,.str _=>true|.byt _,.byt _=>true
 | .int _,.str _=>true|.str _,.int _=>true|.bl _,.str _=>true|.str _,.bl _=>true
 | _,_=>false
noncomputable def rEq:R2:=fun x y H Q=>scal x y=true∧Q (.bl (decide (x=y))) H
noncomputable def rNe:R2:=fun x y H Q=>scal x y=true∧Q (.bl (!decide (x=y))) H
theorem dec_int {i j:Int}:decide (V.int i=V.int j)=(i == j):=by
 rw [Bool.eq_iff_iff]
 simp
theorem dec_bl {i j:Bool}:decide (V.bl i=V.bl j)=(i == j):=by
 rw [Bool.eq_iff_iff]
 simp
theorem dec_str {i j:Str}:decide (V.str i=V.str j)=(i == j):=by
 rw [Bool.eq_iff_iff]
 simp
theorem dec_byt {i j:Array UInt8}:decide (V.byt i=V.byt j)=(i.toList == j.toList):=by
 rw [Bool.eq_iff_iff]
 cases i
 cases j
 simp
section
variable {X:Cx} {a b c:Expr} {ta tb tc:TE} {pos:Pos}
theorem fin_bl {pins:List (Addr×Obj)} {σ:St} {H:Hp} {s:Shared} {Q:VK} {k k':Bool} (I:Inv X pins σ H s) (q:Q (.bl k) H) (e:k=k'):EP X pins σ Q (.bool k') s:=by
 subst e
 exact⟨.bl k,H,I,rfl,q⟩
theorem op_eq:OpR X (compareOp .Eq) rEq:=by
 intro pins s σ H x y v u Q I rx ry h
 obtain ⟨hs,q⟩:=h
 cases x with
 | non =>
  cases rx
  cases y with
  | non=>cases ry;exact PySem.EqNone.eq_none_none (fin_bl I q (by simp))
  | bl j=>cases ry;exact PySem.EqNone.eq_none_bool (fin_bl I q (by simp))
  | int j=>obtain ⟨t',rfl⟩:=ry;exact PySem.EqNone.eq_none_int (fin_bl I q (by simp))
  | str j=>obtain ⟨t',rfl⟩:=ry;exact PySem.EqNone.eq_none_str (fin_bl I q (by simp))
  | _=>exact absurd (show false=true from hs) Bool.false_ne_true
 | bl i =>
  cases rx
  cases y with
  | non=>cases ry;exact PySem.EqNone.eq_bool_none (fin_bl I q (by simp))
  | bl j=>cases ry;exact eq_bool (fin_bl I q dec_bl)
  | str j=>obtain ⟨t',rfl⟩:=ry;exact PySem.EqMixed.eq_bool_str (fin_bl I q (by simp))
  | _=>exact absurd (show false=true from hs) Bool.false_ne_true
 | int i =>
  obtain ⟨t,rfl⟩:=rx
  cases y with
  | non=>cases ry;exact PySem.EqNone.eq_int_none (fin_bl I q (by simp))
  | int j=>obtain ⟨t',rfl⟩:=ry;exact eq_int (fin_bl I q dec_int)
  | str j=>obtain ⟨t',rfl⟩:=ry;exact PySem.EqMixed.eq_int_str (fin_bl I q (by simp))
  | _=>exact absurd (show false=true from hs) Bool.false_ne_true
 | str i =>
  obtain ⟨t,rfl⟩:=rx
  cases y with
  | non=>cases ry;exact PySem.EqNone.eq_str_none (fin_bl I q (by simp))
  | bl j=>cases ry;exact PySem.EqMixed.eq_str_bool (fin_bl I q (by simp))
  | int j=>obtain ⟨t',rfl⟩:=ry;exact PySem.EqMixed.eq_str_int (fin_bl I q (by simp))
  | str j=>obtain ⟨t',rfl⟩:=ry;exact eq_str (fin_bl I q dec_str)
  | _=>exact absurd (show false=true from hs) Bool.false_ne_true
 | byt i =>
  obtain ⟨t,rfl⟩:=rx
  cases y with
  | byt j=>obtain ⟨t',rfl⟩:=ry;exact PySem.W.eq_bytes (fin_bl I q dec_byt)
  | _=>exact absurd (show false=true from hs) Bool.false_ne_true
 | _=>cases y <;> exact absurd (show false=true from hs) Bool.false_ne_true
theorem op_ne:OpR X (compareOp .NotEq) rNe:=by
 intro pins s σ H x y v u Q I rx ry h
 obtain ⟨hs,q⟩:=h
 cases x with
 | non =>
  cases rx
  cases y with
  | non=>cases ry;exact PySem.EqNone.ne_none_none (fin_bl I q (by simp))
  | bl j=>cases ry;exact PySem.EqNone.ne_none_bool (fin_bl I q (by simp))
  | int j=>obtain ⟨t',rfl⟩:=ry;exact PySem.EqNone.ne_none_int (fin_bl I q (by simp))
  | str j=>obtain ⟨t',rfl⟩:=ry;exact PySem.EqNone.ne_none_str (fin_bl I q (by simp))
  | _=>exact absurd (show false=true from hs) Bool.false_ne_true
 | bl i =>
  cases rx
  cases y with
  | non=>cases ry;exact PySem.EqNone.ne_bool_none (fin_bl I q (by simp))
  | bl j=>cases ry;exact ne_bool (fin_bl I q (congrArg not dec_bl))
  | str j=>obtain ⟨t',rfl⟩:=ry;exact PySem.EqMixed.ne_bool_str (fin_bl I q (by simp))
  | _=>exact absurd (show false=true from hs) Bool.false_ne_true
 | int i =>
  obtain ⟨t,rfl⟩:=rx
  cases y with
  | non=>cases ry;exact PySem.EqNone.ne_int_none (fin_bl I q (by simp))
  | int j=>obtain ⟨t',rfl⟩:=ry;exact ne_int (fin_bl I q (congrArg not dec_int))
  | str j=>obtain ⟨t',rfl⟩:=ry;exact PySem.EqMixed.ne_int_str (fin_bl I q (by simp))
  | _=>exact absurd (show false=true from hs) Bool.false_ne_true
 | str i =>
  obtain ⟨t,rfl⟩:=rx
  cases y with
  | non=>cases ry;exact PySem.EqNone.ne_str_none (fin_bl I q (by simp))
  | bl j=>cases ry;exact PySem.EqMixed.ne_str_bool (fin_bl I q (by simp))
  | int j=>obtain ⟨t',rfl⟩:=ry;exact PySem.EqMixed.ne_str_int (fin_bl I q (by simp))
  | str j=>obtain ⟨t',rfl⟩:=ry;exact ne_str (fin_bl I q (congrArg not dec_str))
  | _=>exact absurd (show false=true from hs) Bool.false_ne_true
 | byt i =>
  obtain ⟨t,rfl⟩:=rx
  cases y with
  | byt j=>obtain ⟨t',rfl⟩:=ry;exact PySem.W.ne_bytes (fin_bl I q (congrArg not dec_byt))
  | _=>exact absurd (show false=true from hs) Bool.false_ne_true
 | _=>cases y <;> exact absurd (show false=true from hs) Bool.false_ne_true
theorem op_lt:OpR X (compareOp .Lt) (rI0 fun i j=>.bl (decide (i<j))):=opB0 fun _ _ _ _ _ _ _ q=>lt_int q
theorem op_gt:OpR X (compareOp .Gt) (rI0 fun i j=>.bl (decide (j<i))):=opB0 fun _ _ _ _ _ _ _ q=>gt_int q
theorem op_notN:OpR X (compareOp .IsNot) (fun x y H Q=>y=.non∧Q (.bl (!decide (x=.non))) H):=by
 intro pins s σ H x y v u Q I rx ry h
 obtain ⟨rfl,q⟩:=h
 cases ry
 refine isnot_none_gen (fin_bl I q ?_)
 cases x <;> first
  | (cases rx;rfl)
  | (obtain ⟨t,rfl⟩:=rx;rfl)
theorem nomark (b:Expr) {op:CmpOp} (h:op≠.In:=by decide) (h2:op≠.NotIn:=by decide):behindInMarks op b=false:=by
 have e1:(op == CmpOp.In)=false:=by cases op <;> first|rfl|exact absurd rfl h
 have e2:(op == CmpOp.NotIn)=false:=by cases op <;> first|rfl|exact absurd rfl h2
 cases b <;> simp [behindInMarks,e1,e2]
theorem pe_cmpR {op:CmpOp} {r:R2} (ho:OpR X (compareOp op) r) (ha:PE X a ta) (hb:PE X b tb) (hm:behindInMarks op b=false):PE X (.Compare a [op] [b] pos) (tOp r ta tb):=by
 intro pins s σ H Q I h
 exact wpAny_Compare1 (binT ha hb I h fun v u s2 x y H2 I2 rx ry q=>ho pins s2 σ H2 x y v u Q I2 rx ry q) hm
noncomputable def tTest (t:TE):TT:=fun σ H Q=>t σ H fun x H'=>∃ k,x=.bl k∧Q k H'
theorem pt_cmpR {op:CmpOp} {r:R2} (ho:OpR X (compareOp op) r) (ha:PE X a ta) (hb:PE X b tb) (hm:behindInMarks op b=false):PT X (.Compare a [op] [b] pos) (tTest (tOp r ta tb)):=by
 intro pins s σ H Q I h
 refine wpAny_isTrue_Compare1 (thn (ha pins s σ H _ I h) fun v s1 ⟨x,H1,I1,r1,q1⟩=>thn (hb pins s1 σ H1 _ I1 q1) fun u s2 ⟨y,H2,I2,r2,q2⟩ =>
  thn (ho pins s2 σ H2 x y v u _ I2 r1 r2 q2) fun c s3 ⟨z,H3,I3,r3,k,e,q3⟩=>?_) hm
 subst e
 cases r3
 exact wpAny_truthy_bool ⟨H3,I3,q3⟩
theorem line63:(sizeLine:Nat)<2 ^ 63:=by rw [sizeLine_eq];decide
theorem vals1 {x:V} {us:List Value} (r:Vals [x] us):∃ u,us=[u]∧RelV x u:=by
 cases r with
 | cons r1 r2=>cases r2;exact⟨_,rfl,r1⟩
theorem vals2 {x y:V} {us:List Value} (r:Vals [x,y] us):∃ u w',us=[u,w']∧RelV x u∧RelV y w':=by
 cases r with
 | cons r1 r2 =>
  cases r2 with
  | cons r3 r4=>cases r4;exact⟨_,_,rfl,r1,r3⟩
theorem call_abs:CallR X (.builtin "abs") (fun xs H Q=>∃ i,xs=[.int i]∧Q (.int (if i<0 then -i else i)) H):=by
 intro pins s σ H xs us Q I r h
 obtain ⟨i,rfl,q⟩:=h
 obtain ⟨u,rfl,t,rfl⟩:=vals1 r
 exact call_abs_int fun u tk=>⟨.int (if i<0 then -i else i),H,I.tok _,⟨_,rfl⟩,q⟩
theorem call_max2 (hc:X.calm=true):CallR X (.builtin "max") (fun xs H Q=>∃ i j,xs=[.int i,.int j]∧Q (.int (if j > i then j else i)) H):=by
 intro pins s σ H xs us Q I r h
 obtain ⟨i,j,rfl,q⟩:=h
 obtain ⟨u,w',rfl,⟨t,rfl⟩,⟨t',rfl⟩⟩:=vals2 r
 refine max_two_ints (I.ok.hd hc) fun h' tk k=>⟨_,H,I.kept k,?_,q⟩
 by_cases hj:j > i
 ·rw [if_pos hj,if_pos hj];exact⟨_,rfl⟩
 ·rw [if_neg hj,if_neg hj];exact⟨_,rfl⟩
theorem call_int1:CallR X (.type "int") (fun xs H Q=>(∃ i,xs=[.int i]∧Q (.int i) H)∨∃ k,xs=[.bl k]∧Q (.int (if k then 1 else 0)) H):=by
 intro pins s σ H xs us Q I r h
 rcases h with ⟨i,rfl,q⟩|⟨k,rfl,q⟩
 ·obtain ⟨u,rfl,t,rfl⟩:=vals1 r
  exact call_int_int ⟨.int i,H,I,⟨_,rfl⟩,q⟩
 ·obtain ⟨u,rfl,r1⟩:=vals1 r
  cases r1
  exact call_int_bool ⟨.int (if k then 1 else 0),H,I.tok _,⟨_,rfl⟩,q⟩
end
end L2
namespace L2
open PySem PySem.Spec PyProof.Rows
structure ObjM (h:Heap) (x dx C:Addr) (mA:Str→Option Value):Prop where
 obj:h.get? x=some (PySem.W.instObj C dx)
 ns:h.Ns1 dx mA
 ne:dx≠x
theorem lookIn_ns {h:Heap} {dx:Addr} {mA:Str→Option Value} (n:h.Ns1 dx mA):∃ od,h.get? dx=some od∧∀ name,PySem.W.lookIn name od=some (mA name):=by
 obtain ⟨o,es,ep,ho,hd,hk,_,hm⟩:=n
 refine⟨o,ho,fun name=>?_⟩
 have e:=hm name
 unfold nsFind findBy at e
 rw [← Array.find?_toList] at e
 unfold PySem.W.lookIn
 rw [hd]
 dsimp only
 split
 ·rename_i y q
  rw [q] at e
  exact congrArg some e
 ·rename_i q
  rw [q] at e
  have a:es.toList.any (·.refKey)=false:=by
   rw [List.any_eq_false]
   intro y hy
   obtain ⟨z,t,hkey⟩:=hk y (Array.mem_toList_iff.mp hy)
   simp [DictEntry.refKey,hkey]
  have a':¬ es.toList.any (·.refKey)=true:=by rw [a];exact Bool.false_ne_true
  rw [if_neg a']
  exact congrArg some e
theorem ObjM.look {h:Heap} {x dx C:Addr} {mA:Str→Option Value} (I:ObjM h x dx C mA):∃ od,PySem.W.InstAt h x (PySem.W.instObj C dx) C (some od)∧∀ name,PySem.W.lookIn name od=some (mA name) :=
 let ⟨od,ho,hl⟩:=lookIn_ns I.ns
 ⟨od,⟨I.obj,rfl,rfl,ho⟩,hl⟩
section
variable {P:Program} {w:World} {H H':Hp} {h h':Heap} {a C dx:Addr} {fs fs':List (Str×V)}
theorem ins_get (hok:HOk P w H h) (e:H a=some (.ins C dx fs)):∃ mA,ObjM h a dx C mA∧(∀ f,RelO (fs.lookup f) (mA f))∧PySem.Within mA (fs.map (·.1))∧fs.length≤1000∧H dx=some (.own a):=by
 obtain ⟨d,z,ne,ob,mA,n,r,q⟩:=(show ObjOk P w H h a (.ins C dx fs) from hok a _ e)
 exact⟨mA,⟨ob,n,ne⟩,r,q,z,d⟩
end
structure Cls (K:PySem.W.Frag) (C:Addr):Prop where
 pg:PySem.W.plainGet K C Str.empty=true
 hd:PySem.W.hasDictIn K C=true
 po:PySem.W.plainOver K C=true
 sa:PySem.W.findIn K (.ref C) "__setattr__"=some (some (.builtin "object.__setattr__"))
theorem Cls.get {K:PySem.W.Frag} {C:Addr} (c:Cls K C) (f:Str):PySem.W.plainGet K C f=true:=c.pg
section
variable {X:Cx} {pins:List (Addr×Obj)} {σ:St} {H:Hp} {s:Shared} {A:Around} {E:Value→Shared→Prop} {Q:Value→Shared→Prop} {c:Value} {b:Bool}
inductive TyOf (K:PySem.W.Frag) (H:Hp):V→Value→Prop where
 | non:TyOf K H .non (.type "NoneType")
 | bl (x:Bool):TyOf K H (.bl x) (.type "bool")
 | int (i:Int):TyOf K H (.int i) (.type "int")
 | str (x:Str):TyOf K H (.str x) (.type "str")
 | flt (x:UInt64):TyOf K H (.flt x) (.type "float")
 | lst {a:Addr} {xs:List V} (e:H a=some (.lst xs)):TyOf K H (.ref a) (.type "list")
 | frz {a:Addr} {o:Obj} {xs:List V} (e:H a=some (.frz o (.lst xs))):TyOf K H (.ref a) (.type "list")
 | tup {a:Addr} {xs:List V} (e:H a=some (.tup xs)):TyOf K H (.ref a) (.type "tuple")
 | dK {a:Addr} {kvs:List (Key×V)} (e:H a=some (.dK kvs)):TyOf K H (.ref a) (.type "dict")
 | dT {a:Addr} {kvs:List (List Key×V)} (e:H a=some (.dT kvs)):TyOf K H (.ref a) (.type "dict")
 | ins {a C dx:Addr} {fs:List (Str×V)} (e:H a=some (.ins C dx fs)) (cl:Cls K C) (ha:PySem.W.findIn K (.ref C) "__class__"=some (some (.builtin "object.__class__")))
   (hn:PySem.W.specialIn K (.builtin "object.__class__") "__get__"=some (some (.builtin "getset_descriptor.__get__"))) (htk:PySem.W.takesIn K (.builtin "object.__class__")=some true)
   (hm:PySem.W.mroIn K C (.type "object")=some true):TyOf K H (.ref a) (.ref C)
theorem isinst_ok {x:V} {u t:Value} (I:Inv X pins σ H s) (rx:RelV x u) (ty:TyOf X.K H x t) (e:PySem.W.kitOne X.K t c=some b) (h:∀ tk,Q (.bool b) { s with toks:=tk }) :
  wpAny (model X.prog X.w) A (call (.builtin "isinstance") [u,c]) Q E s:=by
 cases ty with
 | non=>cases (show u=Value.none from rx);exact PySem.W.kia_one PySem.W.kitx_none I.kIn True.intro e (fun z=>nomatch z) h
 | bl y=>cases (show u=Value.bool y from rx);exact PySem.W.kia_one PySem.W.kitx_bool I.kIn True.intro e (fun z=>nomatch z) h
 | int i=>obtain ⟨t,q⟩:=(show ∃ t,u=Value.int i t from rx);cases q;exact PySem.W.kia_one PySem.W.kitx_int I.kIn True.intro e (fun z=>nomatch z) h
 | str y=>obtain ⟨t,q⟩:=(show ∃ t,u=Value.str y t from rx);cases q;exact PySem.W.kia_one PySem.W.kitx_str I.kIn True.intro e (fun z=>nomatch z) h
 | flt y=>obtain ⟨t,q⟩:=(show ∃ t,u=Value.float y t from rx);cases q;exact PySem.W.kia_one PySem.W.kitx_float I.kIn True.intro e (fun z=>nomatch z) h
 | @lst a xs ea =>
  cases (show u=Value.ref a from rx)
  obtain ⟨_,_,n,_,h1⟩:=(show ObjOk X.prog X.w H s.heap a (.lst xs) from I.hok a _ ea)
  exact PySem.W.kia_one PySem.W.kitx_list I.kIn ⟨_,h1,rfl⟩ e (fun z=>nomatch z) h
 | @frz a ob xs ea =>
  cases (show u=Value.ref a from rx)
  obtain ⟨_,_,_,n,_,h1⟩:=(show ObjOk X.prog X.w H s.heap a (.frz ob (.lst xs)) from I.hok a _ ea)
  exact PySem.W.kia_one PySem.W.kitx_list I.kIn ⟨_,h1,rfl⟩ e (fun z=>nomatch z) h
 | @tup a xs ea =>
  cases (show u=Value.ref a from rx)
  obtain ⟨_,_,_,p⟩:=(show ObjOk X.prog X.w H s.heap a (.tup xs) from I.hok a _ ea)
  obtain ⟨o,h1,h2,_⟩:=p
  exact PySem.W.kia_one PySem.W.kitx_tuple I.kIn ⟨o,h1,h2⟩ e (fun z=>nomatch z) h
 | @dK a kvs ea =>
  cases (show u=Value.ref a from rx)
  obtain ⟨_,_,vs,_,p⟩:=(show ObjOk X.prog X.w H s.heap a (.dK kvs) from I.hok a _ ea)
  obtain ⟨o,es,ep,h1,h2,_⟩:=p
  exact PySem.W.kia_one PySem.W.kitx_dict I.kIn ⟨o,h1,h2.1⟩ e (fun z=>nomatch z) h
 | @dT a kvs ea =>
  cases (show u=Value.ref a from rx)
  obtain ⟨_,_,xs,_,o,es,ep,h1,h2,_⟩:=(show ObjOk X.prog X.w H s.heap a (.dT kvs) from I.hok a _ ea)
  exact PySem.W.kia_one PySem.W.kitx_dict I.kIn ⟨o,h1,h2.1⟩ e (fun z=>nomatch z) h
 | @ins a C dx fs ea cl ha hn htk hm =>
  cases (show u=Value.ref a from rx)
  obtain ⟨mA,O,_⟩:=ins_get I.hok ea
  obtain ⟨od,J,_⟩:=O.look
  exact PySem.W.kia_one (PySem.W.kitx_own (cl.get _) cl.hd ha hn htk hm) I.kIn J e (fun z=>nomatch z) h
end
end L2
namespace L2
open PySem PySem.Spec PyProof.Rows
structure Room (k:Nat) (A:Around):Prop where
 hd:A.handled=none
 dp:A.depth+3*k+5<recursionLimit
 un:A.units+16*k+200<cLine
theorem Room.mono {j k:Nat} {A:Around} (r:Room k A) (h:j≤k):Room j A:=⟨r.hd,by have:=r.dp;lia,by have:=r.un;lia⟩
theorem Room.deeper {k:Nat} {A:Around} (r:Room (k+1) A) (env:Env):Room k (A.deeper env) :=
 ⟨r.hd,by have:=r.dp;show A.depth+1+3*k+5<_;lia,by have:=r.un;show A.units+3+16*k+200<_;lia⟩
theorem Room.in1 {k:Nat} {A:Around} (r:Room (k+1) A):Room k A.in1 :=
 ⟨r.hd,by have:=r.dp;show A.depth+3*k+5<_;lia,by have:=r.un;show A.units+1+16*k+200<_;lia⟩
theorem Room.depth {k:Nat} {A:Around} (r:Room k A):A.depth<recursionLimit:=by have:=r.dp;lia
theorem Room.units {k:Nat} {A:Around} (r:Room k A):A.units+64<cLine:=by have:=r.un;lia
noncomputable def tNil:TA:=fun _ H Q=>Q [] H
noncomputable def tCons (ta:TE) (tr:TA):TA:=fun σ H Q=>ta σ H fun x H1=>tr σ H1 fun xs H2=>Q (x::xs) H2
section
variable {X:Cx} {e:Expr} {es:List Expr} {te:TE} {t:TA} {pos:Pos}
theorem pa_nil:PA X [] tNil:=fun _ _ _ _ H Q I h=>Calls.spliced_nil ⟨[],H,I,.nil,h⟩
theorem pa_cons (ha:PE X e te) (hr:PA X es t) (hs:starEach (e::es) X.env=(false,eval e X.env)::starEach es X.env:=by rfl):PA X (e::es) (tCons te t):=by
 intro pos pins s σ H Q I h
 rw [hs]
 show wpAny _ _ (spliced ((false,eval e X.env)::backTo pos (starEach es X.env))) _ _ s
 refine Calls.spliced_cons (thn (ha pins s σ H _ I h) fun u s1 ⟨x,H1,I1,r1,q1⟩=>?_)
 exact thn (hr pos pins s1 σ H1 _ I1 q1) fun us s2 ⟨xs,H2,I2,r2,q2⟩=>⟨x::xs,H2,I2,.cons r1 r2,q2⟩
noncomputable def tTup (t:TA):TE:=fun σ H Q=>t σ H fun xs H1=>xs.length≤sizeLine∧∀ p,H1 p=none→Q (.ref p) (upd H1 p (.tup xs))
noncomputable def tLst (t:TA):TE:=fun σ H Q=>t σ H fun xs H1=>xs.length≤sizeLine∧∀ p,H1 p=none→Q (.ref p) (upd H1 p (.lst xs))
theorem pe_tup {x1} (h:PA X es t):PE X (.Tuple es x1 pos) (tTup t):=by
 intro pins s σ H Q I hq
 refine wpAny_Tuple_spliced (thn (h pos pins s σ H _ I hq) fun us s1 ⟨xs,H1,I1,r,z,q⟩=>⟨by rw [← r.length];exact z,?_⟩)
 have hf:H1 s1.heap.objs.size=none:=I1.hok.fresh (Nat.le_refl _)
 refine⟨.ref s1.heap.objs.size,upd H1 s1.heap.objs.size (.tup xs),I1.laid (t':=s1.toks) (fun b u e=>Heap.get?_push_of_some _ e) (Nat.le_refl _) ?_,rfl,q _ hf⟩
 exact⟨z,us,r,⟨_,Heap.get?_push_size _ rfl,rfl,_,rfl⟩⟩
theorem pe_lst (h:PA X es t):PE X (.List es pos) (tLst t):=by
 intro pins s σ H Q I hq
 refine wpAny_List_spliced (thn (h pos pins s σ H _ I hq) fun us s1 ⟨xs,H1,I1,r,z,q⟩=>⟨by rw [← r.length];exact z,?_⟩)
 have hf:H1 s1.heap.objs.size=none:=I1.hok.fresh (Nat.le_refl _)
 refine⟨.ref s1.heap.objs.size,upd H1 s1.heap.objs.size (.lst xs),I1.laid (t':=s1.toks) (fun b u e=>Heap.get?_push_of_some _ e) (Nat.le_refl _) ?_,rfl,q _ hf⟩
 exact⟨z,us,0,r,Heap.get?_push_size _ rfl⟩
end
noncomputable abbrev Sp:=List V→Hp→VK→XK→Prop
noncomputable abbrev CXT:=List Env→Hp→Shared→XK→Value→Shared→Prop
structure Env0 (P:Program) (w:World) (K:PySem.W.Frag) (mg:Str→Option Value) (base:Heap) (A:Around) (outer:List Env) (s:Shared) (H:Hp):Prop where
 frames:A.frames=some outer
 mod:Mod K mg base
 bs:∀ b o,base.get? b=some o→s.heap.get? b=some o∧H b=none
 bsz:base.objs.size≤s.heap.objs.size
 funs:s.heap.FunFrames base outer
 frf:∀ b∈frs outer,H b=none
 hok:HOk P w H s.heap
 bare:AllBare s.gens
noncomputable def CE (outer:List Env) (P:Program) (w:World) (H:Hp) (s:Shared) (Q:VK) (u:Value) (s':Shared):Prop :=
 ∃ v H',s'.os=s.os∧AllBare s'.gens∧Un (frs outer) [] H H' s.heap s'.heap∧HOk P w H' s'.heap∧RelV v u∧Q v H'
noncomputable def CR (CX:CXT) (outer:List Env) (P:Program) (w:World) (H:Hp) (s:Shared) (Q:VK) (E:XK) (r:Result) (s':Shared):Prop :=
 match r with
 | .ok (.ret u)=>CE outer P w H s Q u s'
 | .ok _=>False
 | .error e=>CX outer H s E e s'
structure FnOk (P:Program) (w:World) (K:PySem.W.Frag) (mg:Str→Option Value) (base:Heap) (CX:CXT) (k:Nat) (f:Addr) (fd:FuncData) (ps:List Str) (sp:Sp):Prop where
 len:∀ vs H Q E,sp vs H Q E→vs.length=ps.length
 run:∀ (A:Around) (outer:List Env) (s:Shared) (H:Hp) (args:Args) (us:List Value) (vs:List V) (Q:VK) (E:XK),Room k A→Env0 P w K mg base A outer s H→BindsTo s fd args (ps.zip us)→Vals vs us→sp vs H Q E →
  codeAny (model P w) A (.call (.ref f) args) (CR CX outer P w H s Q E) s
section
variable {X:Cx} {pins:List (Addr×Obj)} {σ:St} {H:Hp} {s s':Shared}
theorem Inv.env0 (I:Inv X pins σ H s):Env0 X.prog X.w X.K X.mg X.base X.A X.stack s H :=
 ⟨I.ok.frames,I.ok.mod,I.bs,Nat.le_trans I.ok.bsz I.sz,I.stack,I.stkFree,I.hok,I.bare⟩
theorem Inv.after {Q:VK} {u:Value} (I:Inv X pins σ H s) (h:CE X.stack X.prog X.w H s Q u s'):EP X pins σ Q u s':=by
 obtain ⟨v,H',os,bare,un,hok,r,q⟩:=h
 obtain ⟨hh,g,d,t,os'⟩:=s'
 obtain rfl:os'=s.os:=os
 exact⟨v,H',I.call (h':=hh) (g':=g) (d':=d) (t':=t) (ch:=[]) un hok bare (fun b z=>absurd z (by simp)),r,q⟩
end
noncomputable def tCall (sp:Sp) (dvs:List V) (E:XK) (t:TA):TE:=fun σ H Q=>t σ H fun vs H1=>sp (vs++dvs) H1 Q E
noncomputable def Binds (K:PySem.W.Frag) (fd:FuncData) (ps:List Str) (ds:List Value):Prop :=
 ∀ (s:Shared) (us:List Value),K.In s.heap→(us++ds).length=ps.length→BindsTo s fd ⟨us,[]⟩ (ps.zip (us++ds))
theorem Binds.all {K:PySem.W.Frag} {fd:FuncData} {ps:List Str} (h:∀ us:List Value,us.length=ps.length→bindArgs fd ⟨us,[]⟩=pure (ps.zip us)):Binds K fd ps []:=fun s us _ hl=>by
 rw [List.append_nil] at hl ⊢
 exact .of_eq (h us hl)
noncomputable def Passes (CX:CXT) (X:Cx) (E:XK):Prop:=∀ (pins:List (Addr×Obj)) (σ:St) (H:Hp) (s:Shared) (e:Value) (s':Shared),Inv X pins σ H s→CX X.stack H s E e s'→X.xe e s'
section
variable {X:Cx} {CX:CXT} {k:Nat} {f C:Addr} {fd:FuncData} {ps:List Str} {sp:Sp} {dvs:List V} {ds:List Value} {E:XK} {x m:Str} {p pos apos:Pos} {e o:Expr} {es:List Expr} {ta:TE} {t:TA}
theorem run_fn {pins:List (Addr×Obj)} {σ:St} {H:Hp} {s:Shared} {Q:VK} {us:List Value} {vs:List V} (F:FnOk X.prog X.w X.K X.mg X.base CX k f fd ps sp) (hr:Room k X.A) (hb:Binds X.K fd ps ds) (hd:Vals dvs ds) (hx:Passes CX X E)
  (I:Inv X pins σ H s) (r:Vals vs us) (h:sp (vs++dvs) H Q E):wpAny (model X.prog X.w) X.A (call (.ref f) us) (EP X pins σ Q) X.xe s:=by
 have r2:Vals (vs++dvs) (us++ds):=r.append hd
 have hl:(us++ds).length=ps.length:=by rw [← r2.length];exact F.len _ _ _ _ h
 refine wpAny_call (codeAny_mono (F.run X.A X.stack s H ⟨us,[]⟩ (us++ds) (vs++dvs) Q E hr I.env0 (hb s us I.kIn hl) r2 h) fun r s' hq=>?_)
 cases r with
 | error e=>exact hx pins σ H s e s' I hq
 | ok fl =>
  cases fl with
  | ret u=>exact I.after hq
  | next=>exact False.elim hq
  | brk=>exact False.elim hq
  | cont=>exact False.elim hq
theorem pe_call (F:FnOk X.prog X.w X.K X.mg X.base CX k f fd ps sp) (hr:Room k X.A) (hg:Gl X x) (hm:X.mg x=some (.ref f)) (hk:PySem.W.keepIn X.K (.ref f)=true) (hb:Binds X.K fd ps ds) (hd:Vals dvs ds) (hx:Passes CX X E)
  (ha:PA X (e::es) t) (hdb:(x == ("__debug__":Str))=false:=by decide) (he:starEach (e::es) X.env=(false,eval e X.env)::starEach es X.env:=by rfl) (hpl:(backTo pos (starEach es X.env)).any (·.1)=false:=by rfl) :
  PE X (.Call (.Name x p) (e::es) [] pos) (tCall sp dvs E t):=by
 intro pins s σ H Q I h
 refine wpAny_Call_Name_kw (ld_glob I hg hm ?_ hdb)
 refine PySem.W.callWith_K (h₀:=X.base) I.ok.mod.kin hk (thn (ha pos pins s σ H _ I h) fun us s1 ⟨vs,H1,I1,r,q⟩=>⟨I1.kIn,?_⟩) he hpl
 exact run_fn F hr hb hd hx I1 r q
end
noncomputable def PK (X:Cx) (kws:List Keyword) (t:TA):Prop :=
 ∀ (pos:Pos) (pins:List (Addr×Obj)) (s:Shared) (σ:St) (H:Hp) (Q:List V→Hp→Prop),Inv X pins σ H s→t σ H Q→wpAny (model X.prog X.w) X.A (evalAll ((backToKw pos (keywordEach kws X.env)).map (·.2))) (AP X pins σ Q) X.xe s
section
variable {X:Cx} {CX:CXT} {k:Nat} {f C:Addr} {fd:FuncData} {ps ks:List Str} {sp:Sp} {E:XK} {x m:Str} {p pos apos kpos:Pos} {e o:Expr} {es:List Expr} {kws:List Keyword} {te ta:TE} {t tk:TA} {nm:Option Str}
theorem pk_nil:PK X [] tNil:=fun _ _ _ _ H Q I h=>wpAny_evalAll_nil ⟨[],H,I,.nil,h⟩
theorem pk_cons (ha:PE X e te) (hr:PK X kws t):PK X (⟨nm,e,kpos⟩::kws) (tCons te t):=by
 intro pos pins s σ H Q I h
 show wpAny _ _ (evalAll ((do let v ← eval e X.env;standAt pos;pure v)::(backToKw pos (keywordEach kws X.env)).map (·.2))) _ _ s
 refine wpAny_evalAll_cons (wpAny_bind (thn (ha pins s σ H _ I h) fun u s1 ⟨x,H1,I1,r1,q1⟩=>wpAny_bind (wpAny_standAt (wpAny_pure ?_))))
 exact thn (hr pos pins s1 σ H1 _ I1 q1) fun us s2 ⟨xs,H2,I2,r2,q2⟩=>⟨x::xs,H2,I2,.cons r1 r2,q2⟩
variable {g:List Value→List Value→List Value} {gV:List V→List V→List V}
end
structure FnScope (N P:List Str) (sc:Scope):Prop where
 kind:sc.kind=.function
 co:sc.isCoroutine=false
 gen:sc.isGenerator=false
 nd:N.Nodup
 pre:N.take P.length=P
 par:∀ x∈P,sc.names.lookup x=some .local∨sc.names.lookup x=some .cell
 nofree:∀ y∈sc.names,y.2≠.free
theorem bindL_out {kindOf:Str→Option NameKind} {x:Str}:∀ {binds:List (Str×Value)} {m:Str→Option Value},(∀ v,(x,v)∉binds)→bindL kindOf binds m x=m x
 | [],_,_=>rfl
 | (n,v)::r,m,h=>by
  unfold bindL
  rw [bindL_out fun w hw=>h w (List.mem_cons_of_mem _ hw)]
  split
  ·have:x≠n:=by rintro rfl;exact h v List.mem_cons_self
   simp [this]
  ·rfl
theorem bindC_out {kindOf:Str→Option NameKind} {x:Str}:∀ {binds:List (Str×Value)} {m:Str→Option Value},(∀ v,(x,v)∉binds)→bindC kindOf binds m x=m x
 | [],_,_=>rfl
 | (n,v)::r,m,h=>by
  unfold bindC
  rw [bindC_out fun w hw=>h w (List.mem_cons_of_mem _ hw)]
  split
  ·rfl
  ·have:x≠n:=by rintro rfl;exact h v List.mem_cons_self
   simp [this]
theorem bindL_get {kindOf:Str→Option NameKind} {x:Str} {v:Value}:∀ {P:List Str} {vs:List Value} {i:Nat} {m:Str→Option Value},P.Nodup→P[i]?=some x→vs[i]?=some v→kindOf x=some .local →
  bindL kindOf (P.zip vs) m x=some v
 | [],_,_,_,_,h,_,_=>by simp at h
 | _::_,[],_,_,_,_,h,_=>by simp at h
 | p::P,w::vs,0,m,nd,h1,h2,hk=>by
  simp at h1 h2;subst h1;subst h2
  show bindL kindOf ((p,w)::P.zip vs) m p=_
  unfold bindL
  rw [bindL_out fun v hv=>(List.nodup_cons.mp nd).1 (List.of_mem_zip hv).1,if_pos hk]
  simp
 | p::P,w::vs,i+1,m,nd,h1,h2,hk=>by
  show bindL kindOf ((p,w)::P.zip vs) m x=_
  unfold bindL
  exact bindL_get (i:=i) (List.nodup_cons.mp nd).2 (by simpa using h1) (by simpa using h2) hk
theorem bindC_get {kindOf:Str→Option NameKind} {x:Str} {v:Value}:∀ {P:List Str} {vs:List Value} {i:Nat} {m:Str→Option Value},P.Nodup→P[i]?=some x→vs[i]?=some v→kindOf x≠some .local →
  bindC kindOf (P.zip vs) m x=some v
 | [],_,_,_,_,h,_,_=>by simp at h
 | _::_,[],_,_,_,_,h,_=>by simp at h
 | p::P,w::vs,0,m,nd,h1,h2,hk=>by
  simp at h1 h2;subst h1;subst h2
  show bindC kindOf ((p,w)::P.zip vs) m p=_
  unfold bindC
  rw [bindC_out fun v hv=>(List.nodup_cons.mp nd).1 (List.of_mem_zip hv).1,if_neg hk]
  simp
 | p::P,w::vs,i+1,m,nd,h1,h2,hk=>by
  show bindC kindOf ((p,w)::P.zip vs) m x=_
  unfold bindC
  exact bindC_get (i:=i) (List.nodup_cons.mp nd).2 (by simpa using h1) (by simpa using h2) hk
noncomputable def start (N:List Str) (vs:List V):St:=vs.map some++List.replicate (N.length - vs.length) none
noncomputable def cxOf (CX:CXT) (P:Program) (w:World) (K:PySem.W.Frag) (mg:Str→Option Value) (base:Heap) (N:List Str) (qual:Str) (scope:Scope) (f:Addr) (cd:Value) (A:Around) (outer:List Env) (s:Shared) (H:Hp) (E:XK):Cx where
 prog:=P
 w:=w
 K:=K
 mg:=mg
 base:=base
 A:=A.deeper (envOfC qual scope s.heap.objs.size f cd)
 N:=N
 s₀:=s
 H₀:=H
 env:=envOfC qual scope s.heap.objs.size f cd
 outer:=outer
 stack:=envOfC qual scope s.heap.objs.size f cd::outer
 ex:=[]
 calm:=true
 fn:=fun _=>true
 pn:=[]
 xe:=fun e s'=>wpAny (model P w) (A.deeper (envOfC qual scope s.heap.objs.size f cd)) (leaving (envOfC qual scope s.heap.objs.size f cd) e) (fun _ s''=>CX outer H s E e s'') (fun e' s''=>CX outer H s E e' s'') s'
theorem cell_has {sc:Scope} {n:Nat} {x:Str} (h:sc.names.lookup x=some .cell):∃ c,(cellsFrom n sc.names []).lookup x=some c:=by
 have q:=PySem.W.cellsFrom_some sc.names n [] (.inl h)
 exact Option.isSome_iff_exists.mp q
theorem inv_start {CX:CXT} {P:Program} {w:World} {K:PySem.W.Frag} {mg:Str→Option Value} {base:Heap} {N ps:List Str} {qual:Str} {scope:Scope} {f:Addr} {cd:Value} {A:Around} {outer:List Env} {s s1:Shared} {H:Hp} {E:XK} {us:List Value} {vs:List V}
  (S:FnScope N ps scope) (hd:A.handled=none) (e0:Env0 P w K mg base A outer s H) (hl:vs.length=ps.length) (r:Vals vs us)
  (x:InCallC s s.heap.objs.size (bindL (envOfC qual scope s.heap.objs.size f cd).kindOf (ps.zip us) fun _=>none) (cellsFrom (s.heap.objs.size+1) scope.names []) (bindC (envOfC qual scope s.heap.objs.size f cd).kindOf (ps.zip us) fun _=>none) s1) :
  Inv (cxOf CX P w K mg base N qual scope f cd A outer s H E) [] (start N vs) H s1:=by
 have hpl:ps.length≤N.length:=by have:=congrArg List.length S.pre;rw [List.length_take] at this;lia
 obtain ⟨h1,tk,rfl,hk⟩:=x.done
 have noA:∀ b:Addr,b∉(cxOf CX P w K mg base N qual scope f cd A outer s H E).ex:=fun b z=>absurd (show b∈([]:List Addr) from z) (by simp)
 refine⟨⟨e0.mod,S.kind,rfl,rfl,Nat.le_refl _,fun y z c h1 h2=>?_,fun y hy=>?_,fun y c _ h=>?_,fun _=>hd,Around.frames_deeper e0.frames,.inr ⟨rfl,rfl⟩,fun b z=>absurd z (noA b),e0.bs,e0.bsz,fun b _ _=>noA b,fun b z=>absurd z (noA b),e0.funs,e0.frf⟩,
  rfl,e0.bare,Un.kept hk,⟨_,x.toInCall.ns,fun i y v h1 h2 h3=>?_⟩,fun y c h=>⟨_,x.cell y c h⟩,e0.hok.fresh (Nat.le_refl _),fun y c h=>?_,fun p hp=>absurd (show p∈([]:List (Addr×Obj)) from hp) (by simp),e0.hok.kept hk,?_⟩
 ·exact name_of_addr x.apart (PySem.mem_of_lookup h1) (PySem.mem_of_lookup h2)
 ·have hy:scope.names.lookup y=some .cell∨scope.names.lookup y=some .free:=hy
  rcases hy with hy|hy
  ·exact cell_has hy
  ·exact absurd rfl (S.nofree _ (PySem.mem_of_lookup hy))
 ·exact Nat.le_of_lt (x.above y c (PySem.mem_of_lookup h))
 ·have hi:i<vs.length:=by
   unfold start at h2
   by_cases hi:i<vs.length
   ·exact hi
   ·rw [List.getElem?_append_right (by simpa using hi)] at h2
    rw [List.getElem?_replicate] at h2
    split at h2 <;> cases h2
  have ha:vs[i]?=some v:=by
   unfold start at h2
   rw [List.getElem?_append_left (by simpa using hi),List.getElem?_map] at h2
   cases e:vs[i]? with
   | none=>rw [e] at h2;cases h2
   | some a=>rw [e] at h2;cases h2;rfl
  obtain ⟨u,hu,rv⟩:=r.get ha
  have hp:ps[i]?=some y:=by
   rw [← S.pre,List.getElem?_take_of_lt (by lia)];exact h1
  have ndP:ps.Nodup:=by rw [← S.pre];exact S.nd.sublist (List.take_sublist _ _)
  refine⟨u,rv,?_⟩
  rcases S.par y (List.mem_of_getElem? hp) with k|k
  ·exact .inl ⟨k,bindL_get ndP hp hu k⟩
  ·obtain ⟨c,e⟩:=cell_has (n:=s.heap.objs.size+1) k
   refine .inr ⟨.inl k,c,e,?_⟩
   have q:=x.cell y c e
   rw [bindC_get ndP hp hu (by show scope.names.lookup y≠_;rw [k];decide)] at q
   exact q
 ·exact e0.hok.fresh (Nat.le_of_lt (x.above y c (PySem.mem_of_lookup h)))
 ·unfold start
  show _=N.length
  rw [List.length_append,List.length_map,List.length_replicate]
  lia
theorem fn_of {CX:CXT} {P:Program} {w:World} {K:PySem.W.Frag} {mg:Str→Option Value} {base:Heap} {k:Nat} {f:Addr} {name qual:Str} {params:Arguments} {body:List Stmt} {scope:Scope} {dV kV doc pm cdv ct oc:Value} {an od:Option Addr}
  {osl:Array (Option Value)} {N ps:List Str} {sp:Sp} (lk:K.lookup f=some ⟨oc,od,.func (PySem.W.fnOf name qual params body scope dV kV doc pm an cdv ct),osl⟩) (hcd:PySem.W.codeIn K cdv qual=true) (S:FnScope N ps scope)
  (len:∀ vs H Q E,sp vs H Q E→vs.length=ps.length)
  (hbody:∀ (A:Around) (outer:List Env) (s:Shared) (H:Hp) (vs:List V) (Q:VK) (E:XK),Room k (A.deeper (envOfC qual scope s.heap.objs.size f cdv))→sp vs H Q E →
   ∃ t,PSs (cxOf CX P w K mg base N qual scope f cdv A outer s H E) body t∧t { nx:=fun _ H'=>Q .non H',rt:=Q } (start N vs) H) :
  FnOk P w K mg base CX (k+1) f (PySem.W.fnOf name qual params body scope dV kV doc pm an cdv ct) ps sp:=by
 refine⟨len,fun A outer s H args us vs Q E hr e0 hb r hsp=>?_⟩
 have hl:=len _ _ _ _ hsp
 have KX:K.In s.heap:=e0.mod.kin.keeps fun b o e=>(e0.bs b o e).1
 have lim:s.heap.NoLimit:=e0.mod.nolimit.keeps fun b o e=>(e0.bs b o e).1
 have hkind:∀ y∈ps.zip us,scope.names.lookup y.1=some .local∨(scope.names.lookup y.1=some .cell∧((cellsFrom (s.heap.objs.size+1) scope.names []).lookup y.1).isSome=true):=fun ⟨n,v⟩ hy=>by
  rcases S.par n (List.of_mem_zip hy).1 with q|q
  ·exact .inl q
  ·exact .inr ⟨q,PySem.W.cellsFrom_some _ _ _ (.inl q)⟩
 refine codeAny_call_function hr.depth (KX _ _ lk) rfl S.co S.gen rfl (PySem.W.codeRec_of KX hcd) (hb _ _ _ _ ?_)
 refine wpAny_newFunctionEnv_cells S.kind hkind fun env he s1 x=>?_
 subst he
 refine⟨lim.keeps x.toInCall.keep,codeAny_func ?_⟩
 obtain ⟨t,ht,hq⟩:=hbody A outer s H vs Q E (hr.deeper _) hsp
 have I:Inv (cxOf CX P w K mg base N qual scope f cdv A outer s H E) [] (start N vs) H s1:=inv_start S hr.hd e0 hl r x
 refine wpAny_mono (ht [] s1 (start N vs) H _ I hq) (fun fl s' hs=>?_) fun e s' hs=>hs
 have fin:∀ {σ':St} {H':Hp} {v:V} {u:Value},Inv (cxOf CX P w K mg base N qual scope f cdv A outer s H E) [] σ' H' s'→RelV v u→Q v H'→CE outer P w H s Q u s' :=
  fun {σ' H' v u} J rv q=>⟨v,H',J.os,J.bare,J.base,J.hok,rv,q⟩
 cases fl with
 | ret u =>
  obtain ⟨v,σ',H',J,rv,q⟩:=hs
  exact fin J rv q
 | next =>
  obtain ⟨σ',H',J,q⟩:=hs
  exact fin (v:=V.non) (u:=Value.none) J rfl q
 | brk =>
  obtain ⟨_,_,_,q⟩:=hs
  exact False.elim q
 | cont =>
  obtain ⟨_,_,_,q⟩:=hs
  exact False.elim q
end L2
namespace L2
open PySem PySem.Spec PyProof.Rows
section
variable {X:Cx} {x:Str} {p pos:Pos} {e:Expr} {es:List Expr} {t:TA} {id T:String} {r:List V→Hp→VK→Prop}
noncomputable def tCB (r:List V→Hp→VK→Prop) (t:TA):TE:=fun σ H Q=>t σ H fun vs H1=>r vs H1 Q
theorem pe_callB (hc:CallR X (.builtin id) r) (hg:Gl X x) (hm:X.mg x=none) (hv:bootBuiltins x=some (.builtin id)) (ha:PA X (e::es) t) (hn:x≠"__name__":=by decide) (hdb:(x == ("__debug__":Str))=false:=by decide)
  (he:starEach (e::es) X.env=(false,eval e X.env)::starEach es X.env:=by rfl) (hpl:(backTo pos (starEach es X.env)).any (·.1)=false:=by rfl):PE X (.Call (.Name x p) (e::es) [] pos) (tCB r t):=by
 intro pins s σ H Q I h
 refine wpAny_Call_Name_kw (ld_blt I hg hm hv ?_ hn hdb)
 exact PyProof.Rows.callWith_builtin1 (thn (ha pos pins s σ H _ I h) fun us s1 ⟨vs,H1,I1,r1,q1⟩=>hc pins s1 σ H1 vs us Q I1 r1 q1) he hpl
theorem pe_callTy (hc:CallR X (.type T) r) (hg:Gl X x) (hm:X.mg x=none) (hv:bootBuiltins x=some (.type T)) (ha:PA X (e::es) t) (hn:x≠"__name__":=by decide) (hdb:(x == ("__debug__":Str))=false:=by decide)
  (he:starEach (e::es) X.env=(false,eval e X.env)::starEach es X.env:=by rfl) (hpl:(backTo pos (starEach es X.env)).any (·.1)=false:=by rfl):PE X (.Call (.Name x p) (e::es) [] pos) (tCB r t):=by
 intro pins s σ H Q I h
 refine wpAny_Call_Name_kw (ld_blt I hg hm hv ?_ hn hdb)
 exact PyProof.Rows.callWith_type1 (thn (ha pos pins s σ H _ I h) fun us s1 ⟨vs,H1,I1,r1,q1⟩=>hc pins s1 σ H1 vs us Q I1 r1 q1) he hpl
end
end L2
namespace HT
open PySem PyProof.Rows
section
variable {prog:Program} {w:World} {A:Around} {E:Value→Shared→Prop} {s:Shared}
theorem cat_tup {t b:Addr} {vs ws:List Value} {Q:Value→Shared→Prop} (ht:IsTup s.heap t vs.toArray) (hb:IsTup s.heap b ws.toArray) (hv:vs≠[])
  (h1:ws=[]→Q (.ref t) s) (h2:ws≠[]→Q (.ref s.heap.objs.size) { s with heap:=s.heap.push { cls:=.type "tuple",data:=.seq (vs++ws).toArray } })
  (hsz:vs.length+ws.length≤sizeLine):wpAny (model prog w) A (binaryOp .Add (.ref t) (.ref b)) Q E s:=by
 obtain ⟨⟨cls,dd,data,sl⟩,ho,hc,n,hd⟩:=id ht
 obtain ⟨⟨cls2,dd2,data2,sl2⟩,ho2,hc2,n2,hd2⟩:=id hb
 simp only at hc hd hc2 hd2
 subst hc hd hc2 hd2
 have e:vs.toArray++ws.toArray=(vs++ws).toArray:=by simp
 by_cases hw:ws=[]
 ·exact concat_meets ⟨_,ho,rfl⟩ ⟨_,ho2,rfl⟩ noFill_tuple_add seq_tuple_add PySem.F.slot_tuple_add PySem.F.entry_tuple_add (PySem.F.args_tuple_add_2 _ _)
   (tuple_addW1 t b vs.toArray ws.toArray n n2 dd dd2 sl sl2 (by simpa using hv) (by simp [hw])) ⟨ho,ho2,h1 hw⟩
 ·refine concat_meets ⟨_,ho,rfl⟩ ⟨_,ho2,rfl⟩ noFill_tuple_add seq_tuple_add PySem.F.slot_tuple_add PySem.F.entry_tuple_add (PySem.F.args_tuple_add_2 _ _)
   (tuple_addW2 t b vs.toArray ws.toArray n n2 dd dd2 sl sl2 (by simpa using hv) (by simpa using hw) (by rw [List.size_toArray,List.size_toArray];exact hsz)) ⟨ho,ho2,?_⟩
  rw [e]
  exact h2 hw
noncomputable def sIx (n d:Nat):Option Int→Nat
 | none=>d
 | some v=>if v<0 then (v+(n:Int)).toNat else min v.toNat n
theorem sIx_none (n d:Nat):sIx n d none=d:=rfl
theorem sIx_nat (n d k:Nat):sIx n d (some (k:Int))=min k n:=by
 show (if (k:Int)<0 then ((k:Int)+(n:Int)).toNat else min (k:Int).toNat n)=min k n
 rw [if_neg (by lia),Int.toNat_natCast]
theorem sIx_le (n d:Nat) (hd:d≤n) (o:Option Int):sIx n d o≤n:=by
 cases o with
 | none=>exact hd
 | some v =>
  show (if v<0 then (v+(n:Int)).toNat else min v.toNat n)≤n
  by_cases hv:v<0
  ·rw [if_pos hv];lia
  ·rw [if_neg hv];exact Nat.min_le_right _ _
theorem clip_eq (v:Int) (n d:Nat):(if v<0 then max (v+(n:Int)) 0 else min v (n:Int))=((sIx n d (some v):Nat):Int):=by
 show (if v<0 then max (v+(n:Int)) 0 else min v (n:Int))=(((if v<0 then (v+(n:Int)).toNat else min v.toNat n):Nat):Int)
 by_cases hv:v<0
 ·simp only [if_pos hv];lia
 ·simp only [if_neg hv];lia
theorem adjust_gen (lo hi:Option Int) (n:Nat):Builtin.Slice.sliceAdjust lo hi 1 (n:Int)=(((sIx n 0 lo:Nat):Int),((sIx n n hi:Nat):Int)):=by
 have h1:¬ ((1:Int)<0):=by lia
 unfold Builtin.Slice.sliceAdjust
 simp only [h1,if_false]
 refine Prod.ext ?_ ?_
 ·cases lo with
  | none=>rfl
  | some v=>exact clip_eq v n 0
 ·cases hi with
  | none=>rfl
  | some v=>exact clip_eq v n n
theorem places_gen (i j:Nat):Builtin.Slice.slicePlaces (i:Int) (j:Int) 1=j - i:=by
 unfold Builtin.Slice.slicePlaces
 have h1:(1:Int) > 0:=by lia
 simp only [h1,if_true,Int.ediv_one]
 split <;> lia
theorem slicePart_ {v:Value} {o:Option Int} {Q:Option Int→Shared→Prop} (p:IsPart v o) (h:Q o s):wpAny (model prog w) A (Builtin.Slice.slicePartIndex v) Q E s:=by
 cases p with
 | none=>exact slicePart_none h
 | int i t=>exact slicePart_int h
theorem sliceApplied_gen {sl:Addr} {vl vu:Value} {lo hi:Option Int} {n:Nat} {Q:Int×Int×Nat→Shared→Prop} (hs:s.heap.IsSliceOf sl vl vu .none) (pl:IsPart vl lo) (pu:IsPart vu hi)
  (h:Q (((sIx n 0 lo:Nat):Int),1,sIx n n hi - sIx n 0 lo) s):wpAny (model prog w) A (Builtin.Slice.sliceApplied (.ref sl) (pure (n:Int))) Q E s:=by
 obtain ⟨os,hos,hcs,hds⟩:=id hs
 unfold Builtin.Slice.sliceApplied Builtin.Slice.sliceFields
 refine wpAny_bind (wpAny_bind (wpAny_field hos hds (x:=vl) rfl (wpAny_bind (wpAny_field hos hds (x:=vu) rfl (wpAny_bind (wpAny_field hos hds (x:=.none) rfl (wpAny_pure ?_)))))))
 refine wpAny_bind (slicePart_none ?_)
 show wpAny _ _ (if ((1:Int) == 0)=true then _ else _) _ _ s
 rw [if_neg (by decide)]
 refine wpAny_bind (slicePart_ pl (wpAny_bind (slicePart_ pu (wpAny_bind (wpAny_pure ?_)))))
 show wpAny _ _ (match Builtin.Slice.sliceAdjust lo hi 1 (n:Int) with|(lo,hi)=>pure (lo,(1:Int),Builtin.Slice.slicePlaces lo hi 1)) _ _ s
 rw [adjust_gen lo hi n]
 show wpAny _ _ (pure (((sIx n 0 lo:Nat):Int),(1:Int),Builtin.Slice.slicePlaces ((sIx n 0 lo:Nat):Int) ((sIx n n hi:Nat):Int) 1)) _ _ s
 rw [places_gen]
 exact wpAny_pure h
theorem pick_gen (xs:Array Value) (i k:Nat):((List.range k).filterMap fun (m:Nat)=>xs[((i:Int)+(m:Int)*1).toNat]?).toArray=((xs.toList.drop i).take k).toArray:=by
 have e:(fun (m:Nat)=>xs[((i:Int)+(m:Int)*1).toNat]?)=fun m=>xs[i+m]?:=by
  funext m
  have:((i:Int)+(m:Int)*1).toNat=i+m:=by lia
  rw [this]
 rw [e]
 have:=pick_run xs i k
 rw [List.filterMap_map] at this
 have e2:((fun x=>xs[x]?) ∘ fun x=>i+x)=fun m=>xs[i+m]?:=rfl
 rw [e2] at this
 rw [this]
theorem getItem_tuple_cut {t sl:Addr} {items:Array Value} {vl vu:Value} {lo hi:Option Int} {Q:Value→Shared→Prop} (ht:IsTup s.heap t items) (hs:s.heap.IsSliceOf sl vl vu .none) (pl:IsPart vl lo) (pu:IsPart vu hi)
  (hw:¬ (sIx items.size 0 lo=0∧sIx items.size items.size hi=items.size))
  (h:Q (.ref s.heap.objs.size) { s with heap:=s.heap.push { cls:=.type "tuple",data:=.seq ((items.toList.drop (sIx items.size 0 lo)).take (sIx items.size items.size hi - sIx items.size 0 lo)).toArray } })
  (hsz:items.size≤sizeLine):wpAny (model prog w) A (getItem (.ref t) (.ref sl)) Q E s:=by
 have htake:sizeOk (.seq ((items.toList.drop (sIx items.size 0 lo)).take (sIx items.size items.size hi - sIx items.size 0 lo)).toArray):=by
  show ((items.toList.drop (sIx items.size 0 lo)).take (sIx items.size items.size hi - sIx items.size 0 lo)).toArray.size≤sizeLine
  rw [List.size_toArray,List.length_take,List.length_drop,Array.length_toList]
  exact Nat.le_trans (Nat.min_le_right _ _) (Nat.le_trans (Nat.sub_le _ _) hsz)
 have hj:sIx items.size items.size hi≤items.size:=sIx_le _ _ (Nat.le_refl _) hi
 obtain ⟨os,hos,hcs,hds⟩:=id hs
 have hTs:s.TypeIs (.ref sl) "slice":=⟨os,hos,hcs⟩
 unfold getItem
 try with_reducible refine wpAny_holding ?_
 first|refine wpAny_bind (wpAny_pure ?_)|skip
 refine wpAny_bind (wpAny_sequenceKey ht.typeIs (by decide) ?_)
 refine wpAny_bind (wpAny_callSpecial?_slot (name:=Str.ofString "__getitem__") ht.typeIs PyProof.Rows.slot_tuple_getitem
  (wpAny_call_entry PyProof.Rows.slot_tuple_getitem ht.typeIs entry_tuple_getitem ?_ (args_tuple_getitem _ _)))
 show wpAny _ _ (Builtin.Tuple.tupleItemsOf (.ref t) >>= _) _ _ s
 refine wpAny_bind (tupleItemsOf_ ht ?_)
 refine wpAny_bind (wpAny_typeOf hTs ?_)
 rw [if_pos (by decide)]
 refine wpAny_bind (sliceApplied_gen hs pl pu ?_)
 have hno:¬ ((((sIx items.size 0 lo:Nat):Int) == 0 && (1:Int) == 1 && (sIx items.size items.size hi - sIx items.size 0 lo) == items.size)=true):=by
  intro q
  rw [Bool.and_eq_true,Bool.and_eq_true] at q
  have q1:((sIx items.size 0 lo:Nat):Int)=0:=eq_of_beq q.1.1
  have q2:sIx items.size items.size hi - sIx items.size 0 lo=items.size:=eq_of_beq q.2
  exact hw ⟨by lia,by lia⟩
 show wpAny _ _ (if (((sIx items.size 0 lo:Nat):Int) == 0 && (1:Int) == 1 && (sIx items.size items.size hi - sIx items.size 0 lo) == items.size)=true then _ else _) _ _ s
 rw [if_neg hno,pick_gen]
 first
  | exact wpAny_bind (m:=Builtin.Tuple.tupleExact _) (wpAny_newObj_type (wpAny_pure ⟨_,rfl,wpAny_pure h⟩) htake)
  | exact wpAny_bind (m:=Builtin.Tuple.tupleExact _) (wpAny_newObj_type (wpAny_bind (wpAny_pure (wpAny_pure ⟨_,rfl,wpAny_pure h⟩))) htake)
  | exact wpAny_bind (wpAny_bind (m:=Builtin.Tuple.tupleExact _) (wpAny_newObj_type (wpAny_pure (wpAny_pure ⟨_,rfl,wpAny_pure h⟩)) htake))
  | exact wpAny_bind (wpAny_bind (m:=Builtin.Tuple.tupleExact _) (wpAny_newObj_type (wpAny_pure ⟨_,rfl,wpAny_pure h⟩) htake))
end
end HT
namespace L2
open PySem PySem.Spec PyProof.Rows
noncomputable abbrev TO:=St→Hp→(Option Int→Hp→Prop)→Prop
noncomputable def PO (X:Cx) (e:Option Expr) (t:TO):Prop :=
 ∀ (pins:List (Addr×Obj)) (s:Shared) (σ:St) (H:Hp) (Q:Option Int→Hp→Prop),Inv X pins σ H s→t σ H Q →
  wpAny (model X.prog X.w) X.A (evalPart e X.env) (fun u s'=>∃ o H',Inv X pins σ H' s'∧IsPart u o∧Q o H') X.xe s
noncomputable def tNoPart:TO:=fun _ H Q=>Q none H
noncomputable def tPart (t:TE):TO:=fun σ H Q=>t σ H fun x H1=>∃ i,x=.int i∧Q (some i) H1
theorem intsAre_of {ns:List Int}:∀ {us:List Value},Vals (ns.map V.int) us→IntsAre us ns:=by
 induction ns with
 | nil=>intro us r;rw [List.map_nil] at r;cases r;exact .nil
 | cons n ns ih =>
  intro us r
  rw [List.map_cons] at r
  cases r with
  | cons r1 r2 =>
   obtain ⟨t,e⟩:=r1
   subst e
   exact .cons n t (ih r2)
section
variable {X:Cx} {e:Expr} {te:TE} {lo hi:Option Expr} {tl th:TO} {pos p2:Pos}
theorem po_none:PO X none tNoPart:=by
 intro pins s σ H Q I h
 rw [evalPart_none]
 exact wpAny_pure ⟨none,H,I,.none,h⟩
theorem po_some (h:PE X e te):PO X (some e) (tPart te):=by
 intro pins s σ H Q I hw
 rw [evalPart_some]
 refine thn (h pins s σ H _ I hw) fun u s1 ⟨x,H1,I1,r1,q1⟩=>?_
 obtain ⟨i,rfl,q⟩:=q1
 obtain ⟨t,rfl⟩:=r1
 exact⟨some i,H1,I1,.int i t,q⟩
noncomputable def SlR (X:Cx) (r:V→Option Int→Option Int→Hp→VK→Prop):Prop :=
 ∀ (pins:List (Addr×Obj)) (s:Shared) (σ:St) (H:Hp) (x:V) (v vl vu:Value) (lo hi:Option Int) (sl:Addr) (Q:VK),Inv X pins σ H s→RelV x v→s.heap.IsSliceOf sl vl vu .none→IsPart vl lo→IsPart vu hi→r x lo hi H Q →
  ∃ T id,typeLookup (.type T) "__getitem__"=pure (some (.builtin id))∧s.TypeIs v T∧wpAny (model X.prog X.w) X.A (getItem v (.ref sl)) (EP X pins σ Q) X.xe s
noncomputable def tSl (r:V→Option Int→Option Int→Hp→VK→Prop) (te:TE) (tl th:TO):TE:=fun σ H Q=>te σ H fun x H1=>tl σ H1 fun l H2=>th σ H2 fun u H3=>r x l u H3 Q
theorem pe_slice {r:V→Option Int→Option Int→Hp→VK→Prop} (hr:SlR X r) (he:PE X e te) (hl:PO X lo tl) (hu:PO X hi th):PE X (.Subscript e (.Slice lo hi none p2) pos) (tSl r te tl th):=by
 intro pins s σ H Q I h
 refine Subscript_ (thn (he pins s σ H _ I h) fun v s1 ⟨x,H1,I1,r1,q1⟩=>?_)
 refine wpAny_Slice (thn (hl pins s1 σ H1 _ I1 q1) fun vl s2 ⟨l,H2,I2,pl,q2⟩=>thn (hu pins s2 σ H2 _ I2 q2) fun vu s3 ⟨u,H3,I3,pu,q3⟩=>?_)
 rw [evalPart_none]
 refine wpAny_pure ?_
 have I4:Inv X pins σ H3 { s3 with heap:=s3.heap.push { cls:=.type "slice",data:=.fields #[vl,vu,.none] } }:=I3.kept (t':=s3.toks) fun b ob q=>Heap.get?_push_of_some _ q
 obtain ⟨T,id,hT,ht,hg⟩:=hr pins { s3 with heap:=s3.heap.push { cls:=.type "slice",data:=.fields #[vl,vu,.none] } } σ H3 x v vl vu l u s3.heap.objs.size Q I4 r1 (Heap.IsSliceOf.new ..) pl pu q3
 show wpAny (model X.prog X.w) X.A (subscriptTail e (.Slice lo hi none p2) v (.ref s3.heap.objs.size)) (EP X pins σ Q) X.xe { s3 with heap:=s3.heap.push { cls:=.type "slice",data:=.fields #[vl,vu,.none] } }
 exact tail_any (ops:=[.ref s3.heap.objs.size,v]) ht hT hg (by with_unfolding_all rfl)
noncomputable def cutV (xs:List V) (lo hi:Option Int):List V:=(xs.drop (HT.sIx xs.length 0 lo)).take (HT.sIx xs.length xs.length hi - HT.sIx xs.length 0 lo)
theorem cutV_length (xs:List V) (lo hi:Option Int):(cutV xs lo hi).length≤xs.length:=by
 unfold cutV
 rw [List.length_take,List.length_drop]
 lia
noncomputable def rSlT (K:PySem.W.Frag):V→Option Int→Option Int→Hp→VK→Prop:=fun x lo hi H Q=>∃ a xs,x=.ref a∧SqT K H a xs ∧
 ¬ (HT.sIx xs.length 0 lo=0∧HT.sIx xs.length xs.length hi=xs.length)∧∀ p,H p=none→Q (.ref p) (upd H p (.tup (cutV xs lo hi)))
theorem sl_tup:SlR X (rSlT X.K):=by
 intro pins s σ H x v vl vu lo hi sl Q I rx hs pl pu h
 obtain ⟨a,xs,rfl,hx,hw,q⟩:=h
 cases rx
 obtain ⟨its,r,ht,hz⟩:=I.tuple hx
 have hlen:its.toArray.size=xs.length:=by rw [List.size_toArray];exact r.length.symm
 refine⟨"tuple",_,PyProof.Rows.slot_tuple_getitem.lookup,ht.typeIs,?_⟩
 refine HT.getItem_tuple_cut ht hs pl pu (by rw [hlen];exact hw) ?_ (by rw [hlen];exact hz)
 rw [hlen]
 refine⟨.ref s.heap.objs.size,_,I.laid (t':=s.toks) (o:=.tup (cutV xs lo hi)) (fun b ob q=>Heap.get?_push_of_some _ q) (Nat.le_refl _) ?_,rfl,q _ (I.hok.fresh (Nat.le_refl _))⟩
 exact⟨Nat.le_trans (cutV_length xs lo hi) hz,_,(r.drop (HT.sIx xs.length 0 lo)).take (HT.sIx xs.length xs.length hi - HT.sIx xs.length 0 lo),IsTup.new _ _⟩
noncomputable def rCatT (K:PySem.W.Frag):R2:=fun x y H Q=>∃ a b xs ys,x=.ref a∧y=.ref b∧SqT K H a xs∧SqT K H b ys∧xs≠[]∧xs.length+ys.length≤sizeLine ∧
 (ys=[]→Q (.ref a) H)∧(ys≠[]→∀ p,H p=none→Q (.ref p) (upd H p (.tup (xs++ys))))
theorem Vals.nil_iff {xs:List V} {us:List Value} (r:Vals xs us):us=[]↔xs=[]:=by
 cases r with
 | nil=>simp
 | cons _ _=>simp
theorem op_catT:OpR X (binaryOp .Add) (rCatT X.K):=by
 intro pins s σ H x y v u Q I rx ry h
 obtain ⟨a,b,xs,ys,rfl,rfl,ha,hb,hx,hz,q1,q2⟩:=h
 cases rx
 cases ry
 obtain ⟨its,r1,p1,_⟩:=I.tuple ha
 obtain ⟨its2,r2,p2,_⟩:=I.tuple hb
 refine HT.cat_tup p1 p2 (fun z=>hx (r1.nil_iff.mp z)) (fun z=>⟨.ref a,H,I,rfl,q1 (r2.nil_iff.mp z)⟩) (fun z=>?_) (by rw [← r1.length,← r2.length];exact hz)
 refine⟨.ref s.heap.objs.size,_,I.laid (t':=s.toks) (o:=.tup (xs++ys)) (fun b ob q=>Heap.get?_push_of_some _ q) (Nat.le_refl _) ?_,rfl,q2 (fun w=>z (r2.nil_iff.mpr w)) _ (I.hok.fresh (Nat.le_refl _))⟩
 exact⟨by rw [List.length_append];exact hz,_,r1.append r2,IsTup.new _ _⟩
end
end L2
namespace L2
open PySem PySem.Spec PyProof.Rows
noncomputable def ixN (n:Nat) (i:Int):Option Nat:=if 0≤i then (if i<n then some i.toNat else none) else if -(n:Int)≤i then some (i+n).toNat else none
noncomputable def atI {α:Type} (xs:List α) (i:Int):Option α:=(ixN xs.length i).bind fun j=>xs[j]?
theorem ixN_seq {n:Nat} {i:Int} {j:Nat} (h:ixN n i=some j):seqIndex? i n=some j∧j<n∧-(n:Int)≤i∧i<n:=by
 unfold ixN at h
 by_cases h0:0≤i
 ·rw [if_pos h0] at h
  by_cases h1:i<n
  ·rw [if_pos h1] at h
   have e:i.toNat=j:=Option.some.inj h
   exact⟨by rw [seqIndex_of h0 h1,e],by lia,by lia,h1⟩
  ·rw [if_neg h1] at h;cases h
 ·rw [if_neg h0] at h
  by_cases h1:-(n:Int)≤i
  ·rw [if_pos h1] at h
   have e:(i+n).toNat=j:=Option.some.inj h
   exact⟨by rw [seqIndex_neg (by lia) h1,e],by lia,h1,by lia⟩
  ·rw [if_neg h1] at h;cases h
theorem atI_get {α:Type} {xs:List α} {i:Int} {v:α} (h:atI xs i=some v):∃ j,seqIndex? i xs.length=some j∧xs[j]?=some v∧j<xs.length∧-(xs.length:Int)≤i∧i<xs.length:=by
 unfold atI at h
 cases e:ixN xs.length i with
 | none=>rw [e] at h;cases h
 | some j =>
  rw [e] at h
  obtain ⟨h1,h2,h3,h4⟩:=ixN_seq e
  exact⟨j,h1,h,h2,h3,h4⟩
theorem atI_nat {α:Type} {xs:List α} {j:Nat} {v:α} (h:xs[j]?=some v):atI xs (j:Int)=some v:=by
 have hj:j<xs.length:=(List.getElem?_eq_some_iff.mp h).1
 have e:ixN xs.length (j:Int)=some j:=by
  unfold ixN
  rw [if_pos (by lia),if_pos (by lia)];simp
 unfold atI;rw [e];exact h
noncomputable def PlainIx (b:Expr):Prop:=∀ o i,subscripted b false o i=operate [o,i] (getItem o i)
noncomputable def IxR (X:Cx) (r:R2):Prop :=
 ∀ (value slice:Expr) (pins:List (Addr×Obj)) (s:Shared) (σ:St) (H:Hp) (x y:V) (v u:Value) (Q:VK),Inv X pins σ H s→RelV x v→RelV y u→r x y H Q →
  subscripted slice false v u=operate [v,u] (getItem v u)→wpAny (model X.prog X.w) X.A (subscriptTail value slice v u) (EP X pins σ Q) X.xe s
noncomputable def MtR (X:Cx) (id:String) (r:V→List V→Hp→VK→Prop):Prop :=
 ∀ (pins:List (Addr×Obj)) (s:Shared) (σ:St) (H:Hp) (x:V) (xs:List V) (v:Value) (us:List Value) (Q:VK),Inv X pins σ H s→RelV x v→Vals xs us→r x xs H Q →
  wpAny (model X.prog X.w) X.A (call (.builtin id) (v::us)) (EP X pins σ Q) X.xe s
section
variable {X:Cx} {a b:Expr} {ta tb:TE} {pos:Pos}
theorem IxR.or {r r':R2} (h:IxR X r) (h':IxR X r'):IxR X (fun x y H Q=>r x y H Q∨r' x y H Q):=by
 intro value slice pins s σ H x y v u Q I rx ry q hs
 rcases q with q|q
 ·exact h value slice pins s σ H x y v u Q I rx ry q hs
 ·exact h' value slice pins s σ H x y v u Q I rx ry q hs
theorem pe_ix {r:R2} (hr:IxR X r) (ha:PE X a ta) (hb:PE X b tb) (hs:PlainIx b):PE X (.Subscript a b pos) (tOp r ta tb):=by
 intro pins s σ H Q I h
 exact Subscript_ (binT ha hb I h fun v u s2 x y H2 I2 rx ry q=>hr a b pins s2 σ H2 x y v u Q I2 rx ry q (hs _ _))
noncomputable def rIxL (K:PySem.W.Frag):R2:=fun x y H Q=>∃ p xs i v,x=.ref p∧y=.int i∧SqL K H p xs∧atI xs i=some v∧Q v H
noncomputable def rIxT (K:PySem.W.Frag):R2:=fun x y H Q=>∃ p xs i v,x=.ref p∧y=.int i∧SqT K H p xs∧atI xs i=some v∧Q v H
noncomputable def rIxS:R2:=fun x y H Q=>∃ z i c,x=.str z∧y=.int i∧z.length≤sizeLine∧atI z.cps.toList i=some c∧Q (.str ⟨#[c]⟩) H
theorem ix_list:IxR X (rIxL X.K):=by
 intro value slice pins s σ H x y v u Q I rx ry h hs
 obtain ⟨p,xs,i,z,rfl,rfl,hq,he,q⟩:=h
 cases rx
 obtain ⟨t,rfl⟩:=ry
 obtain ⟨its,r,pl,hz⟩:=I.list hq
 obtain ⟨j,h1,h2,h3,h4,h5⟩:=atI_get he
 obtain ⟨w,ew,rw'⟩:=r.get h2
 have hl:=r.length
 have hn:=line63
 have fin:EP X pins σ Q w s:=⟨z,H,I,rw',q⟩
 by_cases h0:0≤i
 ·have hj:i.toNat=j:=by
   rw [seqIndex_of h0 h5] at h1
   exact Option.some.inj h1
  exact item_listR pl.isList h0 (by lia) (by rw [hj];simpa using ew) fin hs
 ·have hj:(i+(its.toArray.size:Int)).toNat=j:=by
   rw [seqIndex_neg (by lia) h4] at h1
   rw [List.size_toArray,← hl]
   exact Option.some.inj h1
  exact subscriptTail_builtinR (x:=w) pl.isList.typeIs slot_list_getitem.lookup
   (wpAny_getItem_list_neg (Q:=fun r s'=>r=w∧EP X pins σ Q r s') pl.isList (by lia) (by rw [List.size_toArray] <;> lia) (by lia) (by rw [hj];simpa using ew) ⟨rfl,fin⟩) hs
theorem ix_tup:IxR X (rIxT X.K):=by
 intro value slice pins s σ H x y v u Q I rx ry h hs
 obtain ⟨p,xs,i,z,rfl,rfl,hq,he,q⟩:=h
 cases rx
 obtain ⟨t,rfl⟩:=ry
 obtain ⟨its,r,pl,hz⟩:=I.tuple hq
 obtain ⟨j,h1,h2,h3,h4,h5⟩:=atI_get he
 obtain ⟨w,ew,rw'⟩:=r.get h2
 have hl:=r.length
 have hn:=line63
 have fin:EP X pins σ Q w s:=⟨z,H,I,rw',q⟩
 exact subscriptTail_builtinR (x:=w) pl.typeIs slot_tuple_getitem.lookup
  (getItem_tuple (j:=j) (Q:=fun r s'=>r=w∧EP X pins σ Q r s') pl (by lia) (by lia) (by rw [List.size_toArray,← hl];exact h1) (by simpa using ew) ⟨rfl,fin⟩) hs
theorem ix_str:IxR X rIxS:=by
 intro value slice pins s σ H x y v u Q I rx ry h hs
 obtain ⟨z,i,c,rfl,rfl,hz,he,q⟩:=h
 obtain ⟨t,rfl⟩:=rx
 obtain ⟨t',rfl⟩:=ry
 obtain ⟨j,h1,h2,h3,h4,h5⟩:=atI_get he
 have hl:z.cps.toList.length=z.length:=by simp [Str.length]
 rw [hl] at h1 h4 h5
 have hn:=line63
 exact tail_any (typeIs_str s z t) slot_str_getitem.lookup (getItem_str (c:=c) (by
  have e1:decide (i < -(2 ^ 63:Int))=false:=decide_eq_false (by lia)
  have e2:decide (i ≥ 2 ^ 63)=false:=decide_eq_false (by lia)
  rw [e1,e2,Bool.or_false]) (by rw [h1];simpa using h2) ⟨.str ⟨#[c]⟩,H,I.tok _,⟨_,rfl⟩,q⟩) hs
noncomputable def rIx (K:PySem.W.Frag):R2:=fun x y H Q=>rIxL K x y H Q∨rIxT K x y H Q∨rIxS x y H Q
theorem ix_seq:IxR X (rIx X.K):=ix_list.or (ix_tup.or ix_str)
theorem mapSeq_set (its:List Value) (n j:Nat) (u:Value):Obj.mapSeq (·.setIfInBounds j u) { cls:=.type "list",data:=.seq its.toArray n }={ cls:=.type "list",data:=.seq (its.set j u).toArray n }:=by
 simp [Obj.mapSeq]
theorem Inv.lst {pins:List (Addr×Obj)} {σ:St} {H:Hp} {s:Shared} {p:Addr} {xs:List V} (I:Inv X pins σ H s) (h:H p=some (.lst xs)) :
  ∃ (its:List Value) (n:Nat),Vals xs its∧s.heap.get? p=some { cls:=.type "list",data:=.seq its.toArray n }∧xs.length≤sizeLine:=by
 obtain ⟨z,its,n,r,e⟩:=I.hok p _ h
 exact⟨its,n,r,e,z⟩
theorem Inv.lstUpd {pins:List (Addr×Obj)} {σ:St} {H:Hp} {s:Shared} {p:Addr} {xs ys:List V} {its its':List Value} {n n':Nat} {f:Obj→Obj} (I:Inv X pins σ H s) (h:H p=some (.lst xs))
  (ho:s.heap.get? p=some { cls:=.type "list",data:=.seq its.toArray n }) (hf:f { cls:=.type "list",data:=.seq its.toArray n }={ cls:=.type "list",data:=.seq its'.toArray n' }) (r:Vals ys its') (hz:ys.length≤sizeLine) (t:Nat) :
  Inv X pins σ (upd H p (.lst ys)) { s with heap:=s.heap.update p f,toks:=t }:=by
 have e:(s.heap.update p f).get? p=some { cls:=.type "list",data:=.seq its'.toArray n' }:=by
  rw [Heap.get?_update_self f ho (by rw [hf] <;> rfl),hf]
 refine I.write (x:=p) (e:=p) (by rw [h];trivial) (.inl rfl) (fun b u hb q=>(Heap.get?_update_other _ _ (Ne.symm hb)).trans q) ⟨_,e⟩ ?_
 exact⟨hz,its',n',r,e⟩
noncomputable def rSetL:V→V→V→Hp→(Hp→Prop)→Prop:=fun o i v H Q=>∃ p xs k j,o=.ref p∧i=.int k∧H p=some (.lst xs)∧ixN xs.length k=some j∧Q (upd H p (.lst (xs.set j v)))
theorem set_list:PSet X rSetL:=by
 intro pins s σ H o i v ov iv u Q I ro ri rv h
 obtain ⟨p,xs,k,j,rfl,rfl,hp,hj,q⟩:=h
 cases ro
 obtain ⟨t,rfl⟩:=ri
 obtain ⟨its,n,r,ho,hz⟩:=I.lst hp
 obtain ⟨h1,h2,h3,h4⟩:=ixN_seq hj
 have hl:=r.length
 have hn:=line63
 have I':Inv X pins σ (upd H p (.lst (xs.set j v))) { s with heap:=s.heap.update p (Obj.mapSeq (·.setIfInBounds j u)) } :=
  I.lstUpd hp ho (mapSeq_set its n j u) (r.set rv j) (by rw [List.length_set];exact hz) s.toks
 by_cases h0:0≤k
 ·have hk:k.toNat=j:=by
   rw [seqIndex_of h0 h4] at h1
   exact Option.some.inj h1
  exact PySem.W.ki_setAt ho h0 (by lia) (by rw [List.size_toArray,← hl];exact h4) (by rw [hk];exact⟨_,I',q⟩)
 ·have hk:(k+(its.toArray.size:Int)).toNat=j:=by
   rw [seqIndex_neg (by lia) h3] at h1
   rw [List.size_toArray,← hl]
   exact Option.some.inj h1
  exact PySem.W.ki_setBack ho (by lia) (by rw [List.size_toArray,← hl];exact h3) (by lia) (by rw [hk];exact⟨_,I',q⟩)
theorem slice_bounds (lo hi:Option Int) (n:Nat):(sliceBounds lo hi none n).1=((HT.sIx n 0 lo:Nat):Int)∧(sliceBounds lo hi none n).2.1=((HT.sIx n n hi:Nat):Int)∧(sliceBounds lo hi none n).2.2=1:=by
 refine⟨?_,?_,rfl⟩
 ·cases lo with
  | none=>simp [sliceBounds,HT.sIx]
  | some i =>
   simp only [sliceBounds,HT.sIx,Option.getD_none,show (1:Int) > 0 by decide,if_true]
   by_cases h:i<0
   ·simp only [h,if_true] <;> lia
   ·simp only [h,if_false] <;> lia
 ·cases hi with
  | none=>simp [sliceBounds,HT.sIx]
  | some i =>
   simp only [sliceBounds,HT.sIx,Option.getD_none,show (1:Int) > 0 by decide,if_true]
   by_cases h:i<0
   ·simp only [h,if_true] <;> lia
   ·simp only [h,if_false] <;> lia
theorem slicePick_cut (its:List Value) (lo hi:Option Int):slicePick its.toArray lo hi none=((its.drop (HT.sIx its.length 0 lo)).take (HT.sIx its.length its.length hi - HT.sIx its.length 0 lo)).toArray:=by
 obtain ⟨h1,h2,h3⟩:=slice_bounds lo hi its.toArray.size
 unfold slicePick
 rw [h1,h2,h3]
 simp only [sliceRange_one,pick_run,List.size_toArray] <;> rfl
noncomputable def rSlL (K:PySem.W.Frag):V→Option Int→Option Int→Hp→VK→Prop:=fun x lo hi H Q=>∃ a xs,x=.ref a∧SqL K H a xs∧∀ p,H p=none→Q (.ref p) (upd H p (.lst (cutV xs lo hi)))
theorem sl_list:SlR X (rSlL X.K):=by
 intro pins s σ H x v vl vu lo hi sl Q I rx hs pl pu h
 obtain ⟨a,xs,rfl,hx,q⟩:=h
 cases rx
 obtain ⟨its,r,ht,hz⟩:=I.list hx
 have hlen:=r.length
 refine⟨"list",_,slot_list_getitem.lookup,ht.isList.typeIs,?_⟩
 refine wpAny_getItem_list_slice ht.isList hs pl pu .none (by simp) ?_ (by rw [List.size_toArray] <;> lia)
 rw [slicePick_cut,← hlen]
 refine⟨.ref s.heap.objs.size,_,I.laid (t':=s.toks) (o:=.lst (cutV xs lo hi)) (fun b ob q=>Heap.get?_push_of_some _ q) (Nat.le_refl _) ?_,rfl,q _ (I.hok.fresh (Nat.le_refl _))⟩
 exact⟨Nat.le_trans (cutV_length xs lo hi) hz,_,0,(r.drop (HT.sIx xs.length 0 lo)).take (HT.sIx xs.length xs.length hi - HT.sIx xs.length 0 lo),Heap.get?_push_size _ rfl⟩
noncomputable def flatV:V→Bool
 | .non=>true
 | .bl _=>true
 | .int _=>true
 | .str _=>true
 | _=>false
noncomputable def eqV:V→V→Bool
 | .non,.non=>true
 | .bl a,.bl b=>a == b
 | .bl a,.int b=>(if a then 1 else 0) == b
 | .int a,.bl b=>a == (if b then 1 else 0)
 | .int a,.int b=>a == b
 | .str a,.str b=>a == b
 | _,_=>false
theorem eqAt_V {A:Around} {s:Shared} {y x:V} {u v:Value} (ry:RelV y u) (rx:RelV x v) (fy:flatV y=true) (fx:flatV x=true):SeqAt.EqAt A s u v (eqV y x):=by
 cases y with
 | non =>
  cases ry
  cases x with
  | non=>cases rx;exact SeqAt.EqAt.same _
  | bl b=>cases rx;exact SeqAt.EqAt.none_bool b
  | int b=>obtain ⟨t,rfl⟩:=rx;exact SeqAt.EqAt.none_int b t
  | str b=>obtain ⟨t,rfl⟩:=rx;exact SeqAt.EqAt.none_str b t
  | _=>exact absurd (show false=true from fx) Bool.false_ne_true
 | bl a =>
  cases ry
  cases x with
  | non=>cases rx;exact SeqAt.EqAt.bool_none a
  | bl b=>cases rx;exact SeqAt.EqAt.bool_bool a b
  | int b=>obtain ⟨t,rfl⟩:=rx;exact SeqAt.EqAt.bool_int a b t
  | str b=>obtain ⟨t,rfl⟩:=rx;exact SeqAt.EqAt.bool_str a b t
  | _=>exact absurd (show false=true from fx) Bool.false_ne_true
 | int a =>
  obtain ⟨t',rfl⟩:=ry
  cases x with
  | non=>cases rx;exact SeqAt.EqAt.int_none a t'
  | bl b=>cases rx;exact SeqAt.EqAt.int_bool a t' b
  | int b=>obtain ⟨t,rfl⟩:=rx;exact SeqAt.EqAt.int_int a t' b t
  | str b=>obtain ⟨t,rfl⟩:=rx;exact SeqAt.EqAt.int_str a t' b t
  | _=>exact absurd (show false=true from fx) Bool.false_ne_true
 | str a =>
  obtain ⟨t',rfl⟩:=ry
  cases x with
  | non=>cases rx;exact SeqAt.EqAt.str_none a t'
  | bl b=>cases rx;exact SeqAt.EqAt.str_bool a t' b
  | int b=>obtain ⟨t,rfl⟩:=rx;exact SeqAt.EqAt.str_int a t' b t
  | str b=>obtain ⟨t,rfl⟩:=rx;exact SeqAt.EqAt.str_str a t' b t
  | _=>exact absurd (show false=true from fx) Bool.false_ne_true
 | _=>exact absurd (show false=true from fy) Bool.false_ne_true
noncomputable def eqU (x:V) (u:Value):Bool:=match u with
 | .none=>eqV .non x
 | .bool b=>eqV (.bl b) x
 | .int i _=>eqV (.int i) x
 | .str z _=>eqV (.str z) x
 | _=>false
theorem eqU_of {x y:V} {u:Value} (r:RelV y u) (f:flatV y=true):eqU x u=eqV y x:=by
 cases y with
 | non=>cases r;rfl
 | bl b=>cases r;rfl
 | int i=>obtain ⟨t,rfl⟩:=r;rfl
 | str z=>obtain ⟨t,rfl⟩:=r;rfl
 | _=>exact absurd (show false=true from f) Bool.false_ne_true
theorem any_eqU {x:V}:∀ {xs:List V} {us:List Value},Vals xs us→xs.all flatV=true→us.any (eqU x)=xs.any fun y=>eqV y x
 | _,_,.nil,_=>rfl
 | y::xs,u::us,.cons r t,f=>by
  rw [List.all_cons,Bool.and_eq_true] at f
  rw [List.any_cons,List.any_cons,eqU_of r f.1,any_eqU t f.2]
theorem mem_eqAt {A:Around} {s:Shared} {x:V} {v:Value} (rx:RelV x v) (fx:flatV x=true):∀ {xs:List V} {us:List Value},Vals xs us→xs.all flatV=true→∀ u∈us,SeqAt.EqAt A s u v (eqU x u)
 | _,_,.nil,_=>fun u hu=>by cases hu
 | y::xs,u::us,.cons r t,f=>fun u' hu=>by
  rw [List.all_cons,Bool.and_eq_true] at f
  rcases List.mem_cons.mp hu with rfl|hu
  ·rw [eqU_of r f.1];exact eqAt_V r rx f.1 fx
  ·exact mem_eqAt rx fx t f.2 u' hu
noncomputable def inV (x:V) (xs:List V):Bool:=xs.any fun y=>eqV y x
noncomputable def rIn (K:PySem.W.Frag) (neg:Bool):R2:=fun x y H Q=>∃ p xs,y=.ref p∧(SqL K H p xs∨SqT K H p xs)∧flatV x=true∧xs.all flatV=true∧Q (.bl (if neg then !inV x xs else inV x xs)) H
theorem op_in_seq:OpR X (compareOp .In) (rIn X.K false):=by
 intro pins s σ H x y v u Q I rx ry h
 obtain ⟨p,xs,rfl,hq,fx,fs,q⟩:=h
 cases ry
 rcases hq with hq|hq
 ·obtain ⟨its,r,pl,hz⟩:=I.list hq
  refine SeqAt.in_listAt (eqU x) pl.isList (fun w hw=>mem_eqAt rx fx r fs w (by simpa using hw)) ⟨.bl _,H,I,rfl,?_⟩
  rw [show its.toArray.any (eqU x)=its.any (eqU x) by simp,any_eqU r fs]
  exact q
 ·obtain ⟨its,r,pl,hz⟩:=I.tuple hq
  refine SeqAt.in_tupleAt (eqU x) pl (fun w hw=>mem_eqAt rx fx r fs w (by simpa using hw)) ⟨.bl _,H,I,rfl,?_⟩
  rw [show its.toArray.any (eqU x)=its.any (eqU x) by simp,any_eqU r fs]
  exact q
theorem call_len_seq:CallR X (.builtin "len") (fun xs H Q=>∃ p ys,xs=[.ref p]∧(SqL X.K H p ys∨SqT X.K H p ys)∧Q (.int ys.length) H):=by
 intro pins s σ H xs us Q I r h
 obtain ⟨p,ys,rfl,hq,q⟩:=h
 obtain ⟨u,rfl,rx⟩:=vals1 r
 cases rx
 have hn:=line63
 rcases hq with hq|hq
 ·obtain ⟨its,r',pl,hz⟩:=I.list hq
  have hlen:=r'.length
  exact Calls.call_len_list pl.isList (by simp only [List.size_toArray] <;> lia) ⟨.int ys.length,H,I.tok _,⟨s.toks+1,by rw [List.size_toArray,hlen]⟩,q⟩
 ·obtain ⟨its,r',pl,hz⟩:=I.tuple hq
  have hlen:=r'.length
  exact len_tuple pl (by simp only [List.size_toArray] <;> lia) ⟨.int ys.length,H,I.tok _,⟨s.toks+1,by rw [List.size_toArray,hlen]⟩,q⟩
theorem call_list_of:CallR X (.type "list") (fun xs H Q=>∃ p ys,xs=[.ref p]∧(SqL X.K H p ys∨SqT X.K H p ys)∧∀ l,H l=none→Q (.ref l) (upd H l (.lst ys))):=by
 intro pins s σ H xs us Q I r h
 obtain ⟨p,ys,rfl,hq,q⟩:=h
 obtain ⟨u,rfl,rx⟩:=vals1 r
 cases rx
 have fin:∀ (its:List Value),Vals ys its→ys.length≤sizeLine→∀ (h':Heap) (c':Nat),(∀ b o',s.heap.get? b=some o'→h'.get? b=some o') →
   h'.get? s.heap.objs.size=some { cls:=.type "list",dict:=none,data:=.seq its.toArray c',slots:=#[] }→EP X pins σ Q (.ref s.heap.objs.size) { s with heap:=h' }:=fun its r' hz h' c' kp e =>
  ⟨.ref s.heap.objs.size,_,I.laid (t':=s.toks) kp (Nat.le_refl _) (show ObjOk X.prog X.w _ h' _ (.lst ys) from ⟨hz,its,c',r',e⟩),rfl,q _ (I.hok.fresh (Nat.le_refl _))⟩
 rcases hq with hq|hq
 ·obtain ⟨its,r',pl,hz⟩:=I.list hq
  have hlen:=r'.length
  obtain ⟨o,ho,hc,n,hd⟩:=pl.isList
  exact call_list_seq p (.inl rfl) ho hc hd (fun h' c' kp e=>fin its r' hz h' c' kp e) (by simp only [List.size_toArray] <;> lia)
 ·obtain ⟨its,r',pl,hz⟩:=I.tuple hq
  have hlen:=r'.length
  obtain ⟨o,ho,hc,n,hd⟩:=pl
  exact call_list_seq p (.inr rfl) ho hc hd (fun h' c' kp e=>fin its r' hz h' c' kp e) (by simp only [List.size_toArray] <;> lia)
theorem call_tuple_of:CallR X (.type "tuple") (fun xs H Q=>∃ p ys,xs=[.ref p]∧((SqL X.K H p ys∧∀ l,H l=none→Q (.ref l) (upd H l (.tup ys)))∨(SqT X.K H p ys∧Q (.ref p) H))):=by
 intro pins s σ H xs us Q I r h
 obtain ⟨p,ys,rfl,h⟩:=h
 obtain ⟨u,rfl,rx⟩:=vals1 r
 cases rx
 rcases h with ⟨hq,q⟩|⟨hq,q⟩
 ·obtain ⟨its,r',pl,hz⟩:=I.list hq
  have hlen:=r'.length
  refine call_tuple_list pl.isList (fun h' kp=>?_) (by simp only [List.size_toArray] <;> lia)
  have I1:Inv X pins σ H { s with heap:=h' }:=I.kept (t':=s.toks) kp
  have I2:Inv X pins σ (upd H h'.objs.size (.tup ys)) { s with heap:=h'.push { cls:=.type "tuple",data:=.seq its.toArray } } :=
   I1.laid (t':=s.toks) (fun b o e=>Heap.get?_push_of_some _ e) (Nat.le_refl _) (show ObjOk X.prog X.w _ _ _ (.tup ys) from ⟨hz,its,r',IsTup.new _ _⟩)
  exact⟨.ref h'.objs.size,_,I2,rfl,q _ (I1.hok.fresh (Nat.le_refl _))⟩
 ·obtain ⟨its,r',pl,hz⟩:=I.tuple hq
  exact call_tuple_same pl ⟨.ref p,H,I,rfl,q⟩
noncomputable def tyV (K:PySem.W.Frag) (T:String) (x:V) (H:Hp):Prop:=match x with
 | .str _=>T = "str"
 | .int _=>T = "int"
 | .ref p=>(T = "list"∧∃ xs,SqL K H p xs)∨(T = "tuple"∧∃ o,K.lookup p=some o∧o.cls=.type "tuple"∧o.dict=none) ∨
   (T = "dict"∧((∃ kvs,H p=some (.dK kvs))∨∃ kvs,H p=some (.dT kvs)))∨(T = "set"∧∃ S n,H p=some (.set S n))
 | _=>False
theorem tyV_is {pins:List (Addr×Obj)} {σ:St} {H:Hp} {s:Shared} {T:String} {x:V} {v:Value} (I:Inv X pins σ H s) (r:RelV x v) (ty:tyV X.K T x H) :
  s.TypeIs v T∧∀ a,v=.ref a→∃ ob,s.heap.get? a=some ob∧ob.dict=none:=by
 cases x with
 | str z =>
  obtain ⟨t,rfl⟩:=r
  cases (show T = "str" from ty)
  exact⟨typeIs_str s z t,fun _ e=>nomatch e⟩
 | int i =>
  obtain ⟨t,rfl⟩:=r
  cases (show T = "int" from ty)
  exact⟨typeIs_int s i t,fun _ e=>nomatch e⟩
 | ref p =>
  cases r
  rcases ty with ⟨rfl,xs,hq⟩|⟨rfl,o,hk,hc,hd⟩|⟨rfl,hk⟩|⟨rfl,S,n,hk⟩
  ·obtain ⟨its,_,pl,_⟩:=I.list hq
   refine⟨pl.isList.typeIs,fun a e=>?_⟩
   cases e
   obtain ⟨o,n,e,c,hd,_⟩:=pl
   exact⟨o,e,hd⟩
  ·refine⟨⟨o,I.kIn p o hk,hc⟩,fun a e=>?_⟩
   cases e
   exact⟨o,I.kIn _ o hk,hd⟩
  ·have z:∃ o,s.heap.get? p=some o∧o.ExactDict:=by
    rcases hk with ⟨kvs,hk⟩|⟨kvs,hk⟩
    ·obtain ⟨_,_,_,_,o,_,_,e,ex,_⟩:=I.hok p _ hk
     exact⟨o,e,ex⟩
    ·obtain ⟨_,_,_,_,o,_,_,e,ex,_⟩:=I.hok p _ hk
     exact⟨o,e,ex⟩
   obtain ⟨o,e,ex⟩:=z
   refine⟨⟨o,e,ex.1⟩,fun a e2=>?_⟩
   cases e2
   exact⟨o,e,ex.2.1⟩
  ·obtain ⟨o,_,_,_,e,ex,_⟩:=I.hok p _ hk
   refine⟨⟨o,e,ex.1⟩,fun a e2=>?_⟩
   cases e2
   exact⟨o,e,ex.2.1⟩
 | _=>exact False.elim ty
noncomputable def tBM (K:PySem.W.Frag) (T:String) (r:V→List V→Hp→VK→Prop) (to:TE) (t:TA):TE:=fun σ H Q=>to σ H fun x H1=>tyV K T x H1∧t σ H1 fun xs H2=>r x xs H2 Q
variable {o e:Expr} {es:List Expr} {to:TE} {t:TA} {name:Str} {apos cpos:Pos} {T id:String} {r:V→List V→Hp→VK→Prop}
theorem pe_bm (pa:PlainAttrs T) (slot:Slot T name id) (hty:typeOf (.builtin id)=pure (.type "method_descriptor")) (hm:MtR X id r) (ho:PE X o to) (ha:PA X (e::es) t)
  (hbase:attributeBase o name X.env (eval o X.env)=eval o X.env:=by rfl)
  (hfew:((backTo cpos (starEach (e::es) X.env)).all (fun x=>!x.1) && (backToKw cpos (keywordEach [] X.env)).all (fun x=>x.1.isSome)
   && decide ((e::es).length+([]:List Keyword).length+(if ([]:List Keyword).isEmpty then 0 else 1)<30))=true:=by rfl)
  (hline:(apos.endLine == cpos.line)=true:=by rfl) (hs:starEach (e::es) X.env=(false,eval e X.env)::starEach es X.env:=by rfl) (hplain:(backTo cpos (starEach es X.env)).any (·.1)=false:=by rfl) :
  PE X (.Call (.Attribute o name apos) (e::es) [] cpos) (tBM X.K T r to t):=by
 intro pins s σ H Q I h
 refine wpAny_Call_method_late hbase hfew hline rfl (thn (ho pins s σ H _ I h) fun v s1 ⟨x,H1,I1,r1,ty,q1⟩=>?_)
 obtain ⟨h1,h2⟩:=tyV_is I1 r1 ty
 refine⟨T,id,pa,slot,hty,h1,h2,?_⟩
 have hA:=ha cpos pins s1 σ H1 _ I1 q1
 rw [hs] at hA ⊢
 refine Calls.callWith_builtin (by show (false || (backTo cpos (starEach es X.env)).any (·.1))=false;rw [hplain] <;> rfl) (Calls.evalArgs_plain ?_)
 exact thn hA fun us s2 ⟨vs,H2,I2,r2,q2⟩=>hm pins s2 σ H2 x vs v us Q I2 r1 r2 q2
/- xs.append(e),list.index on a module's tuple .. are MtR facts of 06m -/
end
end L2
namespace L2
open PySem PySem.Spec PyProof.Rows
noncomputable def MtM (X:Cx) (id:String) (r:V→List V→Hp→VK→Prop):Prop :=
 ∀ (pins:List (Addr×Obj)) (s:Shared) (σ:St) (H:Hp) (x:V) (xs:List V) (v:Value) (us:List Value) (Q:VK),Inv X pins σ H s→RelV x v→Vals xs us→r x xs H Q →
  wpAny (model X.prog X.w) X.A (call (.builtin id) (v::us)) (EP X pins σ Q) X.xe s
theorem Vals.one:∀ {x:V} {us:List Value},Vals [x] us→∃ u,us=[u]∧RelV x u
 | _,_,.cons r .nil=>⟨_,rfl,r⟩
theorem Vals.eraseIdx:∀ {xs:List V} {us:List Value} (i:Nat),Vals xs us→Vals (xs.eraseIdx i) (us.eraseIdx i)
 | _,_,_,.nil=>.nil
 | _,_,0,.cons _ t=>t
 | _,_,i+1,.cons r t=>.cons r (Vals.eraseIdx i t)
theorem len_erase {α:Type}:∀ (l:List α) (i:Nat),(l.eraseIdx i).length≤l.length
 | [],_=>Nat.le_refl _
 | _::_,0=>Nat.le_succ _
 | _::r,i+1=>Nat.succ_le_succ (len_erase r i)
section
variable {X:Cx} {pins:List (Addr×Obj)} {σ:St} {H:Hp} {s:Shared} {l b:Addr} {xs ys zs:List V}
theorem Inv.lset {its its':List Value} {n:Nat} {f:Array Value→Array Value} {t':Nat} (I:Inv X pins σ H s) (hH:H l=some (.lst xs))
  (e:s.heap.get? l=some { cls:=.type "list",data:=.seq its.toArray n }) (hf:f its.toArray=its'.toArray) (hv:Vals ys its') (hz:ys.length≤sizeLine) :
  Inv X pins σ (upd H l (.lst ys)) { s with heap:=s.heap.update l (Obj.mapSeq f),toks:=t' }:=by
 have q:=PySem.IsL.update e f
 rw [hf] at q
 refine I.write (x:=l) (e:=l) (by rw [hH];exact trivial) (.inl rfl) (fun b' u hb hu=>(Heap.get?_update_other s.heap (Obj.mapSeq f) (Ne.symm hb)).trans hu) ⟨_,q⟩ ?_
 exact⟨hz,its',_,hv,q⟩
theorem Inv.lnew {its:List Value} {t':Nat} (I:Inv X pins σ H s) (hv:Vals ys its) (hz:ys.length≤sizeLine) :
  Inv X pins σ (upd H s.heap.objs.size (.lst ys)) { s with heap:=s.heap.push { cls:=.type "list",data:=.seq its.toArray },toks:=t' } :=
 I.laid (fun _ _ q=>Heap.get?_push_of_some _ q) (Nat.le_refl _) ⟨hz,its,0,hv,Heap.get?_push_size _ rfl⟩
theorem Inv.fresh (I:Inv X pins σ H s):H s.heap.objs.size=none:=I.hok.fresh (Nat.le_refl _)
theorem Inv.lstM (I:Inv X pins σ H s) (hH:H l=some (.lst xs)):xs.length≤sizeLine∧∃ (its:List Value) (n:Nat),Vals xs its∧xs.length=its.length∧s.heap.get? l=some { cls:=.type "list",data:=.seq its.toArray n }:=by
 obtain ⟨z,its,n,r,e⟩:=I.hok l _ hH
 exact⟨z,its,n,r,r.length,e⟩
theorem notLongL {n:Nat} (h:n≤sizeLine):Builtin.List.listTooLong n=false:=by
 unfold Builtin.List.listTooLong
 exact decide_eq_false (by lia)
end
section
variable {X:Cx}
noncomputable def rAppend:V→List V→Hp→VK→Prop:=fun x vs H Q=>∃ l xs y,x=.ref l∧vs=[y]∧H l=some (.lst xs)∧xs.length<sizeLine∧Q .non (upd H l (.lst (xs++[y])))
theorem mt_append:MtM X "list.append" rAppend:=by
 intro pins s σ H x vs v us Q I rx rv h
 obtain ⟨l,xs,y,rfl,rfl,hH,hz,q⟩:=h
 cases rx
 obtain ⟨u,rfl,ru⟩:=rv.one
 obtain ⟨z,its,n,r,hl,e⟩:=I.lstM hH
 refine call_meets F.slot_list_append ⟨_,e,rfl⟩ F.entry_list_append (F.args_list_append_2 _ _) (PySem.list_append l its.toArray n u (by rw [List.size_toArray];lia)) ⟨e,?_⟩
 refine⟨.non,_,I.lset (its':=its++[u]) hH e (by simp) (r.append (.cons ru .nil)) ?_,rfl,q⟩
 rw [List.length_append,List.length_singleton]
 lia
noncomputable def rExtend:V→List V→Hp→VK→Prop:=fun x vs H Q=>∃ l b xs zs,x=.ref l∧vs=[.ref b]∧H l=some (.lst xs)∧H b=some (.lst zs)∧xs.length+zs.length≤sizeLine∧Q .non (upd H l (.lst (xs++zs)))
theorem mt_extend:MtM X "list.extend" rExtend:=by
 intro pins s σ H x vs v us Q I rx rv h
 obtain ⟨l,b,xs,zs,rfl,rfl,hH,hB,hz,q⟩:=h
 cases rx
 obtain ⟨u,rfl,ru⟩:=rv.one
 cases ru
 obtain ⟨z,its,n,r,hl,e⟩:=I.lstM hH
 obtain ⟨z2,its2,n2,r2,hl2,e2⟩:=I.lstM hB
 have hsz:its.toArray.size+its2.toArray.size≤sizeLine:=by rw [List.size_toArray,List.size_toArray];lia
 have hlong:¬ (!its.toArray.isEmpty && Builtin.List.listTooLong (its.toArray.size+its2.toArray.size))=true:=by
  rw [notLongL hsz,Bool.and_false]
  exact Bool.false_ne_true
 refine call_meets F.slot_list_extend ⟨_,e,rfl⟩ F.entry_list_extend (F.args_list_extend_2 _ _)
  (AutoSeq1.list_extend_list_list_0 l its.toArray n b its2.toArray n2 hlong (by rw [List.size_toArray];lia) (by lia)) ⟨e,e2,?_⟩
 refine⟨.non,_,I.lset (its':=its++its2) hH e (by simp) (r.append r2) ?_,rfl,q⟩
 rw [List.length_append]
 lia
noncomputable def rPopAt:V→List V→Hp→VK→Prop:=fun x vs H Q=>∃ l xs i k y,x=.ref l∧vs=[.int i]∧H l=some (.lst xs)∧-(2 ^ 63)≤i∧i<2 ^ 63∧seqIndex? i xs.length=some k∧xs[k]?=some y∧Q y (upd H l (.lst (xs.eraseIdx k)))
theorem mt_popAt:MtM X "list.pop" rPopAt:=by
 intro pins s σ H x vs v us Q I rx rv h
 obtain ⟨l,xs,i,k,y,rfl,rfl,hH,h1,h2,hk,hy,q⟩:=h
 cases rx
 obtain ⟨u,rfl,ru⟩:=rv.one
 obtain ⟨t,rfl⟩:=ru
 obtain ⟨z,its,n,r,hl,e⟩:=I.lstM hH
 obtain ⟨w,hw,rw'⟩:=r.get hy
 refine call_meets F.slot_list_pop ⟨_,e,rfl⟩ F.entry_list_pop (F.args_list_pop_2 _ _)
  (MeetsSeq.list_pop_at l its.toArray n i t k w (fitsIndex_both h1 h2) (by rw [List.size_toArray,← hl];exact hk) (by rw [← Array.getElem?_toList];exact hw) (by rw [List.size_toArray];lia)) ⟨e,?_⟩
 refine⟨y,_,I.lset (its':=its.eraseIdx k) hH e ?_ (r.eraseIdx k) ?_,rw',q⟩
 ·show its.toArray.eraseIdxIfInBounds k=(its.eraseIdx k).toArray
  rw [List.eraseIdxIfInBounds_toArray]
 ·have:=len_erase xs k
  lia
noncomputable def rCat:R2:=fun x y H Q=>∃ l b xs zs,x=.ref l∧y=.ref b∧H l=some (.lst xs)∧H b=some (.lst zs)∧xs.length+zs.length≤sizeLine∧∀ p,H p=none→Q (.ref p) (upd H p (.lst (xs++zs)))
theorem op_cat:OpR X (binaryOp .Add) rCat:=by
 intro pins s σ H x y v u Q I rx ry h
 obtain ⟨l,b,xs,zs,rfl,rfl,hH,hB,hz,q⟩:=h
 cases rx
 cases ry
 obtain ⟨z,its,n,r,hl,e⟩:=I.lstM hH
 obtain ⟨z2,its2,n2,r2,hl2,e2⟩:=I.lstM hB
 refine PySem.P.add_list e e2 ?_ (by rw [List.size_toArray,List.size_toArray];lia)
 have ea:its.toArray++its2.toArray=(its++its2).toArray:=by simp
 rw [ea]
 exact⟨.ref _,_,I.lnew (t':=s.toks) (r.append r2) (by rw [List.length_append];lia),rfl,q _ I.fresh⟩
end
end L2
namespace Att
open PySem PySem.W PySem.Calls PyProof.Rows
theorem ints_of_wellAll {P:Params} {h:Heap}:∀ (ns:List Int) (vs:List Value),WellAll P h vs (ns.map WData.int)→IntsAre vs ns:=by
 intro ns
 induction ns with
 | nil =>
  intro vs w
  rw [List.map_nil] at w
  cases w
  exact .nil
 | cons n ns ih =>
  intro vs w
  rw [List.map_cons] at w
  cases w with
  | cons a b =>
   cases a
   exact .cons _ _ (ih _ b)
theorem script_of {l:OpenLaw} {n:Nat} (hn:l.most=some n) {P:Params} {h:Heap} {args:List WData} {vals:List Value}
  (hpre:l.row.toRowW.claim.pre args=true) (hwl:WellAll P h vals args) :
  ∃ a vs ns,vals=[Value.ref a]∧args=[WData.list (ns.map WData.int)]∧h.get? a=some { cls:=.type "list",data:=.seq vs.toArray }∧IntsAre vs ns∧ns.length≤n:=by
 have hsh:WShape.hasAll [] args [.list .int]=true:=(pre_splitW hpre).1
 have hc:l.pre.holds [] { args:=args }=true:=(pre_splitW hpre).2
 obtain ⟨d,r,rfl,h1,h2⟩:=hasAllW_cons hsh
 obtain rfl:=hasAllW_nil h2
 obtain ⟨xs,rfl,h3⟩:=hasW_list h1
 obtain ⟨ns,rfl⟩:=items_int h3
 have hlen:ns.length≤n:=by
  unfold OpenLaw.pre at hc
  have h4:(WTm.not (.lt (.lit (.int (n:Int))) (.len (.arg 0)))).holds [] { args:=[.list (ns.map .int)] }=true:=by
   have h4:=(holds_andW hc).1
   rw [hn] at h4
   exact h4
  have h5:=condW_of h4 (w_not (w_lt w_lit (w_len_list (w_arg rfl))))
  rw [List.length_map] at h5
  refine Nat.le_of_not_lt fun q=>?_
  have q':(n:Int)<((ns.length:Nat):Int):=by lia
  first
   | (rw [decide_eq_true q'] at h5;exact absurd h5 (by decide))
   | (simp at h5;lia)
 cases hwl with
 | cons w1 w2 =>
  cases w2
  cases w1 with
  | list ho hall=>exact⟨_,_,ns,rfl,rfl,ho,ints_of_wellAll ns _ hall,hlen⟩
theorem post_true (l:OpenLaw) (args:List WData):l.row.toRowW.claim.post args (.bool true) args=true :=
 postW_of (r:=l.row.toRowW) (X:=(true == true))
  (show WShape.has [] (.bool true) .bool=true by first|rfl|decide|simp [WShape.has,WShape.arms,WShape.armsAll])
  (show (WTm.eq .res (.lit (.bool true))).value [] { args:=args,res:=some (.bool true),after:=args }=some (.bool (true == true)) from w_eq_bool (w_res rfl) w_lit) rfl
theorem attach_call {l:OpenLaw} {n:Nat} {q:Program} {loose:List Str} {XP:(Str→Option Value)→Heap→Prop} {YP:World→Heap→Prop} {d:DefRec}
  (hn:l.most=some n) (hdf:d.params.defaults=[])
  (call:∀ (w:World) (s₀ s₁:Shared) (mg mb:Str→Option Value) (fa:Addr) (o:Obj) (pm cd doc:Value) (a:Addr) (vs:List Value) (ns:List Int),
   Ground q loose [] XP w s₀ mg mb s₁.heap→YP w s₁.heap →
   s₁.heap.get? fa=some o→o.data=.func (docDef d.name d.params d.body d.scope pm cd doc)→s₁.heap.CodeRec cd d.name→mg d.name=some (.ref fa) →
   s₁.heap.get? a=some { cls:=.type "list",data:=.seq vs.toArray }→IntsAre vs ns→ns.length≤n→s₁.gens=#[] →
   codeAny (model l.prog w) callerA (.call (.ref fa) ⟨[.ref a],[]⟩) (fun r s'=>r=.ok (.ret (.bool true))∧OldK s₁.heap s'.heap∧s'.os=s₁.os∧AllBare s'.gens) s₁) :
  WalkO q loose XP YP l.row.toRowW d [] (fun f vs=>PySem.call f vs):=by
 intro w s₀ s₁ mg mb G Y fa o pm cd doc dV kV ho hd hcd hD hmg hg args vals as hpre hlay hrd hwl hlo
 obtain rfl:dV=.none:=Dflts.none hD hdf
 obtain rfl:kV=.none:=Dflts.noKw hD
 obtain ⟨a,vs,ns,rfl,rfl,hobj,hints,hlen⟩:=script_of hn hpre hwl
 refine enter_call (codeAny_mono (call w s₀ s₁ mg mb fa o pm cd doc a vs ns G Y ho (fd_plain hd) hcd hmg hobj hints hlen hg) fun r s' hq=>?_)
 obtain ⟨rfl,h2,h3,h4⟩:=hq
 exact⟨.inl ⟨.bool true,.bool true,[],rfl,fun _=>rfl,.bool true,post_true l _,fun _=>⟨List.Pairwise.nil,fun _ hm=>(nomatch hm)⟩⟩,h2,h3,h4⟩
section
variable {prog:Program} {w:World} {A:Around} {E:Value→Shared→Prop} {s:Shared} {K:Frag}
noncomputable def noObjs (h:Heap):Heap:={ h with objs:=#[] }
theorem noObjs_get (h:Heap) (b:Addr):(noObjs h).get? b=none:=by
 cases e:(noObjs h).get? b with
 | none=>rfl
 | some o=>exact absurd (Heap.lt_size e) (Nat.not_lt_zero _)
noncomputable def ledger (h:Heap) (L d:Addr):List (Addr×Obj):=(List.range h.objs.size).filterMap fun a=>if a=L∨a=d then none else (h.get? a).map fun o=>(a,o)
theorem mem_ledger {h:Heap} {L d a:Addr} {o:Obj}:(a,o)∈ledger h L d↔a≠L∧a≠d∧h.get? a=some o:=by
 unfold ledger
 rw [List.mem_filterMap]
 constructor
 ·rintro ⟨b,_,e⟩
  split at e
  ·cases e
  ·rename_i hb
   obtain ⟨o',ho,e'⟩:=Option.map_eq_some_iff.mp e
   cases e'
   exact⟨fun q=>hb (.inl q),fun q=>hb (.inr q),ho⟩
 ·rintro ⟨n1,n2,ho⟩
  refine⟨a,List.mem_range.mpr (Heap.lt_size ho),?_⟩
  rw [if_neg (show ¬ (a=L∨a=d) from fun q=>q.elim n1 n2),ho] <;> rfl
theorem news_ledger {h:Heap} {L d:Addr} {od:Obj} (hne:d≠L) (ho:h.get? d=some od):News (noObjs h) L h ([]++(d,od)::ledger h L d):=by
 rintro ⟨a,o⟩ hp
 rcases List.mem_cons.mp hp with e|hp
 ·cases e
  exact⟨ho,hne,noObjs_get _ _⟩
 ·obtain ⟨n1,n2,e⟩:=mem_ledger.mp hp
  exact⟨e,n1,noObjs_get _ _⟩
theorem fr_all {h:Heap} {L:Addr} {m:Str→Option Value} (n:h.Ns L m):Fr (noObjs h) L h m :=
 ⟨n,fun b o e=>(by rw [noObjs_get] at e;cases e),Nat.zero_le _⟩
end
end Att
namespace L2
open PySem PySem.Spec PyProof.Rows
theorem vals_ints:∀ {vs:List Value} {ns:List Int},IntsAre vs ns→Vals (ns.map V.int) vs
 | _,_,.nil=>.nil
 | _,_,.cons n t h=>.cons ⟨t,rfl⟩ (vals_ints h)
end L2
namespace L2
open PySem PySem.Spec PyProof.Rows
noncomputable def defArgs (s:Stmt):Arguments:=match s with
 | .FunctionDef _ a _ _ _ _ _ _ _ _=>a
 | _=>{ posonlyargs:=[],args:=[],vararg:=none,kwonlyargs:=[],kw_defaults:=[],kwarg:=none,defaults:=[] }
noncomputable def defBody (s:Stmt):List Stmt:=match s with
 | .FunctionDef _ _ b _ _ _ _ _ _ _=>b
 | _=>[]
noncomputable def defScope (s:Stmt):Scope:=match s with
 | .FunctionDef _ _ _ _ _ _ sc _ _ _=>sc
 | _=>{ kind:=.function,names:=[],isGenerator:=false,isCoroutine:=false }
noncomputable abbrev CX0:CXT:=fun _ _ _ _ _ _=>False
noncomputable abbrev E0:XK:=fun _ _ _=>False
theorem pass0 {X:Cx}:Passes CX0 X E0:=fun _ _ _ _ _ _ _ h=>h.elim
structure Fun (K:PySem.W.Frag) (x qual:Str) (st:Stmt) (f:Addr) (fd:FuncData):Prop where
 ex:∃ (oc:Value) (od:Option Addr) (kV doc pm:Value) (an:Option Addr) (cdv ct:Value) (osl:Array (Option Value)),
  fd=PySem.W.fnOf x qual (defArgs st) (defBody st) (defScope st) .none kV doc pm an cdv ct∧K.lookup f=some ⟨oc,od,.func fd,osl⟩∧PySem.W.codeIn K cdv qual=true
 kp:PySem.W.keepIn K (.ref f)=true
section
variable {P:Program} {w:World} {K:PySem.W.Frag} {mg:Str→Option Value} {base:Heap}
theorem Fun.ok {x qual:Str} {st:Stmt} {f:Addr} {fd:FuncData} {N ps:List Str} {k:Nat} {sp:Sp} (F:Fun K x qual st f fd) (S:FnScope N ps (defScope st)) (len:∀ vs H Q E,sp vs H Q E→vs.length=ps.length)
  (hbody:∀ (cdv:Value) (A:Around) (outer:List Env) (s:Shared) (H:Hp) (vs:List V) (Q:VK) (E:XK),Room k (A.deeper (envOfC qual (defScope st) s.heap.objs.size f cdv))→sp vs H Q E →
   ∃ t,PSs (cxOf CX0 P w K mg base N qual (defScope st) f cdv A outer s H E).nox (defBody st) t∧t { nx:=fun _ H'=>Q .non H',rt:=Q } (start N vs) H):FnOk P w K mg base CX0 (k+1) f fd ps sp:=by
 obtain ⟨oc,od,kV,doc,pm,an,cdv,ct,osl,rfl,lk,hcd⟩:=F.ex
 refine fn_of lk hcd S len fun A outer s H vs Q E hr hsp=>?_
 obtain ⟨t,h,q⟩:=hbody cdv A outer s H vs Q E hr hsp
 exact⟨t,h.nox,q⟩
theorem Fun.binds {x qual:Str} {st:Stmt} {f:Addr} {fd:FuncData} {ps:List Str} (F:Fun K x qual st f fd)
  (h:∀ (kV doc pm:Value) (an:Option Addr) (cdv ct:Value) (us:List Value),us.length=ps.length→bindArgs (PySem.W.fnOf x qual (defArgs st) (defBody st) (defScope st) .none kV doc pm an cdv ct) ⟨us,[]⟩=pure (ps.zip us)):Binds K fd ps []:=by
 obtain ⟨oc,od,kV,doc,pm,an,cdv,ct,osl,rfl,lk,hcd⟩:=F.ex
 exact .all (h kV doc pm an cdv ct)
theorem fun_mk {x qual:Str} {st:Stmt} {f:Addr} {oc:Value} {od an:Option Addr} {osl:Array (Option Value)} {kV doc pm cdv ct:Value} (l:K.lookup f=some ⟨oc,od,.func (PySem.W.fnOf x qual (defArgs st) (defBody st) (defScope st) .none kV doc pm an cdv ct),osl⟩)
  (c:PySem.W.codeIn K cdv qual=true) (k:PySem.W.keepIn K (.ref f)=true):Fun K x qual st f (PySem.W.fnOf x qual (defArgs st) (defBody st) (defScope st) .none kV doc pm an cdv ct):=⟨⟨oc,od,kV,doc,pm,an,cdv,ct,osl,rfl,l,c⟩,k⟩
end
theorem hu_of {A:Around} {k:Nat} (hr:Room k A):A.units+1<cLine:=Nat.lt_of_le_of_lt (Nat.add_le_add_left (by decide:1≤64) _) hr.units
theorem small1000 {n:Nat} (h:n≤1000):n<sizeLine:=Nat.lt_of_le_of_lt h (by decide)
section
variable {X:Cx}
theorem pv (i:Nat) {x:Str} {pos:Pos} (hN:X.N[i]?=some x:=by rfl) (hv:Vis X.env.scope x:=by first|exact Or.inl rfl|exact Or.inr (Or.inl rfl)|exact Or.inr (Or.inr rfl)) (hd:(x == ("__debug__":Str))=false:=by decide)
  (hcd:(x == ("__classdict__":Str))=false:=by decide):PE X (.Name x pos) (tVar i):=pe_var hN hv hd hcd
end
theorem iteF {A B:Prop} (h:B):if false=true then A else B:=by
 rw [if_neg Bool.false_ne_true]
 exact h
theorem iteT {A B:Prop} (h:A):if true=true then A else B:=by
 rw [if_pos rfl]
 exact h
noncomputable def Same (H H':Hp):Prop:=∀ b o,H b=some o→H' b=some o
theorem Same.refl (H:Hp):Same H H:=fun _ _ h=>h
theorem Same.trans {H H1 H2:Hp} (a:Same H H1) (b:Same H1 H2):Same H H2:=fun c o h=>b c o (a c o h)
theorem Same.seq {K:PySem.W.Frag} {H H':Hp} {a:Addr} {xs:List V} (e:Same H H') (h:SqL K H a xs):SqL K H' a xs:=by
 rcases h with (h|⟨o,h⟩)|h
 ·exact .inl (.inl (e _ _ h))
 ·exact .inl (.inr ⟨o,e _ _ h⟩)
 ·exact .inr h
end L2
namespace L2
open PySem
noncomputable def clOf (cells:List (Str×Addr)):List (Str×NameKind)→List (Str×Addr)→List (Str×Addr)
 | [],acc=>acc
 | (n,k)::r,acc=>clOf cells r (if k == .free then (match cells.lookup n with|some c=>(n,c)::acc|none=>acc) else acc)
theorem closure_eq {scope:Scope} {env:Env} (h:∀ p∈scope.names,p.2=.free→∃ c,env.cells.lookup p.1=some c):closureFor scope env=pure (clOf env.cells scope.names []):=by
 have key:∀ (names:List (Str×NameKind)) (acc:List (Str×Addr)),(∀ p∈names,p.2=.free→∃ c,env.cells.lookup p.1=some c) →
   (forIn names acc (fun (x:Str×NameKind) (cs:List (Str×Addr))=>if (x.2 == NameKind.free)=true then (do let c ← cellOf env x.1;pure (ForInStep.yield ((x.1,c)::cs))) else pure (ForInStep.yield cs)):Sem (List (Str×Addr)))=pure (clOf env.cells names acc):=by
  intro names
  induction names with
  | nil=>intro acc _;rfl
  | cons p r ih =>
   intro acc hp
   obtain ⟨n,k⟩:=p
   rw [List.forIn_cons]
   by_cases hk:k=.free
   ·subst hk
    obtain ⟨c,hc⟩:=hp (n,.free) List.mem_cons_self rfl
    have e:cellOf env n=pure c:=by unfold cellOf;rw [show env.cells.lookup n=some c from hc]
    show (if (NameKind.free == NameKind.free)=true then _ else _) >>= _=_
    rw [if_pos (by rfl)]
    dsimp only
    rw [e]
    show (forIn r ((n,c)::acc) _:Sem _)=_
    rw [ih _ fun q hq=>hp q (List.mem_cons_of_mem _ hq)]
    simp [clOf,show env.cells.lookup n=some c from hc]
   ·have hk':(k == NameKind.free)=false:=by simpa using hk
    show (if (k == NameKind.free)=true then _ else _) >>= _=_
    rw [if_neg (by rw [hk'];exact Bool.false_ne_true)]
    show (forIn r acc _:Sem _)=_
    rw [ih _ fun q hq=>hp q (List.mem_cons_of_mem _ hq)]
    simp [clOf,hk']
 unfold closureFor
 have k:=key scope.names [] h
 exact (congrArg (fun m:Sem (List (Str×Addr))=>m >>= fun cs=>pure cs) k).trans rfl
theorem clOf_sub {cells:List (Str×Addr)}:∀ {names:List (Str×NameKind)} {acc:List (Str×Addr)},(∀ x c,acc.lookup x=some c→cells.lookup x=some c)→∀ x c,(clOf cells names acc).lookup x=some c→cells.lookup x=some c
 | [],acc,h,x,c,e=>h x c e
 | (n,k)::r,acc,h,x,c,e=>by
  refine clOf_sub (names:=r) (fun y d q=>?_) x c e
  split at q
  ·split at q
   ·rename_i c0 hc0
    rw [List.lookup_cons] at q
    split at q
    ·rename_i hy
     have hy':y=n:=by simpa using hy
     subst hy'
     rw [hc0];exact q
    ·exact h y d q
   ·exact h y d q
  ·exact h y d q
theorem clOf_has {cells:List (Str×Addr)}:∀ {names:List (Str×NameKind)} {acc:List (Str×Addr)} {x:Str},(acc.lookup x).isSome=true∨((x,NameKind.free)∈names∧(cells.lookup x).isSome=true)→((clOf cells names acc).lookup x).isSome=true
 | [],acc,x,h=>by
  rcases h with h|h
  ·exact h
  ·exact absurd h.1 (by simp)
 | (n,k)::r,acc,x,h=>by
  refine clOf_has (names:=r) ?_
  rcases h with h|⟨hm,hc⟩
  ·left
   split
   ·split
    ·rw [List.lookup_cons];split
     ·rfl
     ·exact h
    ·exact h
   ·exact h
  ·rcases List.mem_cons.mp hm with e|hm
   ·injection e with e1 e2
    subst e1;subst e2
    left
    rw [if_pos (by rfl)]
    cases hq:cells.lookup x with
    | none=>rw [hq] at hc;cases hc
    | some c=>simp
   ·exact .inr ⟨hm,hc⟩
section
variable {prog:Program} {w:World} {A:Around}
theorem comp_loop {R:Result→Shared→Prop} {s:Shared} {elt target iter:Expr} {ifs:List Expr} {scope:Scope} {pos:Pos} {it acc:Value} {env:Env} {E:Value→Shared→Prop} (hE:∀ e s',E e s'→notedBy (model prog w) A env (fun e s'=>R (.error e) s') e s') (I:Nat→Shared→Prop)
  (turn:∀ n s,I n s→wpAny (model prog w) A (pyNext it) (fun r s₁=>match r with
   | none=>R (.ok .next) s₁
   | some v=>wpAny (model prog w) A (letOwnedTupleGo target it v) (fun _ s₁'=>wpAny (model prog w) A (assign target env v) (fun _ s₂ =>
     wpAny (model prog w) A (forIn ifs true fun c r=>if r=true then do let ok ← isTrue c env (eval c env);pure (ForInStep.yield ok) else pure (ForInStep.yield r)) (fun ok s₃ =>
      if ok=true then wpAny (model prog w) A (eval elt env) (fun x s₄ =>
       wpAny (model prog w) A (call (.builtin "list.append") [acc,x]) (fun _ s₅=>∃ m,m<n∧I m s₅) E s₄) E s₃
      else ∃ m,m<n∧I m s₃) E s₂) E s₁') E s₁) E s)
  (n:Nat) (h:I n s) :
  codeAny (model prog w) A (.compLoop (.ListComp elt [⟨target,iter,ifs,0⟩] scope pos) 0 it acc env) R s:=by
 have noted:∀ {α:Type} {t:Sem α} {Q:α→Shared→Prop} {s:Shared},wpAny (model prog w) A t Q E s→wpAny (model prog w) A t Q (notedBy (model prog w) A env fun e s'=>R (.error e) s') s:=fun q=>wpAny_mono q (fun _ _ z=>z) hE
 refine codeAny_loop rfl I (fun n s hI=>?_) n h
 show wpAny _ A ((compTurn (.ListComp elt [⟨target,iter,ifs,0⟩] scope pos) 0 it acc env).onRaise (fun x=>do noteFrame x env;theTreesLotGoes x)) _ _ s
 refine wpAny_noted ?_
 rw [compTurn_list]
 refine wpAny_bind (wpAny_standAt (wpAny_bind (wpAny_mono (noted (turn n s hI)) (fun r s₁ h₁=>?_) fun _ _ h'=>h')))
 cases r with
 | none=>exact wpAny_pure h₁
 | some v =>
  refine wpAny_bind (wpAny_mono (noted h₁) (fun _ s₁' h₁'=>?_) fun _ _ h'=>h')
  refine wpAny_bind (wpAny_mono (noted h₁') (fun _ s₂ h₂=>wpAny_bind (wpAny_mono (noted h₂) (fun ok s₃ h₃=>?_) fun _ _ h'=>h')) fun _ _ h'=>h')
  cases ok with
  | false=>exact wpAny_pure ⟨rfl,h₃⟩
  | true =>
   simp only [if_true] at h₃ ⊢
   exact wpAny_bind (wpAny_bind (wpAny_mono (noted h₃) (fun x s₄ h₄=>wpAny_bind (wpAny_mono (noted h₄) (fun _ s₅ h₅=>wpAny_pure (wpAny_pure ⟨rfl,h₅⟩)) fun _ _ h'=>h')) fun _ _ h'=>h'))
end
end L2
namespace L2
open PySem PySem.Spec PyProof.Rows
noncomputable abbrev compCx (X:Cx) (pins:List (Addr×Obj)) (N:List Str) (scope:Scope) (C:Addr) (s:Shared) (H:Hp) (fp:List Addr):Cx :=
 { X with N:=N,s₀:=s,H₀:=H,env:=compEnvC scope (clOf X.env.cells scope.names []) C X.env,outer:=X.stack,stack:=X.stack,ex:=fp,fn:=fun _=>false,pn:=X.pn++pins,xe:=fun _ _=>False }
noncomputable def pick (ix:List (Option Nat)) (σ:St):St:=ix.map fun o=>o.bind fun j=>(σ[j]?).join
noncomputable def IxOk (X:Cx) (scope:Scope):List Str→List (Option Nat)→Prop
 | [],[]=>True
 | _::N,none::ix=>IxOk X scope N ix
 | x::N,some j::ix=>(X.N[j]?=some x∧Vis X.env.scope x∧(X.env.scope.names.lookup x == some .local)=false∧scope.names.lookup x=some .free)∧IxOk X scope N ix
 | _,_=>False
theorem IxOk.len {X:Cx} {scope:Scope}:∀ {N:List Str} {ix:List (Option Nat)},IxOk X scope N ix→ix.length=N.length
 | [],[],_=>rfl
 | [],none::_,h=>h.elim
 | [],some _::_,h=>h.elim
 | _::_,[],h=>h.elim
 | _::N,none::ix,h=>by simp only [List.length_cons];rw [IxOk.len (N:=N) (ix:=ix) h]
 | _::N,some _::ix,h=>by simp only [List.length_cons];rw [IxOk.len (N:=N) (ix:=ix) h.2]
theorem IxOk.get {X:Cx} {scope:Scope}:∀ {N:List Str} {ix:List (Option Nat)} {i j:Nat} {x:Str},IxOk X scope N ix→N[i]?=some x→ix[i]?=some (some j) →
  X.N[j]?=some x∧Vis X.env.scope x∧(X.env.scope.names.lookup x == some .local)=false∧scope.names.lookup x=some .free
 | [],[],_,_,_,_,h,_=>by simp at h
 | [],none::_,_,_,_,h,_,_=>h.elim
 | [],some _::_,_,_,_,h,_,_=>h.elim
 | _::_,[],_,_,_,h,_,_=>h.elim
 | _::N,none::ix,0,_,_,_,_,e=>by simp at e
 | _::N,none::ix,i+1,_,_,h,h1,e=>IxOk.get (N:=N) (ix:=ix) (i:=i) h (by simpa using h1) (by simpa using e)
 | y::N,some k::ix,0,j,x,h,h1,e=>by
  simp at h1 e
  subst h1;subst e
  exact h.1
 | _::N,some _::ix,i+1,_,_,h,h1,e=>IxOk.get (N:=N) (ix:=ix) (i:=i) h.2 (by simpa using h1) (by simpa using e)
theorem pick_get {ix:List (Option Nat)} {σ:St} {i:Nat} {v:V} (h:(pick ix σ)[i]?=some (some v)):∃ j,ix[i]?=some (some j)∧σ[j]?=some (some v):=by
 unfold pick at h
 rw [List.getElem?_map] at h
 cases e:ix[i]? with
 | none=>rw [e] at h;cases h
 | some o =>
  rw [e] at h
  cases o with
  | none=>cases h
  | some j =>
   refine⟨j,rfl,?_⟩
   have h':(σ[j]?).join=some v:=Option.some.inj h
   cases q:σ[j]? with
   | none=>rw [q] at h';cases h'
   | some z=>rw [q] at h';have h2:z=some v:=h';rw [h2]
theorem relabel_not_local {env : Env} : ∀ {names : List (Str × NameKind)} {x : Str}, (∀ y ∈ names, y.2 ≠ .cell) →
    ((names.map fun (n, k) => if (k == NameKind.free && env.scope.kind == .function && env.kindOf n == some .cell) then (n, NameKind.cell) else (n, k)).lookup x=some .cell ∨
     (names.map fun (n, k) => if (k == NameKind.free && env.scope.kind == .function && env.kindOf n == some .cell) then (n, NameKind.cell) else (n, k)).lookup x=some .free) → names.lookup x=some .free
  | [], _, _, h => by simp at h
  | (n, k)::r, x, hc, h => by
    have ih := @relabel_not_local env r x fun y hy => hc y (List.mem_cons_of_mem _ hy)
    have hk : k ≠ .cell := hc (n, k) List.mem_cons_self
    rw [List.map_cons] at h
    cases hx : x == n with
    | true =>
      rw [List.lookup_cons, hx]
      by_cases hcnd : (k == NameKind.free && env.scope.kind == .function && env.kindOf n == some .cell)=true
      · have : k=.free := by
          simp only [Bool.and_eq_true, beq_iff_eq] at hcnd
          exact hcnd.1.1
        rw [this]
      · simp only [hcnd, Bool.false_eq_true, if_false, List.lookup_cons, hx] at h
        rcases h with h|h
        · exact absurd (Option.some.inj h) hk
        · exact h
    | false =>
      rw [List.lookup_cons, hx]
      refine ih ?_
      by_cases hcnd : (k == NameKind.free && env.scope.kind == .function && env.kindOf n == some .cell)=true
      · simp only [hcnd, if_true, List.lookup_cons, hx] at h
        exact h
      · simp only [hcnd, Bool.false_eq_true, if_false, List.lookup_cons, hx] at h
        exact h
theorem relabel_free {env : Env} : ∀ {names : List (Str × NameKind)} {x : Str}, names.lookup x=some .free →
    ((names.map fun (n, k) => if (k == NameKind.free && env.scope.kind == .function && env.kindOf n == some .cell) then (n, NameKind.cell) else (n, k)).lookup x=some .cell ∨
     (names.map fun (n, k) => if (k == NameKind.free && env.scope.kind == .function && env.kindOf n == some .cell) then (n, NameKind.cell) else (n, k)).lookup x=some .free)
  | [], _, h => by simp at h
  | (n, k)::r, x, h => by
    have ih := @relabel_free env r x
    rw [List.map_cons]
    cases hx : x == n with
    | true =>
      rw [List.lookup_cons, hx] at h
      have hk : k=.free := Option.some.inj h
      subst hk
      by_cases hcnd : (NameKind.free == NameKind.free && env.scope.kind == .function && env.kindOf n == some .cell)=true
      · simp only [hcnd, if_true, List.lookup_cons, hx];exact .inl trivial
      · simp only [hcnd, Bool.false_eq_true, if_false, List.lookup_cons, hx];exact .inr trivial
    | false =>
      rw [List.lookup_cons, hx] at h
      by_cases hcnd : (k == NameKind.free && env.scope.kind == .function && env.kindOf n == some .cell)=true
      · simp only [hcnd, if_true, List.lookup_cons, hx];exact ih h
      · simp only [hcnd, Bool.false_eq_true, if_false, List.lookup_cons, hx];exact ih h
noncomputable def PTs (Y:Cx):List Expr→TT→Prop
 | [],t=>t=fun _ H Q=>Q true H
 | [c],t=>PT Y c t
 | _,_=>False
noncomputable def CompGoal (ix:List (Option Nat)) (g:TG) (tt:TT) (te:TE) (σ:St) (Q:VK) (J:It) (H1:Hp):Prop:=∀ l,H1 l=none→∃ W:Nat→Nat→St→List V→Hp→Prop,
 (∃ m,W 0 m (pick ix σ) [] (upd H1 l (.lst [])))∧∀ i m σ1 ys H',W i m σ1 ys H'→H' l=some (.lst ys)∧((J.stop i H'∧Q (.ref l) H') ∨
  (J.go i H'∧∃ m',m'<m∧∀ x H2,J.yld i H' x H2→g x σ1 H2 fun σ2 H3=>tt σ2 H3 fun b H4=>if b=true then te σ2 H4 fun y H5=>H5 l=some (.lst ys)∧ys.length<sizeLine∧W (i+1) m' σ2 (ys++[y]) (upd H5 l (.lst (ys++[y]))) else W (i+1) m' σ2 ys H4))
noncomputable def tComp (ix:List (Option Nat)) (wi:TI) (g:TG) (tt:TT) (te:TE):TE:=fun σ H Q=>wi σ H fun J H1=>CompGoal ix g tt te σ Q J H1
theorem Un.letGo {fs ex:List Addr} {H H':Hp} {h h1 h2:Heap} {C:Addr} (u:Un fs ex H H' h h1) (hC:h.objs.size≤C) (sb:Heap.SameBut C h1 h2):Un fs ex H H' h h2:=by
 have ne:∀ b o,h.get? b=some o→b≠C:=fun b o e=>Nat.ne_of_lt (Nat.lt_of_lt_of_le (Heap.lt_size e) hC)
 refine⟨fun b o e n hb hx=>(sb.2 b (ne b o e)).trans (u.keep b o e n hb hx),fun b o e n hb hx=>?_,u.free,fun b o e hx=>?_,u.tups,u.frzs,u.tbls⟩
 ·obtain ⟨sl,q⟩:=u.slot b o e n hb hx
  exact⟨sl,(sb.2 b (ne b o e)).trans q⟩
 ·obtain ⟨o',q⟩:=u.there b o e hx
  exact⟨o',(sb.2 b (ne b o e)).trans q⟩
theorem HOk.letGo {P:Program} {w:World} {H:Hp} {h h':Heap} {C:Addr} (x:HOk P w H h) (hC:H C=none) (sb:Heap.SameBut C h h'):HOk P w H h':=fun a o e=>by
 have na:∀ b u,H b=some u→b≠C:=fun b u q z=>by rw [z,hC] at q;cases q
 refine (x a o e).stay (fun b u hb q=>(sb.2 b ?_).trans q) (fun _ q=>q) fun _ _ q=>q
 rcases hb with rfl|hb
 ·exact na _ _ e
 ·exact na _ _ hb
section
variable {X:Cx}
theorem wp_tests {Y:Cx} {ifs:List Expr} {tt:TT} (ht:PTs Y ifs tt) {pins:List (Addr×Obj)} {s:Shared} {σ:St} {H:Hp} {Q:Bool→Hp→Prop} (I:Inv Y pins σ H s) (h:tt σ H Q) :
  wpAny (model Y.prog Y.w) Y.A (forIn ifs true fun c r=>if r=true then do let ok ← isTrue c Y.env (eval c Y.env);pure (ForInStep.yield ok) else pure (ForInStep.yield r)) (TP Y pins σ Q) Y.xe s:=by
 match ifs,ht with
 | [],ht =>
  have e:tt=fun _ H Q=>Q true H:=ht
  subst e
  exact wpAny_tests_nil ⟨H,I,h⟩
 | [c],ht=>exact wpAny_tests_one ((show PT Y c tt from ht) pins s σ H Q I h)
 | _::_::_,ht=>exact False.elim ht
theorem pe_comp {tg iter elt:Expr} {ifs:List Expr} {scope:Scope} {pos:Pos} {N:List Str} {ix:List (Option Nat)} {wi:TI} {g:TG} {tt:TT} {te:TE}
  (hc:X.calm=true) (hi:PI X tg iter wi)
  (hg:∀ pins C s H fp,PG (compCx X pins N scope C s H fp) tg g)
  (ht:∀ pins C s H fp,PTs (compCx X pins N scope C s H fp) ifs tt)
  (he:∀ pins C s H fp,PE (compCx X pins N scope C s H fp) elt te)
  (hk:scope.kind=.function) (hcell:∀ y∈scope.names,y.2≠.cell) (hnames:∀ y∈scope.names,y.2=.local→scope.names.lookup y.1=some .local)
  (hfr0:(scope.names.all fun y=>!(y.2 == NameKind.free) || (X.env.cells.lookup y.1).isSome)=true) (hix:IxOk X scope N ix)
  (hs:∀ x,foldedSetIterable iter X.env x=pure x:=by intro _;rfl) :
  PE X (.ListComp elt [⟨tg,iter,ifs,0⟩] scope pos) (tComp ix wi g tt te):=by
 intro pins s σ H Q I h
 have hfr:∀ y∈scope.names,y.2=.free→(X.env.cells.lookup y.1).isSome=true:=fun y hy e=>by
  have z:=List.all_eq_true.mp hfr0 y hy
  rw [e] at z
  simpa using z
 have hfr':∀ p∈scope.names,p.2=.free→∃ c,X.env.cells.lookup p.1=some c:=fun p hp e=>Option.isSome_iff_exists.mp (hfr p hp e)
 have clsub:∀ x c,(clOf X.env.cells scope.names []).lookup x=some c→X.env.cells.lookup x=some c:=clOf_sub (fun x c q=>by simp at q)
 have clhas:∀ x,scope.names.lookup x=some .free→∃ c,(clOf X.env.cells scope.names []).lookup x=some c:=fun x hx=>by
  have hm:=PySem.mem_of_lookup hx
  exact Option.isSome_iff_exists.mp (clOf_has (.inr ⟨hm,hfr _ hm rfl⟩))
 rw [eval_ListComp]
 refine wpAny_comprehension_free (use:=none) rfl hs (closure_eq hfr') hk hnames (thn (hi pins s σ H _ I h) fun v s1 h1=>thn h1 fun itv s2 h2=>?_)
 obtain ⟨it,fp,tn,J,H2,e,I2,T,st2,f2,hW⟩:=h2
 subst e
 have hfree2:H2 s2.heap.objs.size=none:=I2.hok.fresh (Nat.le_refl _)
 obtain ⟨W,⟨m0,w0⟩,turn⟩:=hW s2.heap.objs.size hfree2
 refine wpAny_newObj_type ?_
 have I3:Inv X pins σ (upd H2 s2.heap.objs.size (.lst [])) { s2 with heap:=s2.heap.push { cls:=.type "list",data:=.seq ([]:List Value).toArray } }:=I2.lnew (its:=[]) (t':=s2.toks) .nil (Nat.zero_le _)
 have f3:∀ b∈fp,FpOk X pins (upd H2 s2.heap.objs.size (.lst [])) b:=fun b hb=>by
  refine⟨?_,(f2 b hb).2⟩
  obtain ⟨o,eo,_⟩:=T.obj _ _ st2 b hb
  rw [upd_ne (Nat.ne_of_lt (Heap.lt_size eo))]
  exact (f2 b hb).1
 have st3:tn 0 (s2.heap.push { cls:=.type "list",data:=.seq ([]:List Value).toArray }):=T.keep _ _ _ st2 fun b _ o e=>Heap.get?_push_of_some _ e
 generalize hs3:({ s2 with heap:=s2.heap.push { cls:=.type "list",data:=.seq ([]:List Value).toArray } }:Shared)=s3 at I3
 have st3:tn 0 s3.heap:=by rw [← hs3];exact st3
 generalize hH3:upd H2 s2.heap.objs.size (.lst [])=H3 at I3 f3 w0
 generalize hacc:s2.heap.objs.size=acc at *
 refine wpAny_newFunctionEnv hcell (by intro y hy;simp at hy) (fun h₁ hns₁ hsb₁=>?_) hk
 have old:∀ b o,s3.heap.get? b=some o→h₁.get? b=some o:=fun b o q=>hsb₁.extBut b o (Nat.ne_of_lt (Heap.lt_size q)) (Heap.get?_push_of_some _ q)
 have hCfree:H3 s3.heap.objs.size=none:=I3.hok.fresh (Nat.le_refl _)
 have fpl:∀ b∈fp,b<s3.heap.objs.size:=fun b hb=>by
  obtain ⟨o,eo,_⟩:=T.obj _ _ st3 b hb
  exact Heap.lt_size eo
 have nstk:∀ b,b≠X.env.locals→b∉X.fs→b∉frs X.stack:=fun b h1 h2 z=>by
  rcases List.mem_cons.mp (I3.stkSub b z) with q|q
  ·exact h1 q
  ·exact h2 q
 have clt:∀ x c,X.env.cells.lookup x=some c→c<s3.heap.objs.size:=fun x c q=>by
  obtain ⟨v,z⟩:=I3.cell x c q
  exact z.lt
 have YI:∀ (h':Heap) (m:Str→Option Value),(∀ b o,s3.heap.get? b=some o→h'.get? b=some o)→h'.Ns s3.heap.objs.size m →
   Inv (compCx X pins N scope s3.heap.objs.size s3 H3 fp) [] (pick ix σ) H3 { s3 with heap:=h',toks:=s3.toks+([]:List (Str×Value)).length }:=by
  intro h' m hk' hn
  refine⟨⟨I3.ok.mod,hk,I3.ok.glob,I3.ok.blt,Nat.le_refl _,fun x y c q1 q2=>I3.ok.inj x y c (clsub x c q1) (clsub y c q2),fun x hx=>clhas x (relabel_not_local hcell hx),fun x c hf _=>absurd hf Bool.false_ne_true,
   I3.ok.hd,I3.ok.frames,.inl rfl,fun b hb=>⟨Nat.ne_of_lt (fpl b hb),fun x c q=>(f3 b hb).2.2.2.2.1 x c (clsub x c q)⟩,I3.bs,Nat.le_trans I3.ok.bsz I3.sz,fun b o e hb=>?_,fun b hb=>nstk b (f3 b hb).2.1 (f3 b hb).2.2.1,I3.stack,I3.stkFree⟩,
   rfl,I3.bare,Un.kept hk',⟨m,hn,fun i x v h1 h2 h3=>?_⟩,fun x c q=>?_,hCfree,fun x c q=>I3.freeC x c (clsub x c q),fun p hp=>?_,I3.hok.kept hk',?_⟩
  ·have q:=(I3.bs b o e).2
   rcases (f3 b hb).2.2.2.1 with z|z
   ·exact I3.ok.noex b o e z
   ·exact absurd (Nat.lt_of_lt_of_le (Heap.lt_size e) (Nat.le_trans I3.ok.bsz z)) (Nat.lt_irrefl _)
  ·obtain ⟨j,e1,e2⟩:=pick_get h2
   obtain ⟨a1,a2,a3,a4⟩:=hix.get h1 e1
   obtain ⟨mX,hnX,hlX⟩:=I3.loc
   obtain ⟨u,ru,l⟩:=hlX j x v a1 e2 a2
   refine⟨u,ru,?_⟩
   rcases l with ⟨l1,_⟩|⟨_,c,lc,z⟩
   ·have l1':X.env.scope.names.lookup x=some .local:=l1
    rw [l1'] at a3
    exact absurd a3 (by decide)
   ·obtain ⟨c',hc'⟩:=clhas x a4
    have ec:=clsub x c' hc'
    rw [lc] at ec
    have ec':c=c':=Option.some.inj ec
    subst ec'
    exact .inr ⟨relabel_free a4,c,hc',z.keeps hk'⟩
  ·obtain ⟨v,z⟩:=I3.cell x c (clsub x c q)
   exact⟨v,z.keeps hk'⟩
  ·have hp':p∈X.pn++pins:=by simpa using hp
   obtain ⟨a1,a2,a3,a4,a5⟩:=I3.pin p hp'
   exact⟨hk' _ _ a1,a2,Nat.ne_of_lt (Heap.lt_size a1),nstk p.1 a3 a4,a5⟩
  ·show (pick ix σ).length=N.length
   unfold pick
   rw [List.length_map]
   exact hix.len
 have fpY:∀ {pl:List (Addr×Obj)} {H':Hp},pl=[]→(∀ b∈fp,H' b=none)→∀ b∈fp,FpOk (compCx X pins N scope s3.heap.objs.size s3 H3 fp) pl H' b:=fun {pl H'} epl hn b hb=>by
  obtain ⟨f0,f1,f2',f3',f4,f5⟩:=f3 b hb
  subst epl
  exact⟨hn b hb,Nat.ne_of_lt (fpl b hb),nstk b f1 f2',.inl hb,fun x c q=>f4 x c (clsub x c q),fun p hp=>f5 p (by simpa using hp)⟩
 have loop:∀ s4:Shared,(∃ m,s4={ s3 with heap:=h₁,toks:=s3.toks+([]:List (Str×Value)).length }∧h₁.Ns s3.heap.objs.size m) →
   codeAny (model X.prog X.w) X.A (.compLoop (.ListComp elt [⟨tg,iter,ifs,0⟩] scope pos) 0 (.ref it) (.ref acc) (compEnvC scope (clOf X.env.cells scope.names []) s3.heap.objs.size X.env))
    (compPost (model X.prog X.w) X.A X.xe none (EP X pins σ Q) (.ref acc) s3.heap.objs.size) s4:=by
  rintro s4 ⟨m4,rfl,hn4⟩
  refine comp_loop (E:=fun _ _=>False) (fun _ _ z=>z.elim)
   (fun n s'=>∃ i σ' ys H',Inv (compCx X pins N scope s3.heap.objs.size s3 H3 fp) [] σ' H' s'∧tn i s'.heap∧(∀ b∈fp,H' b=none)∧W i n σ' ys H') ?_ m0
   ⟨0,pick ix σ,[],H3,YI h₁ m4 old hn4,T.keep _ _ _ st3 fun b _ o q=>old b o q,fun b hb=>(f3 b hb).1,w0⟩
  rintro n s5 ⟨i,σ5,ys,H5,I5,st5,fr5,w5⟩
  obtain ⟨hl5,hstep⟩:=turn i n σ5 ys H5 w5
  rcases hstep with ⟨stop,q⟩|⟨go,m',hm',step⟩
  ·refine thn (T.done (compCx X pins N scope s3.heap.objs.size s3 H3 fp) rfl rfl rfl hc i [] s5 σ5 H5 (fun _ _=>False) I5 (fpY rfl fr5) st5 stop) fun r s6 ⟨hr,I6⟩=>?_
   subst hr
   obtain ⟨m6,hn6,_⟩:=I6.loc
   refine⟨m6,hn6,fun h' sb=>?_⟩
   refine⟨.ref acc,H5,I3.call' (ch:=fp) I6.os (I6.base.letGo (Nat.le_refl _) sb) (I6.hok.letGo I6.free sb) I6.bare fun b hb=>?_,rfl,q⟩
   obtain ⟨f0,f1,f2',f3',f4,f5⟩:=f3 b hb
   exact⟨f3',f1,f4,f5⟩
  ·refine thn (T.item (compCx X pins N scope s3.heap.objs.size s3 H3 fp) rfl rfl rfl hc i [] s5 σ5 H5 (fun _ _=>False) I5 (fpY rfl fr5) st5 go) fun r s6 ⟨u,hr,h6⟩=>?_
   subst hr
   refine thn h6 fun _ s7 ⟨x,H7,I7,r7,y7,st7,fr7⟩=>?_
   have I7':=I7.pinned (fpY rfl fr7) (T.obj _ _ st7)
   refine thn (hg pins s3.heap.objs.size s3 H3 fp _ s7 σ5 H7 x u _ I7' r7 (step x H7 y7)) fun _ s8 ⟨σ8,H8,I8,q8⟩=>?_
   refine thn (wp_tests (ht pins s3.heap.objs.size s3 H3 fp) I8 q8) fun b s9 ⟨H9,I9,q9⟩=>?_
   have back:∀ {σz:St} {Hz:Hp} {sz:Shared} {yz:List V},Inv (compCx X pins N scope s3.heap.objs.size s3 H3 fp) ([]++pinsAt fp s7.heap) σz Hz sz→W (i+1) m' σz yz Hz →
     ∃ m,m<n∧∃ i σ' ys H',Inv (compCx X pins N scope s3.heap.objs.size s3 H3 fp) [] σ' H' sz∧tn i sz.heap∧(∀ b∈fp,H' b=none)∧W i m σ' ys H':=fun {σz Hz sz yz} Iz wz=>by
    refine⟨m',hm',i+1,σz,yz,Hz,Iz.unpinned,T.keep _ _ _ st7 fun b hb o e=>(Iz.pin (b,o) (List.mem_append_right _ (List.mem_append_right _ (mem_pinsAt hb e)))).1,fun b hb=>?_,wz⟩
    obtain ⟨o,e,d⟩:=T.obj _ _ st7 b hb
    exact (Iz.pin (b,o) (List.mem_append_right _ (List.mem_append_right _ (mem_pinsAt hb e)))).2.1
   cases b with
   | false=>exact back I9 q9
   | true =>
    refine thn (he pins s3.heap.objs.size s3 H3 fp _ s9 σ8 H9 _ I9 q9) fun v s10 ⟨y,H10,I10,r10,hl10,hz10,w10⟩=>?_
    refine thn (mt_append _ s10 σ8 H10 (.ref acc) [y] (.ref acc) [v] (fun _ H'=>H'=upd H10 acc (.lst (ys++[y]))) I10 rfl (.cons r10 .nil) ⟨acc,ys,y,rfl,rfl,hl10,hz10,rfl⟩) fun _ s11 ⟨_,H11,I11,_,e11⟩=>?_
    subst e11
    exact back I11 w10
 have hn4:∃ m,h₁.Ns s3.heap.objs.size m:=⟨_,hns₁⟩
 obtain ⟨m4,hn4⟩:=hn4
 have L:=loop _ ⟨m4,rfl,hn4⟩
 exact codeAny_compStart_list L (T.self _ 0 _ _ _ (T.keep _ _ _ st3 fun b _ o q=>old b o q) L)
end
end L2
namespace L2
open PySem
theorem nne {a b:Nat} (h:@Ne Nat a b):@Ne Addr a b:=h
noncomputable def SrcOf (k:Bool) (h:Heap) (a:Addr) (xs:Array Value):Prop:=match k with|true=>h.IsTuple a xs|false=>h.IsList a xs
noncomputable def ItAt (k:Bool) (h:Heap) (it a:Addr) (i:Nat):Prop:=match k with|true=>h.IsTupleIter it a i|false=>h.IsListIter it a i
noncomputable def itObj (k:Bool) (a:Addr):Obj:=match k with|true=>{ cls:=.type "tuple_iterator",data:=.fields #[.ref a,.int 0 0] }|false=>{ cls:=.type "list_iterator",data:=.fields #[.ref a,.int 0 0] }
noncomputable abbrev IsT (h:Heap) (T:Addr) (vs:Array Value):Prop:=h.get? T=some { cls:=.type "tuple",data:=.seq vs }
theorem SrcOf.keep {k:Bool} {h h':Heap} {a:Addr} {xs:Array Value} (x:SrcOf k h a xs) (hk:∀ o,h.get? a=some o→h'.get? a=some o):SrcOf k h' a xs:=by
 cases k with
 | true=>obtain ⟨o,e,r⟩:=x;exact⟨o,hk o e,r⟩
 | false=>obtain ⟨o,e,r⟩:=x;exact⟨o,hk o e,r⟩
theorem ItAt.keep {k:Bool} {h h':Heap} {it a:Addr} {i:Nat} (x:ItAt k h it a i) (hk:∀ o,h.get? it=some o→h'.get? it=some o):ItAt k h' it a i:=by
 cases k with
 | true=>obtain ⟨o,e,r⟩:=x;exact⟨o,hk o e,r⟩
 | false=>obtain ⟨o,e,r⟩:=x;exact⟨o,hk o e,r⟩
theorem ItAt.obj {k:Bool} {h:Heap} {it a:Addr} {i:Nat} (x:ItAt k h it a i):∃ o,h.get? it=some o∧∀ v,o.data≠.cell v:=by
 cases k with
 | true=>obtain ⟨o,e,_,d⟩:=x;exact⟨o,e,fun v z=>by rw [d] at z;cases z⟩
 | false=>obtain ⟨o,e,_,d⟩:=x;exact⟨o,e,fun v z=>by rw [d] at z;cases z⟩
theorem SrcOf.lt {k:Bool} {h:Heap} {a:Addr} {xs:Array Value} (x:SrcOf k h a xs):a<h.objs.size:=by
 cases k with
 | true=>obtain ⟨o,e,_⟩:=x;exact Heap.lt_size e
 | false=>obtain ⟨o,e,_⟩:=x;exact Heap.lt_size e
theorem itObj_at {k:Bool} {h:Heap} {it a:Addr} (e:h.get? it=some (itObj k a)):ItAt k h it a 0:=by
 cases k with
 | true=>exact⟨_,e,rfl,rfl⟩
 | false=>exact⟨_,e,rfl,rfl⟩
section
variable {prog:Program} {w:World} {A:Around} {E:Value→Shared→Prop} {s:Shared}
theorem src_iter {k:Bool} {a:Addr} {xs:Array Value} {Q:Value→Shared→Prop} (h:SrcOf k s.heap a xs) (hQ:Q (.ref s.heap.objs.size) { s with heap:=s.heap.push (itObj k a) }):wpAny (model prog w) A (pyIter (.ref a)) Q E s:=by
 cases k with
 | true=>exact wpAny_pyIter_tuple h hQ
 | false=>exact wpAny_pyIter_list h hQ
theorem nextOf_tuple_item {it t:Addr} {i:Nat} {items} {x:Value} {Q:Value→Shared→Prop} (hit:s.heap.IsTupleIter it t i)
  (ht:s.heap.IsTuple t items) (hx:items[i]?=some x)
  (hQ:∀ h',h'.IsTupleIter it t (i+1)→Heap.SameBut it s.heap h'→Q x { s with heap:=h' }) :
  wpAny (model prog w) A (Builtin.SmallTypes.nextOf (.ref it)) Q E s:=by
 obtain ⟨o,ho,hc,hd⟩:=id hit
 obtain ⟨ol,hol,_,nl,hdl⟩:=ht
 unfold Builtin.SmallTypes.nextOf
 refine wpAny_bind (wpAny_callSpecial?_slot (name:=Str.ofString "__next__") hit.typeIs F.slot_tuple_iterator_next
  (wpAny_call_entry F.slot_tuple_iterator_next hit.typeIs F.entry_tuple_iterator_next ?_ (F.args_tuple_iterator_next_1 _)))
 show wpAny _ _ (field (.ref it) 0 >>= _) _ _ s
 refine wpAny_bind (wpAny_field ho hd (x:=.ref t) rfl ?_)
 show wpAny _ _ (if (Value.ref t == Value.none)=true then _ else _) _ _ s
 rw [if_neg (show ¬ ((Value.ref t == Value.none)=true) from Bool.false_ne_true)]
 show wpAny _ _ (field (.ref it) 1 >>= _) _ _ s
 refine wpAny_bind (wpAny_field ho hd (x:=.int i 0) rfl ?_)
 show wpAny _ _ (seqItems? (.ref t) >>= _) _ _ s
 refine wpAny_bind (wpAny_seqItems hol hdl ?_)
 simp only [Int.toNat_natCast,hx]
 refine wpAny_bind (wpAny_setField ho hd (by simp) (wpAny_pure ⟨x,rfl,wpAny_pure (hQ _ ?_ (Heap.SameBut.update ..))⟩))
 exact⟨_,Heap.get?_update_self _ ho (Obj.isFreed_of_fields (Obj.data_mapFields hd _)),(Obj.cls_mapFields ..).trans hc,by
  rw [Obj.data_mapFields hd];simp [rawInt]⟩
theorem nextOf_tuple_end {it t:Addr} {i:Nat} {items} {Q:Value→Shared→Prop} (hh:A.handled=none)
  (hit:s.heap.IsTupleIter it t i) (ht:s.heap.IsTuple t items) (hx:items[i]?=none)
  (hE:∀ h' e,Heap.ExtBut it s.heap h'→(∃ o,h'.get? e=some o∧o.cls=.type "StopIteration")→E (.ref e) { s with heap:=h' }) :
  wpAny (model prog w) A (Builtin.SmallTypes.nextOf (.ref it)) Q E s:=by
 obtain ⟨o,ho,hc,hd⟩:=id hit
 obtain ⟨ol,hol,_,nl,hdl⟩:=ht
 unfold Builtin.SmallTypes.nextOf
 refine wpAny_bind (wpAny_callSpecial?_slot (name:=Str.ofString "__next__") hit.typeIs F.slot_tuple_iterator_next
  (wpAny_call_entry F.slot_tuple_iterator_next hit.typeIs F.entry_tuple_iterator_next ?_ (F.args_tuple_iterator_next_1 _)))
 show wpAny _ _ (field (.ref it) 0 >>= _) _ _ s
 refine wpAny_bind (wpAny_field ho hd (x:=.ref t) rfl ?_)
 show wpAny _ _ (if (Value.ref t == Value.none)=true then _ else _) _ _ s
 rw [if_neg (show ¬ ((Value.ref t == Value.none)=true) from Bool.false_ne_true)]
 show wpAny _ _ (field (.ref it) 1 >>= _) _ _ s
 refine wpAny_bind (wpAny_field ho hd (x:=.int i 0) rfl ?_)
 show wpAny _ _ (seqItems? (.ref t) >>= _) _ _ s
 refine wpAny_bind (wpAny_seqItems hol hdl ?_)
 simp only [Int.toNat_natCast,hx]
 refine wpAny_bind (wpAny_rule (wpAny_bind (wpAny_setField ho hd (by simp) ?_)))
 show wpAny _ _ (newExc (.type "StopIteration") [] >>= _) _ _ _
 refine wpAny_bind ?_
 simp only [newExc,newTuple]
 refine wpAny_bind (wpAny_newObj_type ?_ (by size_fits))
 refine wpAny_bind (m:=firstArgMember _ _) (wpAny_of_eq (a:=Value.none) (by first|rfl|(simp only [firstArgMember];rfl)) ?_)
 refine wpAny_newObj_type ?_ (by size_fits)
 simp only [raiseNew]
 refine wpAny_bind (wpAny_handled ?_)
 first|rw [show A.in1.handled=none from hh]|rw [hh]
 refine wpAny_bind (wpAny_pure (wpAny_throw ?_))
 exact hE _ _ (((Heap.SameBut.update ..).extBut.push _).push _) ⟨_,Heap.get?_push_size _ rfl,rfl⟩
theorem sub_item {k:Bool} {it a:Addr} {i:Nat} {xs:Array Value} {x:Value} {Q:Value→Shared→Prop} (hit:ItAt k s.heap it a i) (hs:SrcOf k s.heap a xs) (hx:xs[i]?=some x)
  (hQ:∀ h',ItAt k h' it a (i+1)→Heap.SameBut it s.heap h'→Q x { s with heap:=h' }):wpAny (model prog w) A (Builtin.SmallTypes.nextOf (.ref it)) Q E s:=by
 cases k with
 | true=>exact nextOf_tuple_item hit hs hx hQ
 | false=>exact wpAny_nextOf_list_item hit hs hx hQ
theorem sub_end {k:Bool} {it a:Addr} {i:Nat} {xs:Array Value} {Q:Value→Shared→Prop} (hh:A.handled=none) (hit:ItAt k s.heap it a i) (hs:SrcOf k s.heap a xs) (hx:xs[i]?=none)
  (hE:∀ h' e,Heap.ExtBut it s.heap h'→(∃ o,h'.get? e=some o∧o.cls=.type "StopIteration")→E (.ref e) { s with heap:=h' }):wpAny (model prog w) A (Builtin.SmallTypes.nextOf (.ref it)) Q E s:=by
 cases k with
 | true=>exact nextOf_tuple_end hh hit hs hx hE
 | false=>exact wpAny_nextOf_list_end hh hit hs hx hE
theorem upd_tup {T:Addr} {vs:Array Value} {x:Value} {k:Nat} {Q:Unit→Shared→Prop} (hT:IsT s.heap T vs) (hz:vs.size≤8)
  (h:∀ h',IsT h' T (vs.setIfInBounds k x)→Heap.SameBut T s.heap h'→Q () { s with heap:=h' }):wpAny (model prog w) A (updateSeq T (·.setIfInBounds k x)) Q E s:=by
 have hz2:vs.size≤sizeLine:=Nat.le_trans hz (by decide)
 refine wpAny_updateSeq (hz:=hz2) (_hz':=by simp only [Array.size_setIfInBounds];lia) hT rfl (h _ ?_ (Heap.SameBut.update ..))
 show (s.heap.update T _).get? T=_
 rw [Heap.get?_update_self _ hT rfl]
 simp [Obj.mapSeq]
structure Zip2 (k1 k2:Bool) (n a b:Nat) (i:Nat) (f0:Value) (h:Heap):Prop where
 z:IsZip h (n+4) (n+2) (n+3) f0
 ti:IsT h (n+2) #[.ref n,.ref (n+1)]
 to:∃ u v,IsT h (n+3) #[u,v]
 i1:ItAt k1 h n a i
 i2:ItAt k2 h (n+1) b i
noncomputable def Off (l:List Addr) (h h':Heap):Prop:=∀ c o,c∉l→h.get? c=some o→h'.get? c=some o
theorem Off.of {c:Addr} {l:List Addr} {h h':Heap} (s:Heap.SameBut c h h') (hc:c∈l):Off l h h':=fun b o hb e=>(s.2 b fun z=>hb (z ▸ hc)).trans e
theorem Off.trans {l:List Addr} {h h1 h2:Heap} (a:Off l h h1) (b:Off l h1 h2):Off l h h2:=fun c o hc e=>b c o hc (a c o hc e)
theorem Off.push {l:List Addr} {h:Heap} (o:Obj):Off l h (h.push o):=fun _ _ _ e=>Heap.get?_push_of_some _ e
theorem zip2_next {k1 k2:Bool} {n a b:Nat} {i:Nat} {xs ys:Array Value} {x y:Value} {Q:Value→Shared→Prop} (Z:Zip2 k1 k2 n a b i .none s.heap) (ha:a<n) (hb:b<n)
  (h1:SrcOf k1 s.heap a xs) (h2:SrcOf k2 s.heap b ys) (hx:xs[i]?=some x) (hy:ys[i]?=some y)
  (hQ:∀ h',Zip2 k1 k2 n a b (i+1) (rawInt s.heap.objs.size) h'→IsT h' s.heap.objs.size #[x,y]→h'.objs.size=s.heap.objs.size+1→Off [n,n+1,n+3,n+4] s.heap h'→Q (.ref s.heap.objs.size) { s with heap:=h' }) :
  wpAny (model prog w) A (Builtin.«zip.__next__» ⟨[.ref (n+4)],[]⟩) (fun fin s'=>∃ v,fin=.done (.ret v)∧Q v s') E s:=by
 obtain ⟨hz,hTI,⟨u,v,hTO⟩,hi1,hi2⟩:=Z
 show wpAny _ _ (field (.ref (n+4)) 2 >>= _) _ _ _
 refine wpAny_bind (wpAny_field hz rfl (x:=.bool false) rfl ?_)
 show wpAny _ _ (field (.ref (n+4)) 3 >>= _) _ _ _
 refine wpAny_bind (wpAny_field hz rfl (x:=.ref (n+2)) rfl ?_)
 refine wpAny_bind (wpAny_seqItems hTI rfl ?_)
 show wpAny _ _ (Builtin.SmallTypes.ownedTupleIsFree (.ref (n+4)) >>= _) _ _ _
 refine wpAny_bind ?_
 unfold Builtin.SmallTypes.ownedTupleIsFree
 refine wpAny_bind (wpAny_field hz rfl (x:=.none) rfl (wpAny_pure ?_))
 simp only [if_true]
 refine wpAny_bind (wpAny_rule ?_)
 refine wpAny_bind (wpAny_field hz rfl (x:=.ref (n+3)) rfl ?_)
 refine wpAny_bind (wpAny_setField_rec hz (by simp) fun g1 hz1 hs1=>?_)
 replace hz1:IsZip g1 (n+4) (n+2) (n+3) .ellipsis:=hz1
 refine wpAny_bind ?_
 simp only [List.zipIdx_cons,List.zipIdx_nil,List.forIn_cons,List.forIn_nil]
 refine wpAny_bind (wpAny_bind (wpAny_onRaise ?_))
 show wpAny _ _ (Builtin.SmallTypes.nextOf (.ref n) >>= _) _ _ _
 refine wpAny_bind (sub_item (hi1.keep fun o e=>(hs1.2 _ (nne (by lia))).trans e) (h1.keep fun o e=>(hs1.2 _ (nne (by lia))).trans e) hx fun g2 hi1' hs2=>wpAny_pure ?_)
 have hTO2:IsT g2 (n+3) #[u,v]:=(hs2.2 _ (nne (by lia))).trans ((hs1.2 _ (nne (by lia))).trans hTO)
 refine wpAny_bind (wpAny_seqItems hTO2 rfl ?_)
 refine wpAny_bind (upd_tup hTO2 (by simp) fun g3 hTO3 hs3=>?_)
 replace hTO3:IsT g3 (n+3) #[x,v]:=hTO3
 refine wpAny_bind (wpAny_letGo (wpAny_pure ?_))
 refine wpAny_bind (wpAny_bind (wpAny_onRaise ?_))
 show wpAny _ _ (Builtin.SmallTypes.nextOf (.ref (n+1)) >>= _) _ _ _
 refine wpAny_bind (sub_item (hi2.keep fun o e=>(hs3.2 _ (nne (by lia))).trans ((hs2.2 _ (nne (by lia))).trans ((hs1.2 _ (nne (by lia))).trans e))) (h2.keep fun o e=>(hs3.2 _ (nne (by lia))).trans ((hs2.2 _ (nne (by lia))).trans ((hs1.2 _ (nne (by lia))).trans e))) hy fun g4 hi2' hs4=>wpAny_pure ?_)
 have hTO4:IsT g4 (n+3) #[x,v]:=(hs4.2 _ (nne (by lia))).trans hTO3
 refine wpAny_bind (wpAny_seqItems hTO4 rfl ?_)
 refine wpAny_bind (upd_tup hTO4 (by simp) fun g5 hTO5 hs5=>?_)
 replace hTO5:IsT g5 (n+3) #[x,y]:=hTO5
 refine wpAny_bind (wpAny_letGo (wpAny_pure (wpAny_pure ?_)))
 refine wpAny_bind (wpAny_seqItems hTO5 rfl ?_)
 refine wpAny_bind (wpAny_newTuple ?_)
 have hsz:g5.objs.size=s.heap.objs.size:=by rw [hs5.1,hs4.1,hs3.1,hs2.1,hs1.1]
 have hz5:IsZip g5 (n+4) (n+2) (n+3) .ellipsis:=(hs5.2 _ (nne (by lia))).trans ((hs4.2 _ (nne (by lia))).trans ((hs3.2 _ (nne (by lia))).trans ((hs2.2 _ (nne (by lia))).trans hz1)))
 have off5:Off [n,n+1,n+3,n+4] s.heap g5:=((((Off.of hs1 (by simp)).trans (Off.of hs2 (by simp))).trans (Off.of hs3 (by simp))).trans (Off.of hs4 (by simp))).trans (Off.of hs5 (by simp))
 have hzlt:n+4<g5.objs.size:=Heap.lt_size hz5
 show wpAny _ _ (Builtin.SmallTypes.ownedTupleHandOut (.ref (n+4)) (.ref g5.objs.size) >>= _) _ _ _
 refine wpAny_bind ?_
 unfold Builtin.SmallTypes.ownedTupleHandOut
 have hz6:IsZip (g5.push { cls:=.type "tuple",data:=.seq #[x,y] }) (n+4) (n+2) (n+3) .ellipsis:=Heap.get?_push_of_some _ hz5
 refine wpAny_bind (wpAny_setField_rec hz6 (by simp) fun g7 hz7 hs7=>?_)
 replace hz7:IsZip g7 (n+4) (n+2) (n+3) (rawInt g5.objs.size):=hz7
 refine wpAny_setField_rec hz7 (by simp) fun g8 hz8 hs8=>?_
 replace hz8:IsZip g8 (n+4) (n+2) (n+3) (rawInt g5.objs.size):=hz8
 have up:∀ c o,c≠n+4→g5.get? c=some o→g8.get? c=some o:=fun c o c1 e=>(hs8.2 _ c1).trans ((hs7.2 _ c1).trans (Heap.get?_push_of_some _ e))
 have hT8:IsT g8 g5.objs.size #[x,y]:=(hs8.2 _ (Nat.ne_of_gt hzlt)).trans ((hs7.2 _ (Nat.ne_of_gt hzlt)).trans (Heap.get?_push_size _ rfl))
 have hz8':g8.objs.size=g5.objs.size+1:=by rw [hs8.1,hs7.1,Heap.size_push]
 rw [hsz] at hz8 hT8 hz8'
 refine wpAny_pure ⟨_,rfl,?_⟩
 show Q (.ref g5.objs.size) _
 rw [hsz]
 refine hQ g8 ⟨hz8,up _ _ (nne (by lia)) (off5 _ _ (by simp) hTI),⟨x,y,up _ _ (nne (by lia)) hTO5⟩,?_,?_⟩ hT8 hz8' fun c o hc e=>?_
 ·exact hi1'.keep fun o e=>up _ o (nne (by lia)) ((hs5.2 _ (nne (by lia))).trans ((hs4.2 _ (nne (by lia))).trans ((hs3.2 _ (nne (by lia))).trans e)))
 ·exact hi2'.keep fun o e=>up _ o (nne (by lia)) ((hs5.2 _ (nne (by lia))).trans e)
 ·exact up c o (fun z=>hc (by simp [z])) (off5 c o hc e)
theorem zip2_stop {k1 k2:Bool} {n a b:Nat} {i:Nat} {xs ys:Array Value} {Q:Fin→Shared→Prop} (hh:A.handled=none) (Z:Zip2 k1 k2 n a b i .none s.heap) (ha:a<n) (hb:b<n)
  (h1:SrcOf k1 s.heap a xs) (h2:SrcOf k2 s.heap b ys) (hend:xs[i]?=none∨ys[i]?=none)
  (hE:∀ h' e,Off [n,n+1,n+3,n+4] s.heap h'→(∃ o,h'.get? e=some o∧o.cls=.type "StopIteration")→E (.ref e) { s with heap:=h' }) :
  wpAny (model prog w) A (Builtin.«zip.__next__» ⟨[.ref (n+4)],[]⟩) Q E s:=by
 obtain ⟨hz,hTI,⟨u,v,hTO⟩,hi1,hi2⟩:=Z
 show wpAny _ _ (field (.ref (n+4)) 2 >>= _) _ _ _
 refine wpAny_bind (wpAny_field hz rfl (x:=.bool false) rfl ?_)
 show wpAny _ _ (field (.ref (n+4)) 3 >>= _) _ _ _
 refine wpAny_bind (wpAny_field hz rfl (x:=.ref (n+2)) rfl ?_)
 refine wpAny_bind (wpAny_seqItems hTI rfl ?_)
 show wpAny _ _ (Builtin.SmallTypes.ownedTupleIsFree (.ref (n+4)) >>= _) _ _ _
 refine wpAny_bind ?_
 unfold Builtin.SmallTypes.ownedTupleIsFree
 refine wpAny_bind (wpAny_field hz rfl (x:=.none) rfl (wpAny_pure ?_))
 simp only [if_true]
 refine wpAny_bind (wpAny_rule ?_)
 refine wpAny_bind (wpAny_field hz rfl (x:=.ref (n+3)) rfl ?_)
 refine wpAny_bind (wpAny_setField_rec hz (by simp) fun g1 hz1 hs1=>?_)
 replace hz1:IsZip g1 (n+4) (n+2) (n+3) .ellipsis:=hz1
 refine wpAny_bind ?_
 simp only [List.zipIdx_cons,List.zipIdx_nil,List.forIn_cons,List.forIn_nil]
 refine wpAny_bind (wpAny_bind (wpAny_onRaise ?_))
 show wpAny _ _ (Builtin.SmallTypes.nextOf (.ref n) >>= _) _ _ _
 have fin:∀ {g h':Heap} {e:Addr},IsZip g (n+4) (n+2) (n+3) .ellipsis→(∃ o,g.get? e=some o∧o.cls=.type "StopIteration")→Off [n,n+1,n+3,n+4] s.heap g→∀ s':Shared,s'={ s with heap:=g } →
   wpAny (model prog w) A (setField (.ref (n+4)) 0 .none) (fun _ s'=>E (.ref e) s') E s':=by
  intro g h' e hzg ⟨oe,hoe,hce⟩ off s' es
  subst es
  have hez:e≠n+4:=fun z=>by subst z;rw [hzg] at hoe;cases hoe;simp at hce
  exact wpAny_setField_rec hzg (by simp) fun g9 _ hs9=>hE g9 e (off.trans (Off.of hs9 (by simp))) ⟨oe,(hs9.2 _ hez).trans hoe,hce⟩
 cases hx:xs[i]? with
 | none =>
  refine wpAny_bind (sub_end hh (hi1.keep fun o e=>(hs1.2 _ (nne (by lia))).trans e) (h1.keep fun o e=>(hs1.2 _ (nne (by lia))).trans e) hx fun g2 e hs2 he=>?_)
  exact fin (h':=g2) (hs2 _ _ (nne (by lia)) hz1) he ((Off.of hs1 (by simp)).trans fun c o hc q=>hs2 c o (fun z=>hc (by simp [z])) q) _ rfl
 | some x =>
  have hy:ys[i]?=none:=by rcases hend with h|h;rw [hx] at h;cases h;exact h
  refine wpAny_bind (sub_item (hi1.keep fun o e=>(hs1.2 _ (nne (by lia))).trans e) (h1.keep fun o e=>(hs1.2 _ (nne (by lia))).trans e) hx fun g2 hi1' hs2=>wpAny_pure ?_)
  have hTO2:IsT g2 (n+3) #[u,v]:=(hs2.2 _ (nne (by lia))).trans ((hs1.2 _ (nne (by lia))).trans hTO)
  refine wpAny_bind (wpAny_seqItems hTO2 rfl ?_)
  refine wpAny_bind (upd_tup hTO2 (by simp) fun g3 hTO3 hs3=>?_)
  refine wpAny_bind (wpAny_letGo (wpAny_pure ?_))
  refine wpAny_bind (wpAny_bind (wpAny_onRaise ?_))
  show wpAny _ _ (Builtin.SmallTypes.nextOf (.ref (n+1)) >>= _) _ _ _
  refine wpAny_bind (sub_end hh (hi2.keep fun o e=>(hs3.2 _ (nne (by lia))).trans ((hs2.2 _ (nne (by lia))).trans ((hs1.2 _ (nne (by lia))).trans e))) (h2.keep fun o e=>(hs3.2 _ (nne (by lia))).trans ((hs2.2 _ (nne (by lia))).trans ((hs1.2 _ (nne (by lia))).trans e))) hy fun g4 e hs4 he=>?_)
  exact fin (h':=g4) (hs4 _ _ (nne (by lia)) ((hs3.2 _ (nne (by lia))).trans ((hs2.2 _ (nne (by lia))).trans hz1))) he ((((Off.of hs1 (by simp)).trans (Off.of hs2 (by simp))).trans (Off.of hs3 (by simp))).trans fun c o hc q=>hs4 c o (fun z=>hc (by simp [z])) q) _ rfl
theorem pyNext_zip2 {k1 k2:Bool} {n a b:Nat} {i:Nat} {xs ys:Array Value} {x y:Value} {Q:Option Value→Shared→Prop} (Z:Zip2 k1 k2 n a b i .none s.heap) (ha:a<n) (hb:b<n)
  (h1:SrcOf k1 s.heap a xs) (h2:SrcOf k2 s.heap b ys) (hx:xs[i]?=some x) (hy:ys[i]?=some y)
  (hQ:∀ h',Zip2 k1 k2 n a b (i+1) (rawInt s.heap.objs.size) h'→IsT h' s.heap.objs.size #[x,y]→h'.objs.size=s.heap.objs.size+1→Off [n,n+1,n+3,n+4] s.heap h'→Q (some (.ref s.heap.objs.size)) { s with heap:=h' }) :
  wpAny (model prog w) A (pyNext (.ref (n+4))) Q E s:=by
 have hT:s.TypeIs (.ref (n+4)) "zip":=⟨_,Z.z,rfl⟩
 unfold pyNext
 exact wpAny_bind (wpAny_attempt (wpAny_callSpecial?_slot (name:=Str.ofString "__next__") hT F.slot_zip_next
  (wpAny_call_entry F.slot_zip_next hT F.entry_zip_next
   (zip2_next Z ha hb h1 h2 hx hy fun h' a1 a2 a3 a4=>wpAny_pure (hQ h' a1 a2 a3 a4)) (F.args_zip_next_1 _))))
theorem pyNext_zip2_end {k1 k2:Bool} {n a b:Nat} {i:Nat} {xs ys:Array Value} {Q:Option Value→Shared→Prop} (hh:A.handled=none) (Z:Zip2 k1 k2 n a b i .none s.heap) (ha:a<n) (hb:b<n)
  (h1:SrcOf k1 s.heap a xs) (h2:SrcOf k2 s.heap b ys) (hend:xs[i]?=none∨ys[i]?=none)
  (hQ:∀ h',Off [n,n+1,n+3,n+4] s.heap h'→Q none { s with heap:=h' }):wpAny (model prog w) A (pyNext (.ref (n+4))) Q E s:=by
 have hT:s.TypeIs (.ref (n+4)) "zip":=⟨_,Z.z,rfl⟩
 unfold pyNext
 refine wpAny_bind (wpAny_attempt (wpAny_callSpecial?_slot (name:=Str.ofString "__next__") hT F.slot_zip_next
  (wpAny_call_entry F.slot_zip_next hT F.entry_zip_next (zip2_stop (A:=A.in1) hh Z ha hb h1 h2 hend fun h' e hk he=>?_) (F.args_zip_next_1 _))))
 obtain ⟨o,ho,hc⟩:=he
 refine wpAny_bind (wpAny_isInstance (T:="StopIteration") (b:=true) ⟨o,ho,hc⟩ isSubtype_stop ?_)
 exact wpAny_pure (hQ _ hk)
end
noncomputable abbrev zh5 (k1 k2:Bool) (h:Heap) (a b:Addr):Heap:=((((h.push (itObj k1 a)).push (itObj k2 b)).push { cls:=.type "tuple",data:=.seq #[.ref h.objs.size,.ref (h.objs.size+1)] }).push { cls:=.type "tuple",data:=.seq #[.none,.none] }).push
 { cls:=.type "zip",data:=.fields #[.none,.bool false,.bool false,.ref (h.objs.size+2),.ref (h.objs.size+3)] }
theorem zip2_made (k1 k2:Bool) (a b:Addr) (xs ys:Array Value) :
  Meets (Builtin.«zip.__new__» ⟨[.type "zip",.ref a,.ref b],[]⟩) (fun _ R s=>SrcOf k1 s.heap a xs∧SrcOf k2 s.heap b ys ∧
   R (.ok (.ret (.ref (s.heap.objs.size+4)))) { s with heap:=zh5 k1 k2 s.heap a b }) :=
 .of_wp fun prog w A R s h=>by
  obtain ⟨hp,g,d,tk,os⟩:=s;obtain ⟨hl1,hl2,h⟩:=h
  have hsub:=sub_zip
  have hL1:SrcOf k1 (Shared.heap ⟨hp,g,d,tk,os⟩) a xs:=hl1
  have hL2:SrcOf k2 (Shared.heap ⟨hp.push (itObj k1 a),g,d,tk,os⟩) b ys:=SrcOf.keep hl2 fun o e=>Heap.get?_push_of_some _ e
  wp_walk using src_iter hL1,src_iter hL2
  refine⟨_,rfl,?_⟩
  simp only [Heap.size_push]
  exact h
end L2
namespace L2
open PySem PySem.Spec PyProof.Rows
noncomputable def Sq (k:Bool) (K:PySem.W.Frag) (H:Hp) (a:Addr) (xs:List V):Prop:=match k with|true=>SqT K H a xs|false=>SqL K H a xs
section
variable {X:Cx} {pins:List (Addr×Obj)} {σ:St} {H H':Hp} {s:Shared}
theorem Inv.sq {k:Bool} {a:Addr} {xs:List V} (I:Inv X pins σ H s) (h:Sq k X.K H a xs):∃ its:List Value,Vals xs its∧SrcOf k s.heap a its.toArray∧xs.length≤sizeLine:=by
 cases k with
 | true=>exact I.tuple h
 | false =>
  obtain ⟨its,r,p,z⟩:=I.list h
  exact⟨its,r,p.isList,z⟩
theorem Inv.sq_inj {k:Bool} {a:Addr} {xs ys:List V} (I:Inv X pins σ H s) (h:Sq k X.K H a xs) (h':Sq k X.K H a ys):xs=ys:=by
 cases k with
 | true=>exact I.tuple_inj h h'
 | false=>exact I.list_inj h h'
theorem Inv.off {h':Heap} {t':Nat} {ch:List Addr} (I:Inv X pins σ H s) (hf:∀ b∈ch,FpOk X pins H b) (off:Off ch s.heap h') (hok:HOk X.prog X.w H' h')
  (free:∀ b o,b∉ch→s.heap.get? b=some o→H b=none→H' b=none) (same:∀ b o,H b=some o→H' b=some o):Inv X pins σ H' { s with heap:=h',toks:=t' }:=by
 refine I.step (g':=s.gens) (d':=s.drawn) (ch:=ch) (fun b hb=>?_) (fun b o _ _ hc e _=>off b o hc e) (fun b o _ _ hc e _=>⟨o.slots,off b o hc e⟩) (fun b o hc e n=>free b o hc e n) (fun b o hc e=>⟨o,off b o hc e⟩)
  (fun b xs e=>same b _ e) (fun b o u e=>same b _ e) (fun b ps e=>⟨#[],by rw [same b _ e];simp⟩) (fun m hm=>?_) hok I.bare
 ·obtain ⟨f0,f1,f2,f3,f4,f5⟩:=hf b hb
  exact⟨f3,f1,f4,f5⟩
 ·obtain ⟨o,es,ep,ho,r⟩:=hm
  exact⟨o,es,ep,off _ o (fun z=>(hf _ z).2.1 rfl) ho,r⟩
theorem HOk.off {P:Program} {w:World} {h h':Heap} {ch:List Addr} (x:HOk P w H h) (hn:∀ b∈ch,H b=none) (off:Off ch h h'):HOk P w H h':=fun a o e=>by
 have na:∀ b u,H b=some u→b∉ch:=fun b u q z=>by rw [hn b z] at q;cases q
 refine (x a o e).stay (fun b u hb q=>off b u ?_ q) (fun _ q=>q) fun _ _ q=>q
 rcases hb with rfl|hb
 ·exact na _ _ e
 ·exact na _ _ hb
theorem HOk.offNew {P:Program} {w:World} {h h':Heap} {ch:List Addr} {T:Addr} {ob:HO} (x:HOk P w H h) (hn:∀ b∈ch,H b=none) (off:Off ch h h') (hT:h.objs.size≤T) (new:ObjOk P w (upd H T ob) h' T ob):HOk P w (upd H T ob) h':=fun a o e=>by
 have hTn:=x.fresh hT
 have na:∀ b u,H b=some u→b∉ch:=fun b u q z=>by rw [hn b z] at q;cases q
 by_cases ha:a=T
 ·subst ha;rw [upd_same] at e;cases e;exact new
 ·rw [upd_ne ha] at e
  refine (x a o e).stay (fun b u hb q=>off b u ?_ q) (fun c q=>by rw [upd_ne (ne_of_none q hTn)];exact q) fun c xs q=>by rw [upd_ne (ne_of_none q hTn)];exact q
  rcases hb with rfl|hb
  ·exact na _ _ e
  ·exact na _ _ hb
end
theorem off_mem {c:Addr} {n:Nat} (z:c∈([n,n+1,n+3,n+4]:List Addr)):c∈([n+4,n+2,n+3,n,n+1]:List Addr):=by
 simp only [List.mem_cons,List.not_mem_nil,or_false] at z ⊢
 rcases z with h|h|h|h <;> simp [h]
noncomputable def Itz (K : PySem.W.Frag) (k1 k2 : Bool) (a b : Addr) : It :=
  ⟨fun i H => ∃ xs ys x y, Sq k1 K H a xs ∧ Sq k2 K H b ys ∧ xs[i]?=some x ∧ ys[i]?=some y,
   fun i H v H' => ∃ p x y, v=.ref p ∧ H p=none ∧ (∀ xs, Sq k1 K H a xs → xs[i]?=some x) ∧ (∀ ys, Sq k2 K H b ys → ys[i]?=some y) ∧ H'=upd H p (.tup [x, y]),
   fun i H => ∃ xs ys, Sq k1 K H a xs ∧ Sq k2 K H b ys ∧ (xs.length ≤ i ∨ ys.length ≤ i)⟩
theorem turn_zip2 {P:Program} {w:World} {K:PySem.W.Frag} {es:List Expr} {kk:Nat} {pos:Pos} {k1 k2:Bool} (n a b:Nat) (ha:a<n) (hb:b<n) :
  Turn P w K (.Tuple es kk pos) (Itz K k1 k2 a b) [n+4,n+2,n+3,n,n+1] (n+4) (fun i h=>Zip2 k1 k2 n a b i .none h) where
 mem:=by simp
 obj:=fun i h st c hc=>by
  obtain ⟨hz,hTI,⟨u,v,hTO⟩,hi1,hi2⟩:=st
  simp only [List.mem_cons,List.not_mem_nil,or_false] at hc
  rcases hc with rfl|rfl|rfl|rfl|rfl
  ·exact⟨_,hz,fun v z=>nomatch z⟩
  ·exact⟨_,hTI,fun v z=>nomatch z⟩
  ·exact⟨_,hTO,fun v z=>nomatch z⟩
  ·exact hi1.obj
  ·exact hi2.obj
 keep:=fun i h h' st k=>by
  obtain ⟨hz,hTI,⟨u,v,hTO⟩,hi1,hi2⟩:=st
  exact⟨k _ (by simp) _ hz,k _ (by simp) _ hTI,⟨u,v,k _ (by simp) _ hTO⟩,hi1.keep fun o e=>k _ (by simp) o e,hi2.keep fun o e=>k _ (by simp) o e⟩
 item:=by
  intro X hP hw hK hc i pins s σ H E I hf st hg
  subst hP hw hK
  obtain ⟨xs,ys,x,y,qx,qy,ex,ey⟩:=hg
  obtain ⟨is1,r1,s1,_⟩:=I.sq qx
  obtain ⟨is2,r2,s2,_⟩:=I.sq qy
  obtain ⟨u,hu,ru⟩:=r1.get ex
  obtain ⟨v,hv,rv⟩:=r2.get ey
  refine pyNext_zip2 st ha hb s1 s2 (x:=u) (y:=v) (by simpa using hu) (by simpa using hv) fun h' Z hT hsz off=>⟨_,rfl,?_⟩
  have hTn:H s.heap.objs.size=none:=I.hok.fresh (Nat.le_refl _)
  have zlt:n+4<s.heap.objs.size:=Heap.lt_size st.z
  refine wpAny_letOwnedTupleGo_zip Z.z fun h2 hz2 hs2=>?_
  have off2:Off [n+4,n+2,n+3,n,n+1] s.heap h2:=fun c o hc e=>(hs2.2 c fun z=>hc (by simp [z])).trans (off c o (fun z=>hc (off_mem z)) e)
  have hT2:IsT h2 s.heap.objs.size #[u,v]:=(hs2.2 _ (Nat.ne_of_gt zlt)).trans hT
  refine⟨.ref s.heap.objs.size,upd H s.heap.objs.size (.tup [x,y]),?_,rfl,⟨_,x,y,rfl,hTn,fun zs hzs=>by rw [I.sq_inj hzs qx];exact ex,fun zs hzs=>by rw [I.sq_inj hzs qy];exact ey,rfl⟩,?_,fun c hc=>?_⟩
  ·refine Inv.off (s:=s) (h':=h2) (t':=s.toks) (ch:=[n+4,n+2,n+3,n,n+1]) I hf off2 (I.hok.offNew (fun c hc=>(hf c hc).1) off2 (Nat.le_refl _) ?_) (fun c o _ e hn=>?_) fun c o e=>?_
   ·exact⟨by show 2≤sizeLine;decide,[u,v],.cons ru (.cons rv .nil),⟨_,hT2,rfl,_,rfl⟩⟩
   ·rw [upd_ne (Nat.ne_of_lt (Heap.lt_size e))];exact hn
   ·rw [upd_ne (ne_of_none e hTn)];exact e
  ·obtain ⟨z1,z2,⟨a1,a2,z3⟩,z4,z5⟩:=Z
   exact⟨hz2,(hs2.2 _ (nne (by lia))).trans z2,⟨a1,a2,(hs2.2 _ (nne (by lia))).trans z3⟩,z4.keep fun o e=>(hs2.2 _ (nne (by lia))).trans e,z5.keep fun o e=>(hs2.2 _ (nne (by lia))).trans e⟩
  ·have cn:c≠s.heap.objs.size:=by
    simp only [List.mem_cons,List.not_mem_nil,or_false] at hc
    rcases hc with rfl|rfl|rfl|rfl|rfl <;> exact nne (by lia)
   rw [upd_ne cn];exact (hf c hc).1
 done:=by
  intro X hP hw hK hc i pins s σ H E I hf st hg
  subst hP hw hK
  obtain ⟨xs,ys,qx,qy,hend⟩:=hg
  obtain ⟨is1,r1,s1,_⟩:=I.sq qx
  obtain ⟨is2,r2,s2,_⟩:=I.sq qy
  have e1:=r1.length
  have e2:=r2.length
  refine pyNext_zip2_end (I.ok.hd hc) st ha hb s1 s2 ?_ fun h' off=>⟨rfl,?_⟩
  ·rcases hend with z|z
   ·exact .inl (by simp;lia)
   ·exact .inr (by simp;lia)
  ·have off2:Off [n+4,n+2,n+3,n,n+1] s.heap h':=fun c o hc e=>off c o (fun z=>hc (off_mem z)) e
   exact Inv.off (s:=s) (t':=s.toks) I hf off2 (I.hok.off (fun c hc=>(hf c hc).1) off2) (fun _ _ _ _ q=>q) fun _ _ q=>q
 self:=fun _ _ _ _ _ st h=>wpAny_pyIter_zip st.z h
section
variable {X:Cx}
noncomputable def iZip2 (K:PySem.W.Frag) (k1 k2:Bool) (ta:TA):TI:=fun σ H R=>ta σ H fun vs H1=>∃ a b,vs=[.ref a,.ref b]∧(∃ xs,Sq k1 K H1 a xs)∧(∃ ys,Sq k2 K H1 b ys)∧R (Itz K k1 k2 a b) H1
theorem pi_zip2 (k1 k2:Bool) {es:List Expr} {kk:Nat} {tpos:Pos} {a b:Expr} {ta:TA} {p pos:Pos} (hg:Gl X "zip") (hm:X.mg "zip"=none) (ha:PA X [a,b] ta) (hs:starEach [a,b] X.env=[(false,eval a X.env),(false,eval b X.env)]:=by rfl) (hs2:starEach [b] X.env=[(false,eval b X.env)]:=by rfl) :
  PI X (.Tuple es kk tpos) (.Call (.Name "zip" p) [a,b] [] pos) (iZip2 X.K k1 k2 ta):=by
 intro pins s σ H R I h
 refine Call_ (ld_blt I hg hm boot_zip (PyProof.Rows.callWith_type1 (thn (ha pos pins s σ H _ I h) fun us s1 ⟨vs,H1,I1,r1,q1⟩=>?_) (by rw [hs,hs2]) (by rw [hs2];rfl)))
 obtain ⟨a',b',e,⟨xs,qx⟩,⟨ys,qy⟩,q⟩:=q1
 subst e
 obtain ⟨u,v,rfl,ru,rv⟩:=vals2 r1
 cases ru
 cases rv
 obtain ⟨is1,r1,s1',_⟩:=I1.sq qx
 obtain ⟨is2,r2,s2',_⟩:=I1.sq qy
 refine callType_new PySem.F.called_zip (by decide) (PySem.F.typeCall_zip_2 _ _) (PySem.F.newCall_zip_2 _ _) (fun obj=>PySem.F.args_object_init_3 obj _ _) PySem.F.entry_zip_new (zip2_made k1 k2 a' b' is1.toArray is2.toArray) ⟨s1',s2',?_⟩
 have z1:(s1.heap.push (itObj k1 a')).objs.size=s1.heap.objs.size+1:=Heap.size_push ..
 have z2:((s1.heap.push (itObj k1 a')).push (itObj k2 b')).objs.size=s1.heap.objs.size+2:=by rw [Heap.size_push,z1]
 have z3:(((s1.heap.push (itObj k1 a')).push (itObj k2 b')).push { cls:=.type "tuple",data:=.seq #[.ref s1.heap.objs.size,.ref (s1.heap.objs.size+1)] }).objs.size=s1.heap.objs.size+3:=by rw [Heap.size_push,z2]
 have z4:((((s1.heap.push (itObj k1 a')).push (itObj k2 b')).push { cls:=.type "tuple",data:=.seq #[.ref s1.heap.objs.size,.ref (s1.heap.objs.size+1)] }).push { cls:=.type "tuple",data:=.seq #[.none,.none] }).objs.size=s1.heap.objs.size+4:=by rw [Heap.size_push,z3]
 have g5:(zh5 k1 k2 s1.heap a' b').get? (s1.heap.objs.size+4)=some { cls:=.type "zip",data:=.fields #[.none,.bool false,.bool false,.ref (s1.heap.objs.size+2),.ref (s1.heap.objs.size+3)] }:=by rw [← z4];exact Heap.get?_push_size _ rfl
 have g4:(zh5 k1 k2 s1.heap a' b').get? (s1.heap.objs.size+3)=some { cls:=.type "tuple",data:=.seq #[.none,.none] }:=by rw [← z3];exact Heap.get?_push_of_some _ (Heap.get?_push_size _ rfl)
 have g3:(zh5 k1 k2 s1.heap a' b').get? (s1.heap.objs.size+2)=some { cls:=.type "tuple",data:=.seq #[.ref s1.heap.objs.size,.ref (s1.heap.objs.size+1)] }:=by rw [← z2];exact Heap.get?_push_of_some _ (Heap.get?_push_of_some _ (Heap.get?_push_size _ rfl))
 have g2:(zh5 k1 k2 s1.heap a' b').get? (s1.heap.objs.size+1)=some (itObj k2 b'):=by rw [← z1];exact Heap.get?_push_of_some _ (Heap.get?_push_of_some _ (Heap.get?_push_of_some _ (Heap.get?_push_size _ (by cases k2 <;> rfl))))
 have g1:(zh5 k1 k2 s1.heap a' b').get? s1.heap.objs.size=some (itObj k1 a'):=Heap.get?_push_of_some _ (Heap.get?_push_of_some _ (Heap.get?_push_of_some _ (Heap.get?_push_of_some _ (Heap.get?_push_size _ (by cases k1 <;> rfl)))))
 have old:∀ c o,s1.heap.get? c=some o→(zh5 k1 k2 s1.heap a' b').get? c=some o:=fun c o x=>Heap.get?_push_of_some _ (Heap.get?_push_of_some _ (Heap.get?_push_of_some _ (Heap.get?_push_of_some _ (Heap.get?_push_of_some _ x))))
 have Z:Zip2 k1 k2 s1.heap.objs.size a' b' 0 .none (zh5 k1 k2 s1.heap a' b'):=⟨g5,g3,⟨_,_,g4⟩,itObj_at g1,itObj_at g2⟩
 show _∧_
 refine⟨⟨_,g5,rfl⟩,wpAny_pyIter_zip Z.z ?_⟩
 refine⟨_,_,_,_,H1,rfl,I1.kept (t':=s1.toks) old,turn_zip2 s1.heap.objs.size a' b' s1'.lt s2'.lt,Z,fun c hc=>?_,q⟩
 have hcl:s1.heap.objs.size≤c:=by
  simp only [List.mem_cons,List.not_mem_nil,or_false] at hc
  rcases hc with rfl|rfl|rfl|rfl|rfl <;> first|exact Nat.le_add_right _ _|exact Nat.le_refl _
 exact I1.fpOk hcl (I1.hok.fresh hcl)
end
end L2
namespace L2
open PySem PySem.Spec PyProof.Rows
noncomputable def bitsI (i:Int):Nat:=Builtin.Int.intBits i
noncomputable def CMulB (i j:Int):Prop:=bitsI i+bitsI j≤1000000
theorem CMulB.ok {i j:Int} (h:CMulB i j):IntMulOk i j:=by
 unfold IntMulOk
 intro z
 simp only [Bool.and_eq_true,decide_eq_true_eq] at z
 have z2:=z.2
 unfold Builtin.Int.intTooBig at z2
 have h':Builtin.Int.intBits i+Builtin.Int.intBits j≤1000000:=h
 have b:(1000000:Int)≤bitsLine:=by decide
 simp only [decide_eq_true_eq] at z2
 lia
section
variable {X:Cx}
theorem op_mulB:OpR X (binaryOp .Mult) (rI CMulB fun i j=>.int (i*j)):=opI fun _ _ _ _ _ _ _ hc q=>mul_int q hc.ok
noncomputable def TyR (K:PySem.W.Frag) (H:Hp) (x:V) (t:Value):Prop:=TyOf K H x t∨(∃ a xs,x=.ref a∧SqT K H a xs∧t=.type "tuple")∨(∃ a xs,x=.ref a∧SqL K H a xs∧t=.type "list")
theorem call_isinst:CallR X (.builtin "isinstance") (fun xs H Q=>∃ x n t b,xs=[x,.ty n]∧TyR X.K H x t∧PySem.W.kitOne X.K t (.type n)=some b∧Q (.bl b) H):=by
 intro pins s σ H xs us Q I r h
 obtain ⟨x,n,t,b,rfl,ty,e,q⟩:=h
 obtain ⟨u,c,rfl,ru,rc⟩:=vals2 r
 obtain rfl:c=Value.type n:=rc
 have fin:∀ tk,EP X pins σ Q (.bool b) { s with toks:=tk }:=fun tk=>⟨.bl b,H,I.tok tk,rfl,q⟩
 rcases ty with ty|⟨a,ys,rfl,hs,rfl⟩|⟨a,ys,rfl,hs,rfl⟩
 ·exact isinst_ok I ru ty e fin
 ·obtain rfl:u=Value.ref a:=ru
  obtain ⟨its,_,p,_⟩:=I.tuple hs
  obtain ⟨o,h1,h2,_⟩:=p
  exact PySem.W.kia_one PySem.W.kitx_tuple I.kIn ⟨o,h1,h2⟩ e (fun z=>nomatch z) fin
 ·obtain rfl:u=Value.ref a:=ru
  obtain ⟨its,_,p,_⟩:=I.list hs
  obtain ⟨o,n',h1,h2,_⟩:=p
  exact PySem.W.kia_one PySem.W.kitx_list I.kIn ⟨o,h1,h2⟩ e (fun z=>nomatch z) fin
end
theorem kit_same (K:PySem.W.Frag) (t:Value):PySem.W.kitOne K t t=some true:=by
 unfold PySem.W.kitOne
 rw [if_pos (by simp)]
end L2
namespace L2
open PySem PySem.Spec PyProof.Rows
noncomputable def Def (K:PySem.W.Frag) (mg:Str→Option Value) (x:Str) (st:Stmt) (ps:List Str):Prop:=∃ f fd,Fun K x x st f fd∧mg x=some (.ref f)∧Binds K fd ps []
noncomputable def Ok (P:Program) (w:World) (K:PySem.W.Frag) (mg:Str→Option Value) (base:Heap) (k:Nat) (x:Str) (ps:List Str) (sp:Sp):Prop :=
 ∃ f fd,FnOk P w K mg base CX0 k f fd ps sp∧mg x=some (.ref f)∧PySem.W.keepIn K (.ref f)=true∧Binds K fd ps []
section
variable {P:Program} {w:World} {K:PySem.W.Frag} {mg:Str→Option Value} {base:Heap}
theorem Def.ok {x:Str} {st:Stmt} {N ps:List Str} {k:Nat} {sp:Sp} (D:Def K mg x st ps) (S:FnScope N ps (defScope st)) (len:∀ vs H Q E,sp vs H Q E→vs.length=ps.length)
  (hbody:∀ (f:Addr) (cdv:Value) (A:Around) (outer:List Env) (s:Shared) (H:Hp) (vs:List V) (Q:VK) (E:XK),Room k (A.deeper (envOfC x (defScope st) s.heap.objs.size f cdv))→sp vs H Q E →
   ∃ t,PSs (cxOf CX0 P w K mg base N x (defScope st) f cdv A outer s H E).nox (defBody st) t∧t { nx:=fun _ H'=>Q .non H',rt:=Q } (start N vs) H):Ok P w K mg base (k+1) x ps sp:=by
 obtain ⟨f,fd,F,hm,hb⟩:=D
 exact⟨f,fd,F.ok S len fun cdv A outer s H vs Q E hr h=>hbody f cdv A outer s H vs Q E hr h,hm,F.kp,hb⟩
end
section
variable {X:Cx} {k:Nat} {x:Str} {ps:List Str} {sp:Sp} {p pos:Pos} {e:Expr} {es:List Expr} {t:TA}
theorem pcall (O:Ok X.prog X.w X.K X.mg X.base k x ps sp) (hr:Room k X.A) (ha:PA X (e::es) t) (hg:Gl X x:=by rfl)
  (hdb:(x == ("__debug__":Str))=false:=by decide) (he:starEach (e::es) X.env=(false,eval e X.env)::starEach es X.env:=by rfl) (hpl:(backTo pos (starEach es X.env)).any (·.1)=false:=by rfl) :
  PE X (.Call (.Name x p) (e::es) [] pos) (tCall sp [] E0 t):=by
 obtain ⟨f,fd,F,hm,hk,hb⟩:=O
 exact pe_call F hr hg hm hk hb .nil pass0 ha hdb he hpl
end
theorem Same.upd_new {H:Hp} {a:Addr} {o:HO} (h:H a=none):Same H (upd H a o):=fun b u e=>by rw [upd_ne (ne_of_none e h)];exact e
theorem Same.at {K:PySem.W.Frag} {H H':Hp} {a:Addr} {xs:List V} (e:Same H H') (h:SqT K H a xs):SqT K H' a xs:=by
 rcases h with (h|⟨o,h⟩)|h
 ·exact .inl (.inl (e _ _ h))
 ·exact .inl (.inr ⟨o,e _ _ h⟩)
 ·exact .inr h
theorem Same.sq {k:Bool} {K:PySem.W.Frag} {H H':Hp} {a:Addr} {xs:List V} (e:Same H H') (h:Sq k K H a xs):Sq k K H' a xs:=by
 cases k with
 | true=>exact Same.at e h
 | false=>exact Same.seq e h
noncomputable def CW (t:Nat) (l:Addr) (n:Nat) (f:Nat→V) (fr:St) (H1:Hp) (i m:Nat) (σ1:St) (ys:List V) (H':Hp):Prop :=
 m=n - i∧i≤n∧(∃ own:St,own.length=t∧σ1=own++fr)∧ys=(List.range i).map f∧Same H1 H'∧H' l=some (.lst ys)
theorem CW.next {t:Nat} {l:Addr} {n:Nat} {f:Nat→V} {fr:St} {H1 H' H5:Hp} {i:Nat} {y:V} (own:St) (ho:own.length=t) (hi:i<n) (hn:n≤1000000) (hl:H1 l=none) (hs:Same H1 H') (hl':H' l=some (.lst ((List.range i).map f))) (s5:Same H' H5) (ey:y=f i) :
  H5 l=some (.lst ((List.range i).map f))∧((List.range i).map f).length<sizeLine∧CW t l n f fr H1 (i+1) (n - (i+1)) (own++fr) ((List.range i).map f++[y]) (upd H5 l (.lst ((List.range i).map f++[y]))):=by
 subst ey
 refine⟨s5 _ _ hl',?_,rfl,hi,⟨own,ho,rfl⟩,?_,fun b o e=>?_,upd_same⟩
 ·rw [List.length_map,List.length_range]
  exact Nat.lt_of_lt_of_le (Nat.lt_of_lt_of_le hi hn) (by decide)
 ·rw [List.range_succ,List.map_append];rfl
 ·rw [upd_ne (ne_of_none e hl)]
  exact s5 _ _ (hs _ _ e)
theorem comp_by {J:It} {H1:Hp} {ix:List (Option Nat)} {σ:St} {g:TG} {tt:TT} {te:TE} {Q:VK} (t:Nat) (fr:St) (n:Nat) (f:Nat→V) (hpk:pick ix σ=List.replicate t none++fr)
  (hstop:∀ H',Same H1 H'→J.stop n H') (hgo:∀ i H',i<n→Same H1 H'→J.go i H')
  (step:∀ i x l H' H2 own,own.length=t→i<n→H1 l=none→Same H1 H'→H' l=some (.lst ((List.range i).map f))→J.yld i H' x H2 →
   g x (own++fr) H2 fun σ2 H3=>tt σ2 H3 fun b H4=>if b=true then te σ2 H4 fun y H5=>H5 l=some (.lst ((List.range i).map f))∧((List.range i).map f).length<sizeLine∧CW t l n f fr H1 (i+1) (n - (i+1)) σ2 ((List.range i).map f++[y]) (upd H5 l (.lst ((List.range i).map f++[y])))
    else CW t l n f fr H1 (i+1) (n - (i+1)) σ2 ((List.range i).map f) H4)
  (hQ:∀ l H',H1 l=none→Same H1 H'→H' l=some (.lst ((List.range n).map f))→Q (.ref l) H') :
  CompGoal ix g tt te σ Q J H1:=by
 intro l hl
 refine⟨CW t l n f fr H1,⟨n,by simp,Nat.zero_le _,⟨_,List.length_replicate,hpk⟩,rfl,Same.upd_new hl,upd_same⟩,?_⟩
 rintro i m σ1 ys H' ⟨rfl,hi,⟨own,ho,rfl⟩,rfl,hs,hl'⟩
 refine⟨hl',?_⟩
 by_cases hlt:i<n
 ·exact .inr ⟨hgo i H' hlt hs,n - (i+1),by lia,fun x H2 hy=>step i x l H' H2 own ho hlt hl hs hl' hy⟩
 ·obtain rfl:i=n:=by lia
  exact .inl ⟨hstop H' hs,hQ l H' hl hs hl'⟩
theorem rd_comp1 {J:It} {H1:Hp} {ix:List (Option Nat)} {σ:St} {te:TE} {Q:VK} (fr:St) (n:Nat) (f:Nat→V) (hpk:pick ix σ=none::fr) (hn:n≤1000000)
  (hstop:∀ H',Same H1 H'→J.stop n H') (hgo:∀ i H',i<n→Same H1 H'→J.go i H')
  (step:∀ i x H' H2 (Qc:VK),i<n→Same H1 H'→J.yld i H' x H2→(∀ H5,Same H' H5→Qc (f i) H5)→te (some x::fr) H2 Qc)
  (hQ:∀ l H',H1 l=none→Same H1 H'→H' l=some (.lst ((List.range n).map f))→Q (.ref l) H'):CompGoal ix (gName 0) (fun _ H Q=>Q true H) te σ Q J H1:=by
 refine comp_by 1 fr n f hpk hstop hgo (fun i x l H' H2 own ho hi hl hs hl' hy=>?_) hQ
 obtain ⟨o1,rfl⟩:∃ o1,own=[o1]:=by match own,ho with|[o1],_=>exact⟨o1,rfl⟩
 dsimp only [gName]
 rw [if_pos rfl]
 exact step i x H' H2 _ hi hs hy fun H5 s5=>CW.next (fr:=fr) [some x] rfl hi hn hl hs hl' s5 rfl
theorem rd_compZ {K:PySem.W.Frag} {k1 k2:Bool} {a b:Addr} {xs ys:List V} {H1:Hp} {ix:List (Option Nat)} {σ:St} {te:TE} {Q:VK} (fr:St) (f:Nat→V) (hpk:pick ix σ=none::none::fr) (ha:Sq k1 K H1 a xs) (hb:Sq k2 K H1 b ys) (hlen:xs.length=ys.length) (hn:xs.length≤1000000)
  (step:∀ i x y H' (Qc:VK),xs[i]?=some x→ys[i]?=some y→Same H1 H'→(∀ H5,Same H' H5→Qc (f i) H5)→te (some x::some y::fr) H' Qc)
  (hQ:∀ l H',H1 l=none→Same H1 H'→H' l=some (.lst ((List.range xs.length).map f))→Q (.ref l) H'):CompGoal ix (gTup K 2 (gCons (gName 0) (gCons (gName 1) gNil))) (fun _ H Q=>Q true H) te σ Q (Itz K k1 k2 a b) H1:=by
 refine comp_by 2 fr xs.length f hpk (fun H' s=>⟨_,_,s.sq ha,s.sq hb,.inl (Nat.le_refl _)⟩) (fun i H' hi s=>?_) (fun i x l H' H2 own ho hi hl hs hl' hy=>?_) hQ
 ·exact⟨_,_,xs[i],ys[i]'(hlen ▸ hi),s.sq ha,s.sq hb,List.getElem?_eq_getElem hi,List.getElem?_eq_getElem (hlen ▸ hi)⟩
 ·obtain ⟨o1,o2,rfl⟩:∃ o1 o2,own=[o1,o2]:=by match own,ho with|[o1,o2],_=>exact⟨o1,o2,rfl⟩
  obtain ⟨p,x',y',rfl,hp,e1,e2,rfl⟩:=hy
  have g1:=e1 _ (hs.sq ha)
  have g2:=e2 _ (hs.sq hb)
  refine⟨p,_,rfl,SqT.of upd_same,rfl,_,_,rfl,_,_,rfl,rfl,?_⟩
  show ite (true=true) _ _
  rw [if_pos rfl]
  exact step i x' y' _ _ g1 g2 (hs.trans (Same.upd_new hp)) fun H5 s5=>CW.next (fr:=fr) [some x',some y'] rfl hi hn hl hs hl' ((Same.upd_new hp).trans s5) rfl
theorem int_get {r:List Int} {i:Nat} {x:V} (h:(r.map V.int)[i]?=some x):x=.int (r.getD i 0)∧i<r.length:=by
 rw [List.getElem?_map] at h
 cases e:r[i]? with
 | none=>rw [e] at h;cases h
 | some z =>
  rw [e] at h
  have hl:=(List.getElem?_eq_some_iff.mp e).1
  refine⟨?_,hl⟩
  rw [← (Option.some.inj h),List.getD,e];rfl
theorem int_at {r:List Int} {i:Nat} (h:i<r.length):(r.map V.int)[i]?=some (.int (r.getD i 0)):=by
 rw [List.getElem?_map,List.getD,List.getElem?_eq_getElem h];rfl
theorem range_getD {α:Type} (f:Int→α) (r:List Int):(List.range r.length).map (fun i=>f (r.getD i 0))=r.map f:=by
 apply List.ext_getElem
 ·simp
 ·intro i h1 h2
  simp at h1 h2
  simp [List.getD,h1]
theorem range_zip {α:Type} (f:Int→Int→α) (r q:List Int) (h:r.length=q.length):(List.range r.length).map (fun i=>f (r.getD i 0) (q.getD i 0))=List.zipWith f r q:=by
 apply List.ext_getElem
 ·simp [h]
 ·intro i h1 h2
  simp at h1 h2
  have:i<q.length:=by lia
  simp [List.getD,h1,this]
theorem rd_zipRows {K:PySem.W.Frag} {a b:Addr} {r q:List Int} {H1:Hp} {ix:List (Option Nat)} {σ:St} {Q:VK} (op:Int→Int→Int) (hpk:pick ix σ=[none,none]) (ha:SqT K H1 a (r.map V.int)) (hb:SqT K H1 b (q.map V.int)) (hlen:r.length=q.length) (hn:r.length≤1000)
  (hQ:∀ l H',H1 l=none→Same H1 H'→H' l=some (.lst ((List.zipWith op r q).map V.int))→Q (.ref l) H') :
  CompGoal ix (gTup K 2 (gCons (gName 0) (gCons (gName 1) gNil))) (fun _ H Q=>Q true H) (tOp (rI0 fun i j=>.int (op i j)) (tVar 0) (tVar 1)) σ Q (Itz K true true a b) H1:=by
 refine rd_compZ (k1:=true) (k2:=true) [] (fun i=>.int (op (r.getD i 0) (q.getD i 0))) hpk ha hb (by simpa using hlen) (by rw [List.length_map];lia) (fun i x y H' Qc ex ey hs kc=>?_) fun l H' hl hs hl'=>hQ l H' hl hs ?_
 ·obtain ⟨rfl,_⟩:=int_get ex
  obtain ⟨rfl,_⟩:=int_get ey
  exact⟨_,rfl,_,rfl,_,_,rfl,rfl,kc _ (Same.refl _)⟩
 ·rw [hl',List.length_map,range_zip (fun x y=>V.int (op x y)) r q hlen,List.map_zipWith]
theorem rd_mapRow {K:PySem.W.Frag} {a:Addr} {r:List Int} {H1:Hp} {ix:List (Option Nat)} {σ:St} {te:TE} {Q:VK} (F:Int→V) (fr:St) (hpk:pick ix σ=none::fr) (ha:SqT K H1 a (r.map V.int)) (hn:r.length≤1000)
  (step:∀ x H' (Qc:VK),x∈r→Same H1 H'→(∀ H5,Same H' H5→Qc (F x) H5)→te (some (.int x)::fr) H' Qc)
  (hQ:∀ l H',H1 l=none→Same H1 H'→H' l=some (.lst (r.map F))→Q (.ref l) H'):CompGoal ix (gName 0) (fun _ H Q=>Q true H) te σ Q (Itt K a) H1:=by
 refine rd_comp1 fr r.length (fun i=>F (r.getD i 0)) hpk (by lia) (fun H' s=>⟨_,s.at ha,by simp⟩) (fun i H' hi s=>⟨_,_,s.at ha,int_at hi⟩) (fun i x H' H2 Qc hi hs hy kc=>?_) fun l H' hl hs hl'=>hQ l H' hl hs ?_
 ·obtain ⟨rfl,e1⟩:=hy
  obtain ⟨rfl,_⟩:=int_get (e1 _ (hs.at ha))
  exact step _ _ Qc (by rw [List.getD,List.getElem?_eq_getElem hi];exact List.getElem_mem hi) hs kc
 ·rw [hl',range_getD F r]
theorem rd_range {n:Nat} {H1:Hp} {ix:List (Option Nat)} {σ:St} {te:TE} {Q:VK} (F:Int→V) (fr:St) (hpk:pick ix σ=none::fr) (hn:n≤1000000)
  (step:∀ (i:Nat) H' (Qc:VK),i<n→Same H1 H'→(∀ H5,Same H' H5→Qc (F (i:Int)) H5)→te (some (.int (i:Int))::fr) H' Qc)
  (hQ:∀ l H',H1 l=none→Same H1 H'→H' l=some (.lst ((List.range n).map fun i=>F ((i:Nat):Int)))→Q (.ref l) H'):CompGoal ix (gName 0) (fun _ H Q=>Q true H) te σ Q (Itr 0 n) H1:=by
 refine rd_comp1 fr n (fun i=>F ((i:Nat):Int)) hpk hn (fun _ _=>Nat.le_refl _) (fun i _ hi _=>hi) (fun i x H' H2 Qc hi hs hy kc=>?_) hQ
 obtain ⟨rfl,rfl⟩:=hy
 rw [Int.zero_add]
 exact step i _ Qc hi hs kc
end L2
namespace Mth
noncomputable def prod5 (a b c d e:Nat):Int:=2 ^ a*3 ^ b*5 ^ c*7 ^ d*11 ^ e
noncomputable def numL (ps:List Int) (es:List Int):Int:=(List.zipWith (fun p e=>p ^ e.toNat) ps es).foldl (·*·) 1
noncomputable def primes:List Int:=[2,3,5,7,11]
noncomputable def num (es:List Int):Int:=numL primes es
noncomputable def P5 (p:Int):Prop:=p=2∨p=3∨p=5∨p=7∨p=11
noncomputable def Cop (m:Int):Prop:=∀ p,P5 p→m % p≠0
end Mth
namespace Mth
noncomputable def bl (x:Int):Nat:=if x == 0 then 0 else x.natAbs.log2+1
theorem bl_le {x:Int} {k:Nat} (h:x.natAbs<2 ^ k):bl x≤k:=by
 unfold bl
 split
 ·lia
 ·rename_i hx
  have hx':x.natAbs≠0:=by simpa using hx
  have:=(Nat.log2_lt hx').mpr h
  lia
end Mth
namespace Mth
noncomputable def F (m:Int) (x y:Int):Prop:=2 ^ (-m).toNat*y≤2 ^ m.toNat*x
noncomputable def rt (b c d e:Int):Int:=prod5 0 b.toNat c.toNat d.toNat e.toNat
noncomputable def rb (b c d e:Int):Int:=prod5 0 (-b).toNat (-c).toNat (-d).toNat (-e).toNat
end Mth
namespace Mth
section
variable (c0 c1 c2 c3 c4:Nat) {m:Int} (h:Cop m)
include h
end
end Mth
namespace Mth
theorem perm_of_map {α β:Type} {f:α→β} {qs ps:List β} (h:qs.Perm ps):∀ {l:List α},ps=l.map f→∃ m:List α,m.Perm l∧qs=m.map f:=by
 induction h with
 | nil=>intro l e;exact⟨[],by rw [List.map_eq_nil_iff.mp e.symm],rfl⟩
 | cons x _ ih =>
  intro l e
  cases l with
  | nil=>cases e
  | cons a l =>
   rw [List.map_cons] at e
   injection e with e1 e2
   obtain ⟨m,p,q⟩:=ih e2
   exact⟨a::m,p.cons a,by rw [List.map_cons,q,e1]⟩
 | swap x y l0 =>
  intro l e
  match l,e with
  | a::b::l,e =>
   simp only [List.map_cons,List.cons.injEq] at e
   obtain ⟨e1,e2,e3⟩:=e
   exact⟨b::a::l,.swap _ _ _,by rw [List.map_cons,List.map_cons,e1,e2,e3]⟩
 | trans _ _ ih1 ih2 =>
  intro l e
  obtain ⟨m,p,q⟩:=ih2 e
  obtain ⟨m',p',q'⟩:=ih1 q
  exact⟨m',p'.trans p,q'⟩
end Mth
namespace Mth
noncomputable def sub (a b:List Int):List Int:=List.zipWith (· - ·) a b
noncomputable def mulv (r:List Int) (k:Int):List Int:=r.map (·*k)
noncomputable def zer (n:Nat):List Int:=List.replicate n 0
theorem sub_len {a b:List Int} {n:Nat} (ha:a.length=n) (hb:b.length=n):(sub a b).length=n:=by simp [sub,ha,hb]
theorem mulv_len {r:List Int} {n:Nat} {k:Int} (h:r.length=n):(mulv r k).length=n:=by simp [mulv,h]
theorem zer_len (n:Nat):(zer n).length=n:=by simp [zer]
theorem sub_at {a b:List Int} {n:Nat} (ha:a.length=n) (hb:b.length=n) (i:Nat):(sub a b).getD i 0=a.getD i 0 - b.getD i 0:=by
 by_cases h:i<n
 ·simp only [sub,List.getD,List.getElem?_zipWith]
  rw [List.getElem?_eq_getElem (by lia),List.getElem?_eq_getElem (by lia)]
  rfl
 ·simp only [sub,List.getD]
  rw [List.getElem?_eq_none (by simp;lia),List.getElem?_eq_none (by lia),List.getElem?_eq_none (by lia)]
  rfl
theorem mulv_at (r:List Int) (k:Int) (i:Nat):(mulv r k).getD i 0=r.getD i 0*k:=by
 simp only [mulv,List.getD,List.getElem?_map]
 cases r[i]? <;> simp
theorem zer_at (n i:Nat):(zer n).getD i 0=0:=by
 simp only [zer,List.getD,List.getElem?_replicate]
 split <;> rfl
theorem ext_at {a b:List Int} {n:Nat} (ha:a.length=n) (hb:b.length=n) (h:∀ i,i<n→a.getD i 0=b.getD i 0):a=b:=by
 apply List.ext_getElem (by lia)
 intro i h1 h2
 have:=h i (by lia)
 rw [List.getD,List.getD,List.getElem?_eq_getElem h1,List.getElem?_eq_getElem h2] at this
 exact this
noncomputable def Cl (n:Nat) (P:List Int→Prop):Prop:=P (zer n)∧∀ a b:List Int,a.length=n→b.length=n→P a→P b→P (sub a b)
noncomputable def Span (n:Nat) (rs:List (List Int)) (v:List Int):Prop:=∀ P:List Int→Prop,Cl n P→(∀ r∈rs,P r)→P v
noncomputable def Len (n:Nat) (rs:List (List Int)):Prop:=∀ r∈rs,r.length=n
theorem Span.mem {n:Nat} {rs:List (List Int)} {r:List Int} (h:r∈rs):Span n rs r:=fun _ _ k=>k r h
theorem Span.zero {n:Nat} {rs:List (List Int)}:Span n rs (zer n):=fun _ c _=>c.1
theorem Span.sub {n:Nat} {rs:List (List Int)} {a b:List Int} (la:a.length=n) (lb:b.length=n) (ha:Span n rs a) (hb:Span n rs b):Span n rs (Mth.sub a b):=fun P c k=>c.2 a b la lb (ha P c k) (hb P c k)
theorem Span.cl {n:Nat} (rs:List (List Int)):Cl n (Span n rs):=⟨Span.zero,fun _ _ la lb ha hb=>Span.sub la lb ha hb⟩
theorem Span.of {n:Nat} {rs qs:List (List Int)} {v:List Int} (h:Span n rs v) (hq:∀ r∈rs,Span n qs r):Span n qs v:=h _ (Span.cl qs) hq
theorem Span.len {n:Nat} {rs:List (List Int)} {v:List Int} (h:Span n rs v) (hl:Len n rs):v.length=n:=h (fun v=>v.length=n) ⟨zer_len n,fun _ _ ha hb _ _=>sub_len ha hb⟩ hl
theorem Span.neg {n:Nat} {rs:List (List Int)} {a:List Int} (la:a.length=n) (ha:Span n rs a):Span n rs (mulv a (-1)):=by
 have e:mulv a (-1)=Mth.sub (zer n) a:=ext_at (mulv_len la) (sub_len (zer_len n) la) fun i _=>by rw [mulv_at,sub_at (zer_len n) la,zer_at];lia
 rw [e]
 exact Span.sub (zer_len n) la Span.zero ha
theorem Span.mulN {n:Nat} {rs:List (List Int)} {a:List Int} (la:a.length=n) (ha:Span n rs a):∀ k:Nat,Span n rs (mulv a k)
 | 0=>by
  have e:mulv a ((0:Nat):Int)=zer n:=ext_at (mulv_len la) (zer_len n) fun i _=>by rw [mulv_at,zer_at];simp
  rw [e]
  exact Span.zero
 | k+1=>by
  have e:mulv a ((k+1:Nat):Int)=Mth.sub (mulv a k) (mulv a (-1)):=ext_at (mulv_len la) (sub_len (mulv_len la) (mulv_len la)) fun i _=>by
   rw [mulv_at,sub_at (mulv_len la) (mulv_len la),mulv_at,mulv_at,Int.natCast_add,Int.mul_add]
   simp
  rw [e]
  exact Span.sub (mulv_len la) (mulv_len la) (Span.mulN la ha k) (Span.neg la ha)
theorem Span.mul {n:Nat} {rs:List (List Int)} {a:List Int} (la:a.length=n) (ha:Span n rs a) (k:Int):Span n rs (mulv a k):=by
 rcases Int.le_total 0 k with h|h
 ·obtain ⟨m,rfl⟩:=Int.eq_ofNat_of_zero_le h
  exact Span.mulN la ha m
 ·obtain ⟨m,e⟩:=Int.eq_ofNat_of_zero_le (show 0≤-k by lia)
  have e2:mulv a k=mulv (mulv a m) (-1):=ext_at (mulv_len la) (mulv_len (mulv_len la)) fun i _=>by
   rw [mulv_at,mulv_at,mulv_at,Int.mul_assoc]
   congr 1
   lia
  rw [e2]
  exact Span.neg (mulv_len la) (Span.mulN la ha m)
noncomputable def low (v s:List Int) (q:Int):List Int:=sub v (mulv s q)
theorem low_len {v s:List Int} {n:Nat} {q:Int} (hv:v.length=n) (hs:s.length=n):(low v s q).length=n:=sub_len hv (mulv_len hs)
theorem low_at {v s:List Int} {n:Nat} (hv:v.length=n) (hs:s.length=n) (q:Int) (i:Nat):(low v s q).getD i 0=v.getD i 0 - s.getD i 0*q:=by rw [low,sub_at hv (mulv_len hs),mulv_at]
theorem Span.low {n:Nat} {rs:List (List Int)} {v s:List Int} (lv:v.length=n) (ls:s.length=n) (hv:Span n rs v) (hs:Span n rs s) (q:Int):Span n rs (Mth.low v s q):=Span.sub lv (mulv_len ls) hv (Span.mul ls hs q)
theorem Span.unlow {n:Nat} {rs:List (List Int)} {v s:List Int} {q:Int} (lv:v.length=n) (ls:s.length=n) (hl:Span n rs (Mth.low v s q)) (hs:Span n rs s):Span n rs v:=by
 have e:v=Mth.sub (Mth.low v s q) (mulv s (-q)):=ext_at lv (sub_len (low_len lv ls) (mulv_len ls)) fun i _=>by
  rw [sub_at (low_len lv ls) (mulv_len ls),low_at lv ls,mulv_at]
  rw [Int.mul_neg]
  lia
 rw [e]
 exact Span.sub (low_len lv ls) (mulv_len ls) hl (Span.mul ls hs _)
noncomputable def Eqv (n:Nat) (rs qs:List (List Int)):Prop:=(∀ r∈rs,Span n qs r)∧∀ q∈qs,Span n rs q
theorem Eqv.refl {n:Nat} {rs:List (List Int)}:Eqv n rs rs:=⟨fun _=>Span.mem,fun _=>Span.mem⟩
theorem Eqv.symm {n:Nat} {rs qs:List (List Int)} (h:Eqv n rs qs):Eqv n qs rs:=⟨h.2,h.1⟩
theorem Eqv.trans {n:Nat} {rs qs ts:List (List Int)} (h:Eqv n rs qs) (k:Eqv n qs ts):Eqv n rs ts:=⟨fun r hr=>(h.1 r hr).of k.1,fun t ht=>(k.2 t ht).of h.2⟩
theorem Eqv.perm {n:Nat} {rs qs:List (List Int)} (h:rs.Perm qs):Eqv n rs qs:=⟨fun _ hr=>Span.mem (h.mem_iff.mp hr),fun _ hq=>Span.mem (h.mem_iff.mpr hq)⟩
theorem Eqv.span {n:Nat} {rs qs:List (List Int)} (h:Eqv n rs qs) {v:List Int} (hv:Span n rs v):Span n qs v:=hv.of h.1
theorem Span.app {n:Nat} {rs qs:List (List Int)} {v:List Int} (h:Span n rs v):Span n (rs++qs) v:=h.of fun _ hr=>Span.mem (List.mem_append_left _ hr)
theorem Span.app' {n:Nat} {rs qs:List (List Int)} {v:List Int} (h:Span n qs v):Span n (rs++qs) v:=h.of fun _ hr=>Span.mem (List.mem_append_right _ hr)
theorem Eqv.turn {n:Nat} {s:List Int} {rs os:List (List Int)} (f:List Int→Int) (ls:s.length=n) (lr:Len n rs):Eqv n (s::rs++os) (s::(rs.map fun v=>Mth.low v s (f v))++os):=by
 have hs1:Span n (s::rs++os) s:=Span.mem (by simp)
 have hs2:Span n (s::(rs.map fun v=>Mth.low v s (f v))++os) s:=Span.mem (by simp)
 refine⟨fun r hr=>?_,fun r hr=>?_⟩
 ·rcases List.mem_append.mp hr with h|h
  ·rcases List.mem_cons.mp h with rfl|h
   ·exact hs2
   ·exact Span.unlow (q:=f r) (lr r h) ls (Span.mem (List.mem_append_left _ (List.mem_cons_of_mem _ (List.mem_map.mpr ⟨r,h,rfl⟩)))) hs2
  ·exact Span.mem (List.mem_append_right _ h)
 ·rcases List.mem_append.mp hr with h|h
  ·rcases List.mem_cons.mp h with rfl|h
   ·exact hs1
   ·obtain ⟨v,hv,rfl⟩:=List.mem_map.mp h
    exact Span.low (lr v hv) ls (Span.mem (List.mem_append_left _ (List.mem_cons_of_mem _ hv))) hs1 _
  ·exact Span.mem (List.mem_append_right _ h)
end Mth
namespace Mth
noncomputable def Led (r:List Int) (k:Nat):Prop:=0<r.getD k 0∧∀ i,k<i→r.getD i 0=0
theorem Led.uniq {r:List Int} {j k:Nat} (a:Led r j) (b:Led r k):j=k:=by
 rcases Nat.lt_trichotomy j k with h|h|h
 ·have:=a.2 k h
  have:=b.1
  lia
 ·exact h
 ·have:=b.2 j h
  have:=a.1
  lia
noncomputable def Bef (a b:List Int):Prop:=∀ k,Led b k→(∃ j,k<j∧Led a j)∧0≤a.getD k 0∧a.getD k 0<b.getD k 0
noncomputable def SF (rs:List (List Int)):Prop:=(∀ r∈rs,∃ k,Led r k)∧rs.Pairwise Bef
theorem SF.tail {a:List Int} {rs:List (List Int)} (h:SF (a::rs)):SF rs:=⟨fun r hr=>h.1 r (List.mem_cons_of_mem _ hr),(List.pairwise_cons.mp h.2).2⟩
theorem Span.cons {n:Nat} {a:List Int} {rs:List (List Int)} {v:List Int} (la:a.length=n) (lr:Len n rs) (h:Span n (a::rs) v):∃ c,v.length=n∧Span n rs (Mth.low v a c):=by
 refine h (fun v=>∃ c,v.length=n∧Span n rs (Mth.low v a c)) ⟨⟨0,zer_len n,?_⟩,?_⟩ ?_
 ·have e:Mth.low (zer n) a 0=zer n:=ext_at (low_len (zer_len n) la) (zer_len n) fun i _=>by rw [low_at (zer_len n) la,zer_at];simp
  rw [e]
  exact Span.zero
 ·rintro x y lx ly ⟨c,_,hc⟩ ⟨d,_,hd⟩
  refine⟨c - d,sub_len lx ly,?_⟩
  have e:Mth.low (Mth.sub x y) a (c - d)=Mth.sub (Mth.low x a c) (Mth.low y a d):=ext_at (low_len (sub_len lx ly) la) (sub_len (low_len lx la) (low_len ly la)) fun i _=>by
   rw [low_at (sub_len lx ly) la,sub_at lx ly,sub_at (low_len lx la) (low_len ly la),low_at lx la,low_at ly la,Int.mul_sub]
   lia
  rw [e]
  exact Span.sub (low_len lx la) (low_len ly la) hc hd
 ·intro r hr
  rcases List.mem_cons.mp hr with rfl|hr
  ·refine⟨1,la,?_⟩
   have e:Mth.low r r 1=zer n:=ext_at (low_len la la) (zer_len n) fun i _=>by rw [low_at la la,zer_at];lia
   rw [e]
   exact Span.zero
  ·refine⟨0,lr r hr,?_⟩
   have e:Mth.low r a 0=r:=ext_at (low_len (lr r hr) la) (lr r hr) fun i _=>by rw [low_at (lr r hr) la];simp
   rw [e]
   exact Span.mem hr
theorem Span.none {n:Nat} {v:List Int} (h:Span n [] v):v=zer n:=h (fun v=>v=zer n) ⟨rfl,fun a b _ _ ha hb=>by
 rw [ha,hb]
 exact ext_at (sub_len (zer_len n) (zer_len n)) (zer_len n) fun i _=>by rw [sub_at (zer_len n) (zer_len n),zer_at];rfl⟩ fun _ hr=>nomatch hr
theorem Span.at0 {n i:Nat} {rs:List (List Int)} {v:List Int} (lr:Len n rs) (h:Span n rs v) (h0:∀ r∈rs,r.getD i 0=0):v.getD i 0=0 :=
 (h (fun v=>v.length=n∧v.getD i 0=0) ⟨⟨zer_len n,zer_at n i⟩,fun a b la lb ha hb=>⟨sub_len la lb,by rw [sub_at la lb,ha.2,hb.2];rfl⟩⟩ fun r hr=>⟨lr r hr,h0 r hr⟩).2
theorem SF.low0 {a:List Int} {rs:List (List Int)} (h:SF (a::rs)) {j i:Nat} (hj:Led a j) (hi:j≤i):∀ r∈rs,r.getD i 0=0:=fun r hr=>by
 obtain ⟨k,hk⟩:=h.1 r (List.mem_cons_of_mem _ hr)
 obtain ⟨⟨j',hj',lj⟩,_⟩:=(List.pairwise_cons.mp h.2).1 r hr k hk
 have:=lj.uniq hj
 exact hk.2 i (by lia)
theorem SF.split {n:Nat} {a:List Int} {rs:List (List Int)} {v:List Int} {j:Nat} (h:SF (a::rs)) (la:a.length=n) (lr:Len n rs) (hj:Led a j) (hv:Span n (a::rs) v) :
  ∃ c,Span n rs (Mth.low v a c)∧v.getD j 0=a.getD j 0*c∧∀ i,j<i→v.getD i 0=0:=by
 obtain ⟨c,lv,hs⟩:=Span.cons la lr hv
 refine⟨c,hs,?_,fun i hi=>?_⟩
 ·have:=Span.at0 (i:=j) lr hs (h.low0 hj (Nat.le_refl _))
  rw [low_at lv la] at this
  lia
 ·have:=Span.at0 (i:=i) lr hs (h.low0 hj (by lia))
  rw [low_at lv la,hj.2 i hi] at this
  lia
theorem low_zero {n:Nat} {v a:List Int} (lv:v.length=n) (la:a.length=n):Mth.low v a 0=v:=ext_at (low_len lv la) lv fun i _=>by rw [low_at lv la];simp
theorem SF.rest {n:Nat} {a:List Int} {rs:List (List Int)} {v:List Int} {j:Nat} (h:SF (a::rs)) (la:a.length=n) (lr:Len n rs) (hj:Led a j) (hv:Span n (a::rs) v) (h0:v.getD j 0=0):Span n rs v:=by
 have lv:v.length=n:=hv.len fun r hr=>(List.mem_cons.mp hr).elim (fun z=>z ▸ la) (lr r)
 obtain ⟨c,hs,e,_⟩:=h.split la lr hj hv
 rw [h0] at e
 have hc:c=0:=by
  rcases Int.mul_eq_zero.mp e.symm with z|z
  ·have:=hj.1
   lia
  ·exact z
 rw [hc,low_zero lv la] at hs
 exact hs
theorem small_mul {x l c:Int} (h:x=l*c) (hl:0<l) (h1:-l<x) (h2:x<l):x=0:=by
 rcases Int.lt_trichotomy c 0 with z|z|z
 ·have:l*c≤l*(-1):=Int.mul_le_mul_of_nonneg_left (by lia) (by lia)
  lia
 ·rw [z,Int.mul_zero] at h
  exact h
 ·have:l*1≤l*c:=Int.mul_le_mul_of_nonneg_left (by lia) (by lia)
  lia
theorem SF.small {n:Nat}:∀ {rs:List (List Int)} {v:List Int},SF rs→Len n rs→Span n rs v→(∀ r∈rs,∀ k,Led r k→-(r.getD k 0)<v.getD k 0∧v.getD k 0<r.getD k 0)→v=zer n
 | [],v,_,_,hv,_=>hv.none
 | a::rs,v,h,lr,hv,hs=>by
  obtain ⟨j,hj⟩:=h.1 a (.head _)
  have la:=lr a (.head _)
  have lr':Len n rs:=fun r hr=>lr r (List.mem_cons_of_mem _ hr)
  obtain ⟨c,_,e,_⟩:=h.split la lr' hj hv
  have h0:=small_mul e hj.1 (hs a (.head _) j hj).1 (hs a (.head _) j hj).2
  exact SF.small h.tail lr' (h.rest la lr' hj hv h0) fun r hr=>hs r (List.mem_cons_of_mem _ hr)
theorem dvd_eq {x y c d:Int} (hx:0<x) (hy:0<y) (h1:x=y*c) (h2:y=x*d):x=y:=by
 have hc:0<c:=by
  rcases Int.lt_or_le 0 c with z|z
  ·exact z
  ·have:y*c≤y*0:=Int.mul_le_mul_of_nonneg_left z (by lia)
   lia
 have hd:0<d:=by
  rcases Int.lt_or_le 0 d with z|z
  ·exact z
  ·have:x*d≤x*0:=Int.mul_le_mul_of_nonneg_left z (by lia)
   lia
 have a1:y*1≤y*c:=Int.mul_le_mul_of_nonneg_left (by lia) (by lia)
 have a2:x*1≤x*d:=Int.mul_le_mul_of_nonneg_left (by lia) (by lia)
 lia
theorem SF.uniq {n:Nat}:∀ {as bs:List (List Int)},SF as→SF bs→Len n as→Len n bs→Eqv n as bs→as=bs
 | [],[],_,_,_,_,_=>rfl
 | [],b::bs,_,hb,_,_,e=>by
  obtain ⟨k,hk⟩:=hb.1 b (.head _)
  have z:=(e.2 b (.head _)).none
  have:=hk.1
  rw [z,zer_at] at this
  lia
 | a::as,[],ha,_,_,_,e=>by
  obtain ⟨k,hk⟩:=ha.1 a (.head _)
  have z:=(e.1 a (.head _)).none
  have:=hk.1
  rw [z,zer_at] at this
  lia
 | a::as,b::bs,ha,hb,la,lb,e=>by
  obtain ⟨j,hj⟩:=ha.1 a (.head _)
  obtain ⟨k,hk⟩:=hb.1 b (.head _)
  have la0:=la a (.head _)
  have lb0:=lb b (.head _)
  have la':Len n as:=fun r hr=>la r (List.mem_cons_of_mem _ hr)
  have lb':Len n bs:=fun r hr=>lb r (List.mem_cons_of_mem _ hr)
  obtain ⟨c,s1,e1,z1⟩:=hb.split lb0 lb' hk (e.1 a (.head _))
  obtain ⟨d,s2,e2,z2⟩:=ha.split la0 la' hj (e.2 b (.head _))
  have ejk:j=k:=by
   rcases Nat.lt_trichotomy j k with h|h|h
   ·have:=z2 k h
    have:=hk.1
    lia
   ·exact h
   ·have:=z1 j h
    have:=hj.1
    lia
  subst ejk
  have elead:a.getD j 0=b.getD j 0:=dvd_eq hj.1 hk.1 e1 e2
  have et:Eqv n as bs:=⟨fun r hr=>hb.rest lb0 lb' hk (e.1 r (List.mem_cons_of_mem _ hr)) (ha.low0 hj (Nat.le_refl _) r hr),fun r hr=>ha.rest la0 la' hj (e.2 r (List.mem_cons_of_mem _ hr)) (hb.low0 hk (Nat.le_refl _) r hr)⟩
  have eas:=SF.uniq ha.tail hb.tail la' lb' et
  subst eas
  have hd0:Span n as (Mth.sub a b):=by
   refine hb.rest lb0 lb' hk (Span.sub la0 lb0 (e.1 a (.head _)) (Span.mem (.head _))) ?_
   rw [sub_at la0 lb0]
   lia
  have hz:=SF.small ha.tail la' hd0 fun r hr k hk=>by
   have b1:=((List.pairwise_cons.mp ha.2).1 r hr k hk).2
   have b2:=((List.pairwise_cons.mp hb.2).1 r hr k hk).2
   rw [sub_at la0 lb0]
   lia
  have eab:a=b:=ext_at la0 lb0 fun i _=>by
   have:=congrArg (fun l=>List.getD l i 0) hz
   simp only [zer_at] at this
   rw [sub_at la0 lb0] at this
   lia
  rw [eab]
end Mth
namespace Mth
noncomputable def qt (v s:List Int) (p:Nat):Int:=(v.getD p 0).fdiv (s.getD p 0)
noncomputable def low1 (p:Nat) (s v:List Int):List Int:=low v s (qt v s p)
theorem low1_len {v s:List Int} {n p:Nat} (hv:v.length=n) (hs:s.length=n):(low1 p s v).length=n:=low_len hv hs
theorem low1_p {v s:List Int} {n p:Nat} (hv:v.length=n) (hs:s.length=n):(low1 p s v).getD p 0=(v.getD p 0).fmod (s.getD p 0):=by rw [low1,low_at hv hs,qt,Int.fmod_def]
theorem sub_of {x y a:Int} (e:x+y=a):x=a - y:=by rw [← e,Int.add_sub_cancel]
theorem fm_bd (a:Int) {b:Int} (hb:b≠0):(a.fmod b).natAbs<b.natAbs∧(0<b→0≤a.fmod b)∧(b<0→a.fmod b≤0):=by
 rcases Int.lt_or_gt_of_ne hb with h|h
 ·have e:=Int.neg_fmod_neg a b
  have h1:=Int.fmod_nonneg_of_pos (-a) (show 0 < -b by lia)
  have h2:=Int.fmod_lt_of_pos (-a) (show 0 < -b by lia)
  lia
 ·have h1:=Int.fmod_nonneg_of_pos a h
  have h2:=Int.fmod_lt_of_pos a h
  lia
theorem q_any {a b:Int} (hb:b≠0) (hab:b.natAbs≤a.natAbs):(a.fdiv b).natAbs*b.natAbs≤2*a.natAbs:=by
 have e:=Int.mul_fdiv_add_fmod a b
 have h:=fm_bd a hb
 have e2:(b*a.fdiv b).natAbs=(a.fdiv b).natAbs*b.natAbs:=by rw [Int.natAbs_mul,Nat.mul_comm]
 have e3:b*a.fdiv b=a - a.fmod b:=sub_of e
 rw [← e2,e3]
 exact Nat.le_trans (Int.natAbs_sub_le _ _) (by lia)
noncomputable def Alike (a b:Int):Prop:=(0<a∧0<b)∨(a<0∧b<0)
theorem q_same {a b:Int} (hs:Alike a b) (hab:b.natAbs≤a.natAbs):(a.fdiv b).natAbs*b.natAbs+(a.fmod b).natAbs=a.natAbs:=by
 have e:=Int.mul_fdiv_add_fmod a b
 have hb:b≠0:=by rcases hs with h|h <;> lia
 have h:=fm_bd a hb
 have e2:(b*a.fdiv b).natAbs=(a.fdiv b).natAbs*b.natAbs:=by rw [Int.natAbs_mul,Nat.mul_comm]
 have e3:b*a.fdiv b=a - a.fmod b:=sub_of e
 rw [← e2,e3]
 have hl:=Nat.le_trans (Nat.le_of_lt h.1) hab
 rcases hs with z|z
 ·have h1:=h.2.1 z.2
  rw [← Int.natAbs_add_of_nonneg (by clear e e2 e3 h hab hb;lia) h1,Int.sub_add_cancel]
 ·have h1:=h.2.2 z.2
  rw [← Int.natAbs_add_of_nonpos (by clear e e2 e3 h hab hb;lia) h1,Int.sub_add_cancel]
noncomputable def BdM (M:Nat) (r:List Int):Prop:=∀ i,(r.getD i 0).natAbs≤M
theorem BdM.mono {M N:Nat} {r:List Int} (h:BdM M r) (k:M≤N):BdM N r:=fun i=>Nat.le_trans (h i) k
theorem low_bd {v s:List Int} {n M Q:Nat} {q:Int} (hv:v.length=n) (hs:s.length=n) (bv:BdM M v) (bs:BdM M s) (hq:q.natAbs≤Q):BdM (M+M*Q) (low v s q):=fun i=>by
 rw [low_at hv hs]
 have h1:=Int.natAbs_sub_le (v.getD i 0) (s.getD i 0*q)
 have h2:(s.getD i 0*q).natAbs≤M*Q:=by rw [Int.natAbs_mul];exact Nat.mul_le_mul (bs i) hq
 have h3:=bv i
 lia
noncomputable def at' (p:Nat) (v:List Int):Nat:=(v.getD p 0).natAbs
structure PS (n p M m l:Nat) (led os:List (List Int)):Prop where
 len:∀ v∈led++os,v.length=n
 bd:∀ v∈led++os,BdM M v
 lo:∀ v∈led,l≤at' p v∧at' p v≤m
 pos:0<l
 big:∃ v∈led,at' p v=m
 low:∃ v∈led,at' p v=l
 one:(∀ v∈led,0<v.getD p 0)∨∀ v∈led,v.getD p 0<0
 zero:∀ v∈os,v.getD p 0=0
end Mth
namespace Mth
noncomputable def left1 (p:Nat) (s:List Int) (rest:List (List Int)):List (List Int):=(rest.map (low1 p s)).filter (fun v=>v.getD p 0 != 0)
noncomputable def left0 (p:Nat) (s:List Int) (rest:List (List Int)):List (List Int):=(rest.map (low1 p s)).filter (fun v=>v.getD p 0 == 0)
theorem mem_left {p:Nat} {s x:List Int} {rest:List (List Int)}:x∈rest.map (low1 p s)↔x∈left1 p s rest∨x∈left0 p s rest:=by
 unfold left1 left0
 rw [List.mem_filter,List.mem_filter]
 constructor
 ·intro h
  by_cases e:x.getD p 0=0
  ·exact .inr ⟨h,by simpa using e⟩
  ·exact .inl ⟨h,by simpa using e⟩
 ·rintro (h|h) <;> exact h.1
theorem Eqv.mem {n:Nat} {rs qs:List (List Int)} (h:∀ x,x∈rs↔x∈qs):Eqv n rs qs:=⟨fun r hr=>Span.mem ((h r).mp hr),fun q hq=>Span.mem ((h q).mpr hq)⟩
theorem turn_eqv {n p:Nat} {s:List Int} {rest os:List (List Int)} (ls:s.length=n) (lr:Len n rest):Eqv n (s::rest++os) (s::left1 p s rest++(os++left0 p s rest)):=by
 refine (Eqv.turn (fun v=>qt v s p) ls lr).trans (Eqv.mem fun x=>?_)
 have h:=mem_left (p:=p) (s:=s) (x:=x) (rest:=rest)
 have h':x∈(rest.map fun v=>low v s (qt v s p))↔x∈left1 p s rest∨x∈left0 p s rest:=h
 simp only [List.mem_append,List.mem_cons,h']
 constructor
 ·rintro ((h|h|h)|h)
  ·exact .inl (.inl h)
  ·exact .inl (.inr h)
  ·exact .inr (.inr h)
  ·exact .inr (.inl h)
 ·rintro ((h|h)|h|h)
  ·exact .inl (.inl h)
  ·exact .inl (.inr (.inl h))
  ·exact .inr h
  ·exact .inl (.inr (.inr h))
noncomputable def mz (p:Nat) (rs:List (List Int)):Nat:=(rs.map (at' p)).sum
theorem mz_filter (p:Nat) (f:List Int→Bool):∀ rs:List (List Int),mz p (rs.filter f)≤mz p rs
 | []=>Nat.le_refl _
 | r::rs=>by
  have h:=mz_filter p f rs
  unfold mz at h ⊢
  rw [List.filter_cons]
  split <;> simp only [List.map_cons,List.sum_cons] <;> lia
theorem mz_less {p l:Nat} {s:List Int}:∀ {rest:List (List Int)},rest≠[]→(∀ v∈rest,l≤at' p v)→(∀ v∈rest,at' p (low1 p s v)<l)→mz p (rest.map (low1 p s))<mz p rest
 | [],h,_,_=>absurd rfl h
 | [v],_,h1,h2=>by
  have a:=h1 v (.head _)
  have b:=h2 v (.head _)
  simp only [mz,List.map_cons,List.map_nil,List.sum_cons,List.sum_nil]
  lia
 | v::w::r,_,h1,h2=>by
  have a:=h1 v (.head _)
  have b:=h2 v (.head _)
  have c:=mz_less (rest:=w::r) (by simp) (fun x hx=>h1 x (List.mem_cons_of_mem _ hx)) (fun x hx=>h2 x (List.mem_cons_of_mem _ hx))
  simp only [mz,List.map_cons,List.sum_cons] at c ⊢
  lia
theorem low1_lt {v s:List Int} {n p:Nat} (hv:v.length=n) (hs:s.length=n) (h0:s.getD p 0≠0):at' p (low1 p s v)<at' p s:=by
 have:=(fm_bd (v.getD p 0) h0).1
 unfold at'
 rw [low1_p hv hs]
 exact this
noncomputable def PI (n p M:Nat) (led os:List (List Int)):Prop :=
 (∀ v∈led++os,v.length=n)∧(∀ v∈led,v.getD p 0≠0)∧(∀ v∈os,v.getD p 0=0) ∧
  ((∀ v∈led++os,BdM M v)∨(∃ m l M',PS n p M' m l led os∧M'*m*m*l≤3*(M*M*M*M))∨(led.length≤1∧∀ v∈led++os,BdM (6*(M*M*M*M)) v))
end Mth
namespace Mth
theorem fdiv_le (a:Int) {b:Int} (hb:b≠0):(a.fdiv b).natAbs≤a.natAbs:=by
 have e:=Int.mul_fdiv_add_fmod a b
 have h:=(fm_bd a hb).1
 have e2:(b*a.fdiv b).natAbs=(a.fdiv b).natAbs*b.natAbs:=by rw [Int.natAbs_mul,Nat.mul_comm]
 rw [sub_of e] at e2
 have h0:=Int.natAbs_sub_le a (a.fmod b)
 rw [e2] at h0
 clear e e2
 generalize (a.fdiv b).natAbs=q at *
 cases q with
 | zero=>exact Nat.zero_le _
 | succ k =>
  have h1:k*1≤k*b.natAbs:=Nat.mul_le_mul_left _ (by lia)
  rw [Nat.add_mul,Nat.one_mul] at h0
  lia
theorem low1_bd {v s:List Int} {n p S L:Nat} (hv:v.length=n) (hs:s.length=n) (h0:s.getD p 0≠0) (bv:BdM S v) (bs:BdM L s):BdM (S+L*S) (low1 p s v):=fun i=>by
 unfold low1
 rw [low_at hv hs]
 have h1:=Int.natAbs_sub_le (v.getD i 0) (s.getD i 0*qt v s p)
 have h2:(s.getD i 0*qt v s p).natAbs≤L*S:=by rw [Int.natAbs_mul];exact Nat.mul_le_mul (bs i) (Nat.le_trans (fdiv_le _ h0) (bv p))
 have h3:=bv i
 lia
theorem low1_above {v s:List Int} {n p i:Nat} (hv:v.length=n) (hs:s.length=n) (h0:s.getD i 0=0):(low1 p s v).getD i 0=v.getD i 0:=by
 unfold low1
 rw [low_at hv hs,h0]
 lia
theorem Led.low1 {v s:List Int} {n p k:Nat} (hv:v.length=n) (hs:s.length=n) (hL:Led s p) (hk:p<k):Led (Mth.low1 p s v) k↔Led v k:=by
 unfold Led
 rw [low1_above hv hs (hL.2 k hk)]
 constructor
 ·rintro ⟨a,b⟩
  exact⟨a,fun i hi=>by have z:=b i hi;rw [low1_above hv hs (hL.2 i (by lia))] at z;exact z⟩
 ·rintro ⟨a,b⟩
  exact⟨a,fun i hi=>by rw [low1_above hv hs (hL.2 i (by lia))];exact b i hi⟩
theorem SF.add {n p:Nat} {st:List (List Int)} {s:List Int} (h:SF st) (hl:∀ r∈st,∃ k,p<k∧Led r k) (lst:Len n st) (ls:s.length=n) (hL:Led s p) :
  SF (st.map (Mth.low1 p s)++[s])∧∀ r∈st.map (Mth.low1 p s)++[s],∃ k,p≤k∧Led r k:=by
 have hl':∀ r∈st,∃ k,p<k∧Led (Mth.low1 p s r) k:=fun r hr=>by
  obtain ⟨k,hk,z⟩:=hl r hr
  exact⟨k,hk,(Led.low1 (lst r hr) ls hL hk).mpr z⟩
 have all:∀ r∈st.map (Mth.low1 p s)++[s],∃ k,p≤k∧Led r k:=fun r hr=>by
  rcases List.mem_append.mp hr with a|a
  ·obtain ⟨u,hu,rfl⟩:=List.mem_map.mp a
   obtain ⟨k,hk,z⟩:=hl' u hu
   exact⟨k,by lia,z⟩
  ·rw [List.mem_singleton.mp a]
   exact⟨p,Nat.le_refl _,hL⟩
 refine⟨⟨fun r hr=>?_,?_⟩,all⟩
 ·obtain ⟨k,_,z⟩:=all r hr
  exact⟨k,z⟩
 ·rw [List.pairwise_append]
  refine⟨?_,List.pairwise_singleton _ _,fun a ha b hb=>?_⟩
  ·rw [List.pairwise_map]
   refine List.Pairwise.imp_of_mem (fun {a b} ha hb hab k hk=>?_) h.2
   obtain ⟨kb,hkb,zb⟩:=hl b hb
   have e:=hk.uniq ((Led.low1 (lst b hb) ls hL hkb).mpr zb)
   subst e
   obtain ⟨⟨j,hj,zj⟩,r1,r2⟩:=hab k zb
   rw [low1_above (lst a ha) ls (hL.2 k hkb),low1_above (lst b hb) ls (hL.2 k hkb)]
   exact⟨⟨j,hj,(Led.low1 (lst a ha) ls hL (by lia)).mpr zj⟩,r1,r2⟩
  ·obtain ⟨u,hu,rfl⟩:=List.mem_map.mp ha
   rw [List.mem_singleton.mp hb]
   intro k hk
   have e:=hk.uniq hL
   subst e
   obtain ⟨j,hj,zj⟩:=hl' u hu
   have hs0:s.getD k 0≠0:=by
    have:=hL.1
    lia
   have f:=fm_bd (u.getD k 0) hs0
   have g:=f.2.1 hL.1
   rw [low1_p (lst u hu) ls]
   exact⟨⟨j,hj,zj⟩,g,by have:=f.1;have:=hL.1;lia⟩
theorem Eqv.add {n p:Nat} {st os:List (List Int)} {s:List Int} (lst:Len n st) (ls:s.length=n):Eqv n (st++s::os) (st.map (Mth.low1 p s)++[s]++os):=by
 refine (Eqv.mem fun x=>?_).trans ((Eqv.turn (s:=s) (rs:=st) (os:=os) (fun v=>qt v s p) ls lst).trans (Eqv.mem fun x=>?_))
 ·simp only [List.mem_append,List.mem_cons]
  constructor
  ·rintro (h|h|h)
   ·exact .inl (.inr h)
   ·exact .inl (.inl h)
   ·exact .inr h
  ·rintro ((h|h)|h)
   ·exact .inr (.inl h)
   ·exact .inl h
   ·exact .inr (.inr h)
 ·show x∈s::st.map (Mth.low1 p s)++os↔_
  simp only [List.mem_append,List.mem_cons,List.not_mem_nil,or_false]
  constructor
  ·rintro ((h|h)|h)
   ·exact .inl (.inr h)
   ·exact .inl (.inl h)
   ·exact .inr h
  ·rintro ((h|h)|h)
   ·exact .inl (.inr h)
   ·exact .inl (.inl h)
   ·exact .inr h
theorem Eqv.app {n:Nat} {as bs cs:List (List Int)} (h:Eqv n as bs):Eqv n (cs++as) (cs++bs) :=
 ⟨fun r hr=>(List.mem_append.mp hr).elim (fun z=>Span.mem (List.mem_append_left _ z)) fun z=>(h.1 r z).app',fun r hr=>(List.mem_append.mp hr).elim (fun z=>Span.mem (List.mem_append_left _ z)) fun z=>(h.2 r z).app'⟩
theorem Eqv.flip {n:Nat} {a:List Int} {rs:List (List Int)} (la:a.length=n):Eqv n (a::rs) (mulv a (-1)::rs):=by
 have e:mulv (mulv a (-1)) (-1)=a:=ext_at (mulv_len (mulv_len la)) la fun i _=>by rw [mulv_at,mulv_at];lia
 refine⟨fun r hr=>?_,fun r hr=>?_⟩
 ·rcases List.mem_cons.mp hr with rfl|hr
  ·have:=Span.neg (rs:=mulv r (-1)::rs) (mulv_len la) (Span.mem (.head _))
   rw [e] at this
   exact this
  ·exact Span.mem (List.mem_cons_of_mem _ hr)
 ·rcases List.mem_cons.mp hr with rfl|hr
  ·exact Span.neg la (Span.mem (.head _))
  ·exact Span.mem (List.mem_cons_of_mem _ hr)
end Mth
namespace Mth
noncomputable def r2 (p:Nat×Nat):List Int:=[(p.1:Int),(p.2:Int)]
noncomputable def prd:List (Nat×Nat)→Nat
 | []=>1
 | p::l=>p.2*prd l
noncomputable def tot:List (Nat×Nat)→Nat
 | []=>0
 | p::l=>p.1*prd l+p.2*tot l
theorem gcd_turn (f m:Nat):Nat.gcd m (f % m)=Nat.gcd f m:=by rw [Nat.gcd_comm m,← Nat.gcd_rec,Nat.gcd_comm]
theorem take_snoc {α:Type} {l:List α} {i:Nat} {x:α} (h:l[i]?=some x):l.take (i+1)=l.take i++[x]:=by
 rw [List.take_add_one,h];rfl
end Mth
namespace Mth
theorem take_at (r:List Int) {w i:Nat} (h:i<w):(r.take w).getD i 0=r.getD i 0:=by
 rw [List.getD,List.getD,List.getElem?_take,if_pos h]
theorem take_out (r:List Int) {w i:Nat} (h:w≤i):(r.take w).getD i 0=0:=by
 rw [List.getD,List.getElem?_take,if_neg (by lia)]
 rfl
theorem take_len {v:List Int} {n w:Nat} (h:v.length=n) (hw:w≤n):(v.take w).length=w:=by rw [List.length_take,h,Nat.min_eq_left hw]
noncomputable def gr (b:Nat):Nat→Nat
 | 0=>b
 | i+1=>4*gr b i+3
noncomputable def sb (b:Nat):Nat→Nat
 | 0=>0
 | i+1=>sb b i+gr b (i+1)+1
end Mth
namespace Mth
structure PT (p X m k:Nat) (led os:List (List Int)):Prop where
 bd:∀ v∈led++os,BdM X v
 hi:∀ v∈led,at' p v≤m
 one:(∀ v∈led,0<v.getD p 0)∨∀ v∈led,v.getD p 0<0
 low:∃ v∈led,at' p v+m≤k
theorem mem_left1 {p:Nat} {s:List Int} {rest:List (List Int)} {v:List Int} (hv:v∈left1 p s rest):∃ u∈rest,low1 p s u=v∧v.getD p 0≠0:=by
 obtain ⟨a1,a2⟩:=List.mem_filter.mp hv
 obtain ⟨u,hu,e⟩:=List.mem_map.mp a1
 exact⟨u,hu,e,by simpa using a2⟩
theorem mem_left0 {p:Nat} {s:List Int} {rest:List (List Int)} {v:List Int} (hv:v∈left0 p s rest):∃ u∈rest,low1 p s u=v∧v.getD p 0=0:=by
 obtain ⟨a1,a2⟩:=List.mem_filter.mp hv
 obtain ⟨u,hu,e⟩:=List.mem_map.mp a1
 exact⟨u,hu,e,by simpa using a2⟩
theorem left_all {p:Nat} {s:List Int} {rest os:List (List Int)} {P:List Int→Prop} (h:∀ v∈s::rest++os,P v) (k:∀ v∈rest,P (low1 p s v)):∀ v∈s::left1 p s rest++(os++left0 p s rest),P v:=fun v hv=>by
 rcases List.mem_append.mp hv with a|a
 ·rcases List.mem_cons.mp a with rfl|a
  ·exact h v (by simp)
  ·obtain ⟨u,hu,rfl,_⟩:=mem_left1 a
   exact k u hu
 ·rcases List.mem_append.mp a with a|a
  ·exact h v (by simp [a])
  ·obtain ⟨u,hu,rfl,_⟩:=mem_left0 a
   exact k u hu
theorem left_sign {n p:Nat} {s:List Int} {rest:List (List Int)} (ls:s.length=n) (lr:Len n rest) (hsn:s.getD p 0≠0):(∀ v∈s::left1 p s rest,0<v.getD p 0)∨∀ v∈s::left1 p s rest,v.getD p 0<0:=by
 rcases Int.lt_or_gt_of_ne hsn with z|z
 ·refine .inr fun v hv=>?_
  rcases List.mem_cons.mp hv with rfl|a
  ·exact z
  ·obtain ⟨u',hu',rfl,hn⟩:=mem_left1 a
   have:=(fm_bd (u'.getD p 0) hsn).2.2 z
   rw [low1_p (lr u' hu') ls] at hn ⊢
   lia
 ·refine .inl fun v hv=>?_
  rcases List.mem_cons.mp hv with rfl|a
  ·exact z
  ·obtain ⟨u',hu',rfl,hn⟩:=mem_left1 a
   have:=(fm_bd (u'.getD p 0) hsn).2.1 z
   rw [low1_p (lr u' hu') ls] at hn ⊢
   lia
theorem left_hi {n p:Nat} {s:List Int} {rest:List (List Int)} (ls:s.length=n) (lr:Len n rest) (hsn:s.getD p 0≠0):∀ v∈s::left1 p s rest,at' p v≤at' p s:=fun v hv=>by
 rcases List.mem_cons.mp hv with rfl|a
 ·exact Nat.le_refl _
 ·obtain ⟨u,hu,rfl,_⟩:=mem_left1 a
  exact Nat.le_of_lt (low1_lt (lr u hu) ls hsn)
theorem PT.turn {n p X m k:Nat} {s:List Int} {rest os:List (List Int)} (h:PT p X m k (s::rest) os) (ls:s.length=n) (lr:Len n rest) (hsn:s.getD p 0≠0) (hs:∀ v∈rest,at' p s≤at' p v) :
  ∃ X',(∀ v∈rest,BdM X' (low1 p s v))∧X≤X'∧X'*at' p s≤X*k∧(left1 p s rest=[]∨PT p X' (at' p s) m (s::left1 p s rest) (os++left0 p s rest)):=by
 have hl:0<at' p s:=by unfold at';lia
 have bs:=h.bd s (by simp)
 have br:∀ v∈rest,BdM X v:=fun v hv=>h.bd v (by simp [hv])
 have hsame:∀ v∈rest,Alike (v.getD p 0) (s.getD p 0):=fun v hv=>by
  rcases h.one with z|z
  ·exact .inl ⟨z v (List.mem_cons_of_mem _ hv),z s (.head _)⟩
  ·exact .inr ⟨z v (List.mem_cons_of_mem _ hv),z s (.head _)⟩
 have hq:∀ v∈rest,(qt v s p).natAbs*at' p s+at' p (low1 p s v)=at' p v:=fun v hv=>by
  have:=q_same (hsame v hv) (hs v hv)
  unfold at'
  rw [low1_p (lr v hv) ls]
  exact this
 have hm:∀ v∈rest,at' p v≤m:=fun v hv=>h.hi v (List.mem_cons_of_mem _ hv)
 have hQ:∀ v∈rest,(qt v s p).natAbs≤m / at' p s:=fun v hv=>by
  rw [Nat.le_div_iff_mul_le hl]
  have:=hq v hv
  have:=hm v hv
  lia
 have hk:at' p s+m≤k:=by
  obtain ⟨v,hv,e⟩:=h.low
  rcases List.mem_cons.mp hv with rfl|hv
  ·exact e
  ·have:=hs v hv
   lia
 have hb:∀ v∈rest,BdM (X+X*(m / at' p s)) (low1 p s v):=fun v hv=>low_bd (lr v hv) ls (br v hv) bs (hQ v hv)
 refine⟨X+X*(m / at' p s),hb,Nat.le_add_right _ _,?_,?_⟩
 ·have e1:X*(m / at' p s)*at' p s≤X*m:=by rw [Nat.mul_assoc];exact Nat.mul_le_mul_left _ (Nat.div_mul_le_self _ _)
  have e2:X*(at' p s+m)≤X*k:=Nat.mul_le_mul_left _ hk
  rw [Nat.mul_add] at e2
  rw [Nat.add_mul]
  lia
 ·by_cases hf:left1 p s rest=[]
  ·exact .inl hf
  ·refine .inr ⟨left_all (fun v hv=>(h.bd v hv).mono (Nat.le_add_right _ _)) hb,left_hi ls lr hsn,left_sign ls lr hsn,?_⟩
   obtain ⟨w,hw⟩:=List.exists_mem_of_ne_nil _ hf
   refine⟨w,List.mem_cons_of_mem _ hw,?_⟩
   obtain ⟨u,hu,rfl,hn⟩:=mem_left1 hw
   have h1:=hq u hu
   have h2:=hm u hu
   have h3:=low1_lt (lr u hu) ls hsn
   have h4:=hs u hu
   have h5:1≤(qt u s p).natAbs:=by
    rcases Nat.eq_zero_or_pos (qt u s p).natAbs with z|z
    ·rw [z,Nat.zero_mul] at h1
     lia
    ·exact z
   have h6:1*at' p s≤(qt u s p).natAbs*at' p s:=Nat.mul_le_mul_right _ h5
   lia
theorem PT.first {n p M A:Nat} {s:List Int} {rest os:List (List Int)} (ls:s.length=n) (lr:Len n rest) (hbd:∀ v∈s::rest++os,BdM M v) (hA:∀ v∈s::rest,at' p v≤A) (hsn:s.getD p 0≠0) (hs:∀ v∈rest,at' p s≤at' p v) :
  ∃ X',(∀ v∈rest,BdM X' (low1 p s v))∧M≤X'∧X'*at' p s≤3*(M*A)∧(left1 p s rest=[]∨PT p X' (at' p s) (2*A) (s::left1 p s rest) (os++left0 p s rest)):=by
 have hl:0<at' p s:=by unfold at';lia
 have bs:=hbd s (by simp)
 have br:∀ v∈rest,BdM M v:=fun v hv=>hbd v (by simp [hv])
 have lA:at' p s≤A:=hA s (.head _)
 have hQ:∀ v∈rest,(qt v s p).natAbs≤2*A / at' p s:=fun v hv=>by
  rw [Nat.le_div_iff_mul_le hl]
  have a:=q_any hsn (hs v hv)
  have b:=hA v (List.mem_cons_of_mem _ hv)
  have a':(qt v s p).natAbs*at' p s≤2*at' p v:=a
  lia
 have hb:∀ v∈rest,BdM (M+M*(2*A / at' p s)) (low1 p s v):=fun v hv=>low_bd (lr v hv) ls (br v hv) bs (hQ v hv)
 refine⟨M+M*(2*A / at' p s),hb,Nat.le_add_right _ _,?_,?_⟩
 ·have e1:M*(2*A / at' p s)*at' p s≤M*(2*A):=by rw [Nat.mul_assoc];exact Nat.mul_le_mul_left _ (Nat.div_mul_le_self _ _)
  have e2:M*at' p s≤M*A:=Nat.mul_le_mul_left _ lA
  have e3:M*(2*A)=2*(M*A):=Nat.mul_left_comm _ _ _
  rw [Nat.add_mul]
  lia
 ·by_cases hf:left1 p s rest=[]
  ·exact .inl hf
  ·refine .inr ⟨left_all (fun v hv=>(hbd v hv).mono (Nat.le_add_right _ _)) hb,left_hi ls lr hsn,left_sign ls lr hsn,?_⟩
   obtain ⟨w,hw⟩:=List.exists_mem_of_ne_nil _ hf
   refine⟨w,List.mem_cons_of_mem _ hw,?_⟩
   have:=left_hi ls lr hsn w (List.mem_cons_of_mem _ hw)
   lia
noncomputable def PJ (n p M A:Nat) (led os:List (List Int)):Prop :=
 (∀ v∈led++os,v.length=n)∧(∀ v∈led,v.getD p 0≠0)∧(∀ v∈os,v.getD p 0=0)∧(∀ v∈led,at' p v≤A) ∧
  ((∀ v∈led++os,BdM M v)∨(∃ X m k,PT p X m k led os∧0<m∧0<k∧X*m*k≤6*(M*(A*A)))∨(led.length≤1∧∀ v∈led++os,BdM (6*(M*(A*A))) v))
theorem PJ.bd {n p M A:Nat} {led os:List (List Int)} (hA:0<A) (h:PJ n p M A led os):∀ v∈led++os,BdM (6*(M*(A*A))) v:=by
 obtain ⟨_,_,_,_,h|⟨X,m,k,h,hm,hk,hN⟩|h⟩:=h
 ·refine fun v hv=>(h v hv).mono ?_
  have:M*1≤M*(A*A):=Nat.mul_le_mul_left _ (Nat.mul_pos hA hA)
  lia
 ·refine fun v hv=>(h.bd v hv).mono ?_
  have h1:X*1≤X*(m*k):=Nat.mul_le_mul_left _ (Nat.mul_pos hm hk)
  rw [← Nat.mul_assoc] at h1
  lia
 ·exact h.2
theorem PJ.turn {n p M A:Nat} {s:List Int} {rest led os:List (List Int)} (hA0:0<A) (h:PJ n p M A led os) (e:(s::rest).Perm led) (hr:rest≠[]) (hs:∀ v∈rest,at' p s≤at' p v) :
  PJ n p M A (s::left1 p s rest) (os++left0 p s rest)∧mz p (s::left1 p s rest)<mz p led∧Eqv n (led++os) (s::left1 p s rest++(os++left0 p s rest)):=by
 have hBd:=h.bd hA0
 obtain ⟨h1,h2,h3,hA,h4⟩:=h
 have mem:∀ v,v∈s::rest↔v∈led:=fun v=>e.mem_iff
 have mem2:∀ v,v∈s::rest++os→v∈led++os:=fun v hv=>(List.mem_append.mp hv).elim (fun z=>List.mem_append_left _ ((mem v).mp z)) fun z=>List.mem_append_right _ z
 have h1':∀ v∈s::rest++os,v.length=n:=fun v hv=>h1 v (mem2 v hv)
 have h2':∀ v∈s::rest,v.getD p 0≠0:=fun v hv=>h2 v ((mem v).mp hv)
 have hA':∀ v∈s::rest,at' p v≤A:=fun v hv=>hA v ((mem v).mp hv)
 have ls:=h1' s (by simp)
 have lr:Len n rest:=fun v hv=>h1' v (by simp [hv])
 have hsn:=h2' s (.head _)
 have hl:0<at' p s:=by unfold at';lia
 have fin:∀ {X':Nat},(∀ v∈rest,BdM X' (low1 p s v))→X'≤6*(M*(A*A))→left1 p s rest=[]→(s::left1 p s rest).length≤1∧∀ v∈s::left1 p s rest++(os++left0 p s rest),BdM (6*(M*(A*A))) v:=fun {X'} b c z =>
  ⟨by rw [z];exact Nat.le_refl _,left_all (fun v hv=>hBd v (mem2 v hv)) fun v hv=>(b v hv).mono c⟩
 refine⟨⟨left_all h1' fun v hv=>low1_len (lr v hv) ls,fun v hv=>?_,fun v hv=>?_,fun v hv=>Nat.le_trans (left_hi ls lr hsn v hv) (hA' s (.head _)),?_⟩,?_,(Eqv.mem fun x=>?_).trans (turn_eqv ls lr)⟩
 ·rcases List.mem_cons.mp hv with rfl|a
  ·exact hsn
  ·simpa using (List.mem_filter.mp a).2
 ·rcases List.mem_append.mp hv with a|a
  ·exact h3 v a
  ·simpa using (List.mem_filter.mp a).2
 ·rcases h4 with h4|⟨X,m,k,h4,hm,hk,hN⟩|h4
  ·obtain ⟨X',b1,b2,b3,b4⟩:=PT.first ls lr (fun v hv=>h4 v (mem2 v hv)) hA' hsn hs
   rcases b4 with z|z
   ·refine .inr (.inr (fin b1 ?_ z))
    have e1:X'*1≤X'*at' p s:=Nat.mul_le_mul_left _ hl
    have e2:M*A*1≤M*A*A:=Nat.mul_le_mul_left _ hA0
    rw [Nat.mul_assoc M A A] at e2
    lia
   ·refine .inr (.inl ⟨X',_,_,z,hl,by lia,?_⟩)
    calc X'*at' p s*(2*A)≤3*(M*A)*(2*A):=Nat.mul_le_mul_right _ b3
     _=6*(M*(A*A)):=by rw [show 3*(M*A)*(2*A)=(3*2)*(M*(A*A)) by ac_rfl]
  ·have h5:PT p X m k (s::rest) os:=⟨fun v hv=>h4.bd v (mem2 v hv),fun v hv=>h4.hi v ((mem v).mp hv),h4.one.imp (fun z v hv=>z v ((mem v).mp hv)) fun z v hv=>z v ((mem v).mp hv),by
    obtain ⟨v,hv,z⟩:=h4.low
    exact⟨v,(mem v).mpr hv,z⟩⟩
   obtain ⟨X',b1,b2,b3,b4⟩:=h5.turn ls lr hsn hs
   rcases b4 with z|z
   ·refine .inr (.inr (fin b1 ?_ z))
    have e1:X'*1≤X'*at' p s:=Nat.mul_le_mul_left _ hl
    have e2:X*k*1≤X*k*m:=Nat.mul_le_mul_left _ hm
    rw [show X*k*m=X*m*k by ac_rfl] at e2
    lia
   ·refine .inr (.inl ⟨X',_,_,z,hl,hm,?_⟩)
    calc X'*at' p s*m≤X*k*m:=Nat.mul_le_mul_right _ b3
     _=X*m*k:=by ac_rfl
     _≤_:=hN
  ·exact absurd h4.1 (by have:=e.length_eq;rw [List.length_cons] at this;cases rest with|nil=>exact absurd rfl hr|cons x y=>simp at this;lia)
 ·have hz:mz p (rest.map (low1 p s))<mz p rest:=mz_less hr hs fun v hv=>low1_lt (lr v hv) ls hsn
  have hf:mz p (left1 p s rest)≤mz p (rest.map (low1 p s)):=mz_filter p _ _
  have hp:mz p led=mz p (s::rest):=by
   unfold mz
   exact ((e.map (at' p)).sum_nat).symm
  rw [hp]
  show (at' p s::(left1 p s rest).map (at' p)).sum<(at' p s::rest.map (at' p)).sum
  rw [List.sum_cons,List.sum_cons]
  unfold mz at hz hf
  lia
 ·rw [List.mem_append,List.mem_append,← mem x]
end Mth
namespace Mth
noncomputable def gs (b:Nat):Nat→Nat
 | 0=>b
 | i+1=>3*gs b i+3
noncomputable def ss (b:Nat):Nat→Nat
 | 0=>0
 | i+1=>ss b i+gs b (i+1)+1
theorem gs_step (b i:Nat):6*(2 ^ gs b i*(2 ^ gs b i*2 ^ gs b i))<2 ^ gs b (i+1):=by
 have e:(2:Nat) ^ gs b (i+1)=8*(2 ^ gs b i*(2 ^ gs b i*2 ^ gs b i)):=by
  rw [gs,Nat.pow_add,show 3*gs b i=gs b i+(gs b i+gs b i) by lia,Nat.pow_add,Nat.pow_add]
  lia
 have h:0<(2:Nat) ^ gs b i:=Nat.two_pow_pos _
 have h2:=Nat.mul_pos h (Nat.mul_pos h h)
 rw [e]
 lia
end Mth
namespace Mth
theorem drop_get {α:Type} {l:List α} {i:Nat} {x:α} (h:l[i]?=some x):l.drop i=x::l.drop (i+1):=by
 obtain ⟨h1,h2⟩:=List.getElem?_eq_some_iff.mp h
 rw [List.drop_eq_getElem_cons h1,h2]
end Mth
namespace Mth
noncomputable def unitv (j n:Nat):List Int:=(List.range n).map fun i=>if i=j then 1 else 0
theorem unitv_len (j n:Nat):(unitv j n).length=n:=by simp [unitv]
theorem unitv_at {j n i:Nat} (h:i<n):(unitv j n).getD i 0=if i=j then 1 else 0:=by
 rw [unitv,List.getD,List.getElem?_map,List.getElem?_range h]
 rfl
theorem zer_take {n w:Nat} (h:w≤n):(zer n).take w=zer w:=by simp [zer,Nat.min_eq_left h]
theorem sub_take (a b:List Int) (w:Nat):(sub a b).take w=sub (a.take w) (b.take w):=by simp only [sub,List.take_zipWith]
theorem Span.take {n w:Nat} {as:List (List Int)} {v:List Int} (hw:w≤n) (h:Span n as v):Span w (as.map (List.take w)) (v.take w):=by
 refine h (fun v=>Span w (as.map (List.take w)) (v.take w)) ⟨?_,fun a b la lb ha hb=>?_⟩ fun r hr=>Span.mem (List.mem_map.mpr ⟨r,hr,rfl⟩)
 ·show Span w _ ((zer n).take w)
  rw [zer_take hw];exact Span.zero
 ·show Span w _ ((Mth.sub a b).take w)
  rw [sub_take]
  exact Span.sub (take_len la hw) (take_len lb hw) ha hb
theorem Eqv.take {n w:Nat} {as bs:List (List Int)} (hw:w≤n) (h:Eqv n as bs):Eqv w (as.map (List.take w)) (bs.map (List.take w)):=by
 refine⟨fun r hr=>?_,fun r hr=>?_⟩
 ·obtain ⟨u,hu,rfl⟩:=List.mem_map.mp hr
  exact (h.1 u hu).take hw
 ·obtain ⟨u,hu,rfl⟩:=List.mem_map.mp hr
  exact (h.2 u hu).take hw
theorem unitv_bd (j n b:Nat):BdM (2 ^ b) (unitv j n):=fun i=>by
 by_cases h:i<n
 ·rw [unitv_at h]
  have:0<2 ^ b:=Nat.two_pow_pos _
  split <;> simp <;> lia
 ·rw [List.getD,List.getElem?_eq_none (by rw [unitv_len];lia)]
  exact Nat.zero_le _
theorem app_bd {M:Nat} {r q:List Int} (hr:BdM M r) (hq:BdM M q):BdM M (r++q):=fun i=>by
 rw [List.getD,List.getElem?_append]
 split
 ·exact hr i
 ·exact hq _
end Mth
namespace Mth
theorem led_lt {s:List Int} {w k:Nat} (h:Led (s.take w) k):k<w:=by
 have:=h.1
 by_cases c:k<w
 ·exact c
 ·rw [take_out _ (by lia)] at this
  exact absurd this (by decide)
end Mth
namespace Mth
noncomputable def dt (a b:List Int):Int:=(List.zipWith (·*·) a b).sum
theorem dt_nil (a:List Int):dt a []=0:=by simp [dt]
theorem dt_snoc:∀ (a ws:List Int) (x:Int),ws.length<a.length→dt a (ws++[x])=dt a ws+a.getD ws.length 0*x
 | a::as,[],x,_=>by simp [dt]
 | a::as,w::ws,x,h=>by
  have:=dt_snoc as ws x (by simpa using h)
  unfold dt at this ⊢
  simp only [List.cons_append,List.zipWith_cons_cons,List.sum_cons,List.length_cons,List.getD_cons_succ]
  rw [this]
  lia
theorem dt_comm:∀ (a b:List Int),dt a b=dt b a
 | [],[]=>rfl
 | [],_::_=>rfl
 | _::_,[]=>rfl
 | x::a,y::b=>by
  have h:=dt_comm a b
  unfold dt at h ⊢
  simp only [List.zipWith_cons_cons,List.sum_cons]
  rw [h,Int.mul_comm]
theorem dt_ext {n:Nat}:∀ {a b c:List Int},a.length=n→b.length=n→c.length=n→(∀ i,i<n→a.getD i 0=0∨b.getD i 0=c.getD i 0)→dt a b=dt a c:=by
 induction n with
 | zero=>intro a b c ha hb hc _;rw [List.length_eq_zero_iff.mp ha];simp [dt]
 | succ n ih =>
  intro a b c ha hb hc h
  match a,b,c,ha,hb,hc with
  | x::a,y::b,z::c,ha,hb,hc =>
   have e:=ih (a:=a) (b:=b) (c:=c) (by simpa using ha) (by simpa using hb) (by simpa using hc) fun i hi=>by
    have:=h (i+1) (by lia)
    simpa using this
   have h0:=h 0 (by lia)
   unfold dt at e ⊢
   simp only [List.zipWith_cons_cons,List.sum_cons]
   rw [e]
   rcases h0 with h0|h0
   ·have:x=0:=by simpa using h0
    rw [this];simp
   ·have:y=z:=by simpa using h0
    rw [this]
theorem dt_sub {n:Nat}:∀ {a b c:List Int},a.length=n→b.length=n→c.length=n→dt (sub a b) c=dt a c - dt b c:=by
 induction n with
 | zero=>intro a b c ha hb hc;rw [List.length_eq_zero_iff.mp ha,List.length_eq_zero_iff.mp hb];simp [dt,sub]
 | succ n ih =>
  intro a b c ha hb hc
  match a,b,c,ha,hb,hc with
  | x::a,y::b,z::c,ha,hb,hc =>
   have e:=ih (a:=a) (b:=b) (c:=c) (by simpa using ha) (by simpa using hb) (by simpa using hc)
   unfold dt sub at e ⊢
   simp only [List.zipWith_cons_cons,List.sum_cons]
   rw [e,Int.sub_mul]
   lia
theorem dt_zer (n:Nat) (c:List Int):dt (zer n) c=0:=by
 induction n generalizing c with
 | zero=>simp [dt,zer]
 | succ n ih =>
  cases c with
  | nil=>exact dt_nil _
  | cons x c =>
   have:=ih c
   unfold dt zer at this ⊢
   simp only [List.replicate_succ,List.zipWith_cons_cons,List.sum_cons]
   rw [this]
   simp
structure Tri (R:List (List Int)):Prop where
 len:R.length=5
 row:∀ r∈R,r.length=5
 pos:∀ (h:Nat) (r:List Int),R[h]?=some r→0<r.getD h 0
 zero:∀ (h:Nat) (r:List Int) (j:Nat),R[h]?=some r→h<j→r.getD j 0=0
noncomputable def pd (R:List (List Int)):Nat→Nat→Int
 | _,0=>1
 | h,k+1=>(R.getD h []).getD h 0*pd R (h+1) k
noncomputable def Pd (R:List (List Int)) (h:Nat):Int:=pd R h (5 - h)
theorem Pd_step (R:List (List Int)) {h:Nat} (hh:h<5):Pd R h=(R.getD h []).getD h 0*Pd R (h+1):=by
 unfold Pd
 rw [show 5 - h=(5 - (h+1))+1 by lia,pd]
theorem Pd_end (R:List (List Int)):Pd R 5=1:=rfl
theorem Pd_dvd (R : List (List Int)) {j : Nat} : ∀ {h : Nat}, h ≤ j → j ≤ 5 → Pd R j ∣ Pd R h := by
  intro h hj h5
  induction j with
  | zero => obtain rfl : h=0 := by lia
            exact Int.dvd_refl _
  | succ j ih =>
    by_cases e : h=j+1
    · rw [e];exact Int.dvd_refl _
    · refine Int.dvd_trans ?_ (ih (by lia) (by lia))
      rw [Pd_step R (show j<5 by lia)]
      exact Int.dvd_mul_left _ _
structure WI (R:List (List Int)) (p:Nat) (whole:Int) (ws:List Int):Prop where
 eq:∀ (h:Nat) (r:List Int),h<ws.length→R[h]?=some r→dt r (ws.take (h+1))=if h=p then whole else 0
 dv:∀ (j:Nat),j<ws.length→Pd R (j+1) ∣ ws.getD j 0
 lo:∀ j,j<ws.length→j<p→ws.getD j 0=0
theorem dt_dvd {d:Int}:∀ {a b:List Int},(∀ j,j<b.length→d ∣ b.getD j 0)→d ∣ dt a b
 | [],_,_=>by simp [dt]
 | _::_,[],_=>by simp [dt]
 | x::a,y::b,h=>by
  unfold dt
  simp only [List.zipWith_cons_cons,List.sum_cons]
  refine Int.dvd_add (Int.dvd_mul_of_dvd_right (by simpa using h 0 (by simp))) ?_
  exact dt_dvd (a:=a) (b:=b) fun j hj=>by simpa using h (j+1) (by simpa using hj)
theorem WI.next {R:List (List Int)} {p:Nat} {whole:Int} {ws:List Int} {r:List Int} (T:Tri R) (hw:whole=Pd R 0) (h:WI R p whole ws) (hr:R[ws.length]?=some r) :
  let x:=((if ws.length=p then whole else 0) - dt r ws).fdiv (r.getD ws.length 0)
  r.getD ws.length 0*x=(if ws.length=p then whole else 0) - dt r ws∧WI R p whole (ws++[x]):=by
 intro x
 have hl:ws.length<5:=by have:=(List.getElem?_eq_some_iff.mp hr).1;rw [T.len] at this;exact this
 have hpos:=T.pos _ _ hr
 have hlr:=T.row r (List.mem_of_getElem? hr)
 have eg:R.getD ws.length []=r:=by rw [List.getD,hr];rfl
 have e1:Pd R ws.length=r.getD ws.length 0*Pd R (ws.length+1):=by rw [Pd_step R hl,eg]
 have hdv:Pd R ws.length ∣ (if ws.length=p then whole else 0) - dt r ws:=by
  refine Int.dvd_sub ?_ (dt_dvd fun j hj=>Int.dvd_trans (Pd_dvd R (by lia) (by lia)) (h.dv j hj))
  split
  ·rw [hw];exact Pd_dvd R (Nat.zero_le _) (by lia)
  ·exact Int.dvd_zero _
 have hex:r.getD ws.length 0*x=(if ws.length=p then whole else 0) - dt r ws:=by
  obtain ⟨c,hc⟩:=Int.dvd_trans (⟨_,e1⟩:r.getD ws.length 0 ∣ Pd R ws.length) hdv
  show r.getD ws.length 0*(((if ws.length=p then whole else 0) - dt r ws).fdiv (r.getD ws.length 0))=_
  rw [hc,Int.mul_comm,Int.mul_fdiv_cancel_left _ (by lia),Int.mul_comm]
 refine⟨hex,fun k q hk hq=>?_,fun j hj=>?_,fun j hj hjp=>?_⟩
 ·by_cases e:k=ws.length
  ·subst e
   rw [hr] at hq
   cases hq
   rw [List.take_of_length_le (by simp),dt_snoc _ _ _ (by lia),hex]
   lia
  ·have hk':k<ws.length:=by simp at hk;lia
   rw [List.take_append_of_le_length (by lia)]
   exact h.eq k q hk' hq
 ·by_cases e:j=ws.length
  ·subst e
   rw [List.getD,List.getElem?_append_right (Nat.le_refl _),Nat.sub_self]
   show Pd R (ws.length+1) ∣ x
   obtain ⟨c,hc⟩:=hdv
   refine⟨c,?_⟩
   have:r.getD ws.length 0*x=r.getD ws.length 0*(Pd R (ws.length+1)*c):=by rw [hex,hc,e1,Int.mul_assoc]
   exact Int.eq_of_mul_eq_mul_left (by lia) this
  ·have hj':j<ws.length:=by simp at hj;lia
   rw [List.getD,List.getElem?_append_left hj']
   exact h.dv j hj'
 ·by_cases e:j=ws.length
  ·subst e
   have hz:dt r ws=0:=by
    have hzz:∀ j,j<ws.length→(0:Int) ∣ ws.getD j 0:=fun j hj=>by rw [h.lo j hj (by lia)];exact Int.dvd_refl _
    exact Int.zero_dvd.mp (dt_dvd hzz)
   rw [List.getD,List.getElem?_append_right (Nat.le_refl _),Nat.sub_self]
   show x=0
   have:r.getD ws.length 0*x=0:=by rw [hex,if_neg (by lia),hz];rfl
   rcases Int.mul_eq_zero.mp this with z|z
   ·lia
   ·exact z
  ·have hj':j<ws.length:=by simp at hj;lia
   rw [List.getD,List.getElem?_append_left hj']
   exact h.lo j hj' hjp
theorem WI.start (R:List (List Int)) (p:Nat) (whole:Int):WI R p whole []:=⟨fun h r hh=>by simp at hh,fun j hj=>by simp at hj,fun j hj=>by simp at hj⟩
theorem WI.all {R:List (List Int)} {p:Nat} {whole:Int} {ws:List Int} (T:Tri R) (h:WI R p whole ws) (hl:ws.length=5):∀ k r,R[k]?=some r→dt r ws=if k=p then whole else 0:=fun k r hr=>by
 have hk:k<5:=by have:=(List.getElem?_eq_some_iff.mp hr).1;rw [T.len] at this;exact this
 rw [← h.eq k r (by lia) hr]
 have lt:(ws.take (k+1)).length=k+1:=by rw [List.length_take];lia
 have e:dt r (ws.take (k+1))=dt (r.take (k+1)) ws:=by
  unfold dt
  congr 1
  have h1:List.zipWith (·*·) r (ws.take (k+1))=(List.zipWith (·*·) r ws).take (k+1):=by
   apply List.ext_getElem?
   intro i
   by_cases c:i<k+1
   ·simp [List.getElem?_zipWith,List.getElem?_take,c]
   ·simp only [List.getElem?_zipWith,List.getElem?_take,if_neg c]
    cases r[i]? <;> rfl
  have h2:List.zipWith (·*·) (r.take (k+1)) ws=(List.zipWith (·*·) r ws).take (k+1):=by
   apply List.ext_getElem?
   intro i
   by_cases c:i<k+1
   ·simp [List.getElem?_zipWith,List.getElem?_take,c]
   ·simp only [List.getElem?_zipWith,List.getElem?_take,if_neg c]
  rw [h1,h2]
 have lr:=T.row r (List.mem_of_getElem? hr)
 have e2:dt r ws=dt (r.take (k+1)++zer (4 - k)) ws:=by
  rw [dt_comm r,dt_comm _ ws]
  refine dt_ext (n:=5) hl lr (by rw [List.length_append,zer_len,List.length_take];lia) fun i hi=>?_
  by_cases c:i<k+1
  ·right
   rw [List.getD,List.getD,List.getElem?_append_left (by rw [List.length_take];lia),List.getElem?_take,if_pos c]
  ·right
   rw [T.zero k r i hr (by lia),List.getD,List.getElem?_append_right (by rw [List.length_take];lia)]
   exact (zer_at _ _).symm
 rw [e2,e]
 have e3:∀ (a:List Int) (m:Nat) (c:List Int),dt (a++zer m) c=dt a c:=by
  intro a m c
  induction a generalizing c with
  | nil=>rw [List.nil_append,dt_zer];simp [dt]
  | cons x a ih =>
   cases c with
   | nil=>rw [dt_nil,dt_nil]
   | cons y c =>
    have:=ih c
    unfold dt at this ⊢
    simp only [List.cons_append,List.zipWith_cons_cons,List.sum_cons]
    rw [this]
 exact e3 _ _ _
end Mth
namespace Mth
structure BP (st R:List (List Int)):Prop where
 len:R.length=5
 at_:∀ (h:Nat) (r:List Int),R[h]?=some r→(r∈st∧Led r h)∨((∀ s∈st,¬ Led s h)∧r=unitv h 5)
 in_:∀ s∈st,∀ h,Led s h→R[h]?=some s
theorem unitv_led {h n:Nat} (hh:h<n):Led (unitv h n) h:=by
 refine⟨by rw [unitv_at hh,if_pos rfl];decide,fun i hi=>?_⟩
 by_cases c:i<n
 ·rw [unitv_at c,if_neg (by lia)]
 ·rw [List.getD,List.getElem?_eq_none (by rw [unitv_len];lia)];rfl
theorem BP.led {st R:List (List Int)} (b:BP st R) {h:Nat} {r:List Int} (hr:R[h]?=some r):Led r h:=by
 rcases b.at_ h r hr with z|z
 ·exact z.2
 ·rw [z.2]
  exact unitv_led (by have:=(List.getElem?_eq_some_iff.mp hr).1;rw [b.len] at this;exact this)
theorem BP.tri {st R:List (List Int)} (b:BP st R) (hl:Len 5 st):Tri R :=
 ⟨b.len,fun r hr=>by
  obtain ⟨h,hh,e⟩:=List.getElem_of_mem hr
  rcases b.at_ h r (by rw [List.getElem?_eq_getElem hh,e]) with z|z
  ·exact hl r z.1
  ·rw [z.2,unitv_len],fun h r hr=>(b.led hr).1,fun h r j hr hj=>(b.led hr).2 j hj⟩
theorem getD_of' {R:List (List Int)} {h:Nat} {r:List Int} (hr:R[h]?=some r):R.getD h []=r:=by rw [List.getD,hr];rfl
theorem get5 {R:List (List Int)} (hl:R.length=5) {h:Nat} (hh:h<5):∃ r,R[h]?=some r:=⟨R[h]'(by lia),List.getElem?_eq_getElem _⟩
theorem BP.one {st R:List (List Int)} (b:BP st R) {h:Nat} (hh:h<5) (hn:∀ s∈st,¬ Led s h):(R.getD h []).getD h 0=1:=by
 obtain ⟨r,hr⟩:=get5 b.len hh
 rw [getD_of' hr]
 rcases b.at_ h _ hr with z|z
 ·exact absurd z.2 (hn _ z.1)
 ·rw [z.2,unitv_at hh,if_pos rfl]
theorem Pd_gap {st R : List (List Int)} (b : BP st R) {a c : Nat} (hac : a ≤ c) (hc : c ≤ 5) (hn : ∀ t, a ≤ t → t<c → ∀ s ∈ st, ¬ Led s t) : Pd R a=Pd R c := by
  induction c with
  | zero => obtain rfl : a=0 := by lia
            rfl
  | succ c ih =>
    by_cases e : a=c+1
    · rw [e]
    · rw [ih (by lia) (by lia) fun t h1 h2 => hn t h1 (by lia), Pd_step R (show c<5 by lia), b.one (by lia) (hn c (by lia) (by lia)), Int.one_mul]
theorem led5 {r:List Int} {h:Nat} (hl:r.length=5) (h1:Led r h):h<5:=by
 have:=h1.1
 by_cases c:h<5
 ·exact c
 ·rw [List.getD,List.getElem?_eq_none (by lia)] at this
  exact absurd this (by decide)
theorem sf_lt {st:List (List Int)} (sf:SF st) {i j k l:Nat} {a b:List Int} (hij:i<j) (ha:st[i]?=some a) (hb:st[j]?=some b) (hk:Led a k) (hl:Led b l):l<k:=by
 obtain ⟨p1,e1⟩:=List.getElem?_eq_some_iff.mp ha
 obtain ⟨p2,e2⟩:=List.getElem?_eq_some_iff.mp hb
 have:=List.pairwise_iff_getElem.mp sf.2 i j p1 p2 hij
 rw [e1,e2] at this
 obtain ⟨⟨j',h1,h2⟩,_⟩:=this l hl
 rw [hk.uniq h2]
 exact h1
theorem Pd_lead {st R:List (List Int)} (b:BP st R) (sf:SF st) (hl:Len 5 st) {i k k':Nat} {s:List Int} (hs:st[i]?=some s) (hk':Led s k') (hk:(i=0∧k=5)∨∃ j a,j+1=i∧st[j]?=some a∧Led a k):Pd R k*s.getD k' 0=Pd R k':=by
 have h5:=led5 (hl s (List.mem_of_getElem? hs)) hk'
 have hlt:k'<k:=by
  rcases hk with z|⟨j,a,e,ha,hka⟩
  ·lia
  ·exact sf_lt sf (by lia) ha hs hka hk'
 have hk5:k≤5:=by
  rcases hk with z|⟨j,a,e,ha,hka⟩
  ·lia
  ·have:=led5 (hl a (List.mem_of_getElem? ha)) hka
   lia
 have e1:Pd R (k'+1)=Pd R k:=Pd_gap b (by lia) hk5 fun t h1 h2 q hq hqt=>by
  obtain ⟨n,hn,eq⟩:=List.getElem_of_mem hq
  have hn':st[n]?=some q:=by rw [List.getElem?_eq_getElem hn,eq]
  rcases (show n<i∨n=i∨i<n by lia) with c|c|c
  ·rcases hk with z|⟨j,a,e,ha,hka⟩
   ·lia
   ·by_cases c2:n=j
    ·subst c2
     rw [hn'] at ha
     cases ha
     have:=hqt.uniq hka
     lia
    ·have:=sf_lt sf (show n<j by lia) hn' ha hqt hka
     lia
  ·subst c
   rw [hn'] at hs
   cases hs
   have:=hqt.uniq hk'
   lia
  ·have:=sf_lt sf c hs hn' hk' hqt
   lia
 rw [Pd_step R h5,e1,getD_of' (b.in_ s (List.mem_of_getElem? hs) k' hk')]
 exact Int.mul_comm _ _
theorem Pd_whole {st R:List (List Int)} (b:BP st R) (sf:SF st) (hl:Len 5 st) {k:Nat} (hk:(st=[]∧k=5)∨∃ j a,j+1=st.length∧st[j]?=some a∧Led a k):Pd R k=Pd R 0:=by
 have hk5:k≤5:=by
  rcases hk with z|⟨j,a,e,ha,hka⟩
  ·lia
  ·have:=led5 (hl a (List.mem_of_getElem? ha)) hka
   lia
 refine (Pd_gap b (Nat.zero_le _) hk5 fun t h1 h2 q hq hqt=>?_).symm
 rcases hk with z|⟨j,a,e,ha,hka⟩
 ·rw [z.1] at hq;simp at hq
 ·obtain ⟨n,hn,eq⟩:=List.getElem_of_mem hq
  have hn':st[n]?=some q:=by rw [List.getElem?_eq_getElem hn,eq]
  by_cases c2:n=j
  ·subst c2
   rw [hn'] at ha
   cases ha
   have:=hqt.uniq hka
   lia
  ·have:=sf_lt sf (show n<j by lia) hn' ha hqt hka
   lia
theorem Pd_pos {R:List (List Int)} (T:Tri R) {h:Nat} (hh:h≤5):0<Pd R h:=by
 obtain ⟨n,rfl⟩:∃ n,h=5 - n:=⟨5 - h,by lia⟩
 have hn:n≤5∨5<n:=by lia
 induction n with
 | zero=>rw [Nat.sub_zero,Pd_end];decide
 | succ n ih =>
  by_cases c:n<5
  ·have h1:=ih (by lia) (by lia)
   rw [Pd_step R (show 5 - (n+1)<5 by lia),show 5 - (n+1)+1=5 - n by lia]
   obtain ⟨r,hr⟩:=get5 T.len (show 5 - (n+1)<5 by lia)
   refine Int.mul_pos ?_ h1
   rw [getD_of' hr]
   exact T.pos _ _ hr
  ·rw [show 5 - (n+1)=5 - n by lia]
   exact ih (by lia) (by lia)
noncomputable def ringP (st:List (List Int)) (p:Nat) (whole ring:Int):Prop:=((∃ s∈st,Led s p)∧ring=whole)∨((∀ s∈st,¬ Led s p)∧ring=0)
theorem hears {st R:List (List Int)} {p:Nat} {whole ring:Int} {ws:List Int} (b:BP st R) (sf:SF st) (hl:Len 5 st) (h:WI R p whole ws) (hw:ws.length=5) (hr:ringP st p whole ring) {c:List Int} (hc:Span 5 st c):ring ∣ dt c ws:=by
 have T:=b.tri hl
 refine (hc (fun v=>v.length=5∧ring ∣ dt v ws) ⟨⟨rfl,by rw [dt_zer];exact Int.dvd_zero _⟩,fun x y lx ly hx hy=>⟨sub_len lx ly,by rw [dt_sub lx ly hw];exact Int.dvd_sub hx.2 hy.2⟩⟩ fun s hs=>⟨hl s hs,?_⟩).2
 obtain ⟨k,hk⟩:=sf.1 s hs
 rw [h.all T hw k s (b.in_ s hs k hk)]
 split
 ·rename_i e
  subst e
  rcases hr with ⟨_,rfl⟩|⟨z,_⟩
  ·exact Int.dvd_refl _
  ·exact absurd hk (z s hs)
 ·exact Int.dvd_zero _
theorem last_nz {v:List Int} {n:Nat} (hl:v.length=n) (h:v≠zer n):∃ k,k<n∧v.getD k 0≠0∧∀ i,k<i→v.getD i 0=0:=by
 have:∀ m,m≤n→(∀ i,m≤i→v.getD i 0=0)→∃ k,k<n∧v.getD k 0≠0∧∀ i,k<i→v.getD i 0=0:=by
  intro m
  induction m with
  | zero=>intro _ hz;exact absurd (ext_at hl (zer_len n) fun i _=>by rw [hz i (Nat.zero_le _),zer_at]) h
  | succ m ih =>
   intro hm hz
   by_cases c:v.getD m 0=0
   ·exact ih (by lia) fun i hi=>by
     by_cases e:i=m
     ·rw [e];exact c
     ·exact hz i (by lia)
   ·exact⟨m,by lia,c,fun i hi=>hz i (by lia)⟩
 exact this n (Nat.le_refl _) fun i hi=>by rw [List.getD,List.getElem?_eq_none (by lia)];rfl
theorem dt_one {n k:Nat} {a b:List Int} (ha:a.length=n) (hb:b.length=n) (hk:k<n) (h:∀ i,i<n→i≠k→a.getD i 0=0∨b.getD i 0=0):dt a b=a.getD k 0*b.getD k 0:=by
 have e:dt a b=dt (mulv (unitv k n) (a.getD k 0)) b:=by
  rw [dt_comm a,dt_comm _ b]
  refine dt_ext hb ha (mulv_len (unitv_len k n)) fun i hi=>?_
  rw [mulv_at,unitv_at hi]
  by_cases c:i=k
  ·subst c;right;rw [if_pos rfl,Int.one_mul]
  ·rcases h i hi c with z|z
   ·right;rw [if_neg c,Int.zero_mul];exact z
   ·left;exact z
 rw [e]
 have e2:∀ (n k:Nat) (b:List Int) (x:Int),b.length=n→k<n→dt (mulv (unitv k n) x) b=x*b.getD k 0:=by
  intro n
  induction n with
  | zero=>intro k b x _ hk;lia
  | succ n ih =>
   intro k b x hb hk
   match b,hb with
   | y::b,hb =>
    have hb':b.length=n:=by simpa using hb
    have eu:unitv k (n+1)=(if 0=k then 1 else 0)::(if k=0 then zer n else unitv (k - 1) n):=by
     refine ext_at (n:=n+1) (unitv_len _ _) (by rw [List.length_cons];by_cases c:k=0 <;> simp [c,zer_len,unitv_len]) fun i hi=>?_
     rw [unitv_at hi]
     cases i with
     | zero=>simp
     | succ i =>
      rw [List.getD_cons_succ]
      by_cases c:k=0
      ·rw [if_pos c,zer_at,if_neg (by lia)]
      ·rw [if_neg c,unitv_at (by lia)]
       by_cases c2:i+1=k
       ·rw [if_pos c2,if_pos (by lia)]
       ·rw [if_neg c2,if_neg (by lia)]
    rw [eu]
    by_cases c:k=0
    ·subst c
     have:mulv (zer n) x=zer n:=ext_at (mulv_len (zer_len n)) (zer_len n) fun i _=>by rw [mulv_at,zer_at,Int.zero_mul]
     show dt ((1*x)::mulv (zer n) x) (y::b)=x*y
     rw [this]
     have:=dt_zer n b
     unfold dt at this ⊢
     simp only [List.zipWith_cons_cons,List.sum_cons]
     rw [this]
     simp
    ·have:=ih (k - 1) b x hb' (by lia)
     show dt (((if 0=k then 1 else 0)*x)::mulv (if k=0 then zer n else unitv (k - 1) n) x) (y::b)=x*(y::b).getD k 0
     rw [if_neg (by lia),if_neg c]
     unfold dt at this ⊢
     simp only [List.zipWith_cons_cons,List.sum_cons]
     rw [this,show k=(k - 1)+1 by lia,List.getD_cons_succ]
     simp
 rw [e2 n k b _ hb hk]
theorem tells {st R:List (List Int)} {k:Nat} {whole ring:Int} {ws ρ:List Int} (b:BP st R) (hl:Len 5 st) (hW:whole=Pd R 0) (h:WI R k whole ws) (hw:ws.length=5) (hr:ringP st k whole ring)
  (lρ:ρ.length=5) (hk:k<5) (hnz:ρ.getD k 0≠0) (hz:∀ i,k<i→ρ.getD i 0=0) (hsm:∀ s∈st,Led s k→0≤ρ.getD k 0∧ρ.getD k 0<s.getD k 0):¬ ring ∣ dt ρ ws:=by
 have T:=b.tri hl
 obtain ⟨rk,hR⟩:=get5 T.len hk
 have hlr:=T.row _ (List.mem_of_getElem? hR)
 have e1:dt ρ ws=ρ.getD k 0*ws.getD k 0:=dt_one lρ hw hk fun i hi hne=>by
  rcases (show i<k∨k<i by lia) with c|c
  ·exact .inr (h.lo i (by lia) c)
  ·exact .inl (hz i c)
 have e2:rk.getD k 0*ws.getD k 0=whole:=by
  have:=h.all T hw k _ hR
  rw [if_pos rfl] at this
  rw [← this]
  exact (dt_one hlr hw hk fun i hi hne=>by
   rcases (show i<k∨k<i by lia) with c|c
   ·exact .inr (h.lo i (by lia) c)
   ·exact .inl (T.zero k _ i hR c)).symm
 have hwp:0<whole:=by rw [hW];exact Pd_pos T (Nat.zero_le _)
 have hRp:=T.pos k _ hR
 have hwk:0<ws.getD k 0:=by
  rcases Int.lt_trichotomy (ws.getD k 0) 0 with z|z|z
  ·have:=Int.mul_neg_of_pos_of_neg hRp z
   lia
  ·rw [z,Int.mul_zero] at e2;lia
  ·exact z
 rw [e1]
 rcases hr with ⟨⟨s,hs,hsk⟩,rfl⟩|⟨_,rfl⟩
 ·have es:rk=s:=by
   have:=b.in_ s hs k hsk
   rw [hR] at this
   exact Option.some.inj this
  have:=hsm s hs hsk
  rw [← es] at this
  intro hd
  have h1:0<ρ.getD k 0*ws.getD k 0:=Int.mul_pos (by lia) hwk
  have h2:ρ.getD k 0*ws.getD k 0<ring:=by rw [← e2];exact Int.mul_lt_mul_of_pos_right this.2 hwk
  have:=Int.le_of_dvd h1 hd
  lia
 ·intro hd
  have:=Int.zero_dvd.mp hd
  rcases Int.mul_eq_zero.mp this with z|z
  ·exact hnz z
  ·lia
end Mth
namespace Mth
theorem SF.lead_has {n j:Nat}:∀ {bs:List (List Int)} {v:List Int},SF bs→Len n bs→Span n bs v→v.getD j 0≠0→(∀ i,j<i→v.getD i 0=0)→∃ u∈bs,Led u j∧(u.getD j 0).natAbs≤(v.getD j 0).natAbs
 | [],v,_,_,hv,h0,_=>by
  rw [hv.none,zer_at] at h0
  exact absurd rfl h0
 | a::rs,v,h,hl,hv,h0,hz=>by
  obtain ⟨k,hk⟩:=h.1 a (.head _)
  have la:=hl a (.head _)
  have lr:Len n rs:=fun r hr=>hl r (.tail _ hr)
  obtain ⟨c,_,e,z⟩:=h.split la lr hk hv
  rcases Nat.lt_trichotomy k j with q|q|q
  ·exact absurd (z j q) h0
  ·subst q
   refine⟨a,.head _,hk,?_⟩
   have hc:c≠0:=fun z=>h0 (by rw [e,z,Int.mul_zero])
   rw [e,Int.natAbs_mul]
   exact Nat.le_mul_of_pos_right _ (by lia)
  ·obtain ⟨u,hu,r⟩:=SF.lead_has h.tail lr (h.rest la lr hk hv (hz k q)) h0 hz
   exact⟨u,.tail _ hu,r⟩
theorem SF.at_lead:∀ {rs:List (List Int)} {t u:List Int} {k:Nat},SF rs→t∈rs→u∈rs→Led u k→0≤t.getD k 0∧t.getD k 0≤u.getD k 0
 | [],_,_,_,_,h,_,_=>nomatch h
 | a::rs,t,u,k,h,ht,hu,hk=>by
  have hp:=List.pairwise_cons.mp h.2
  rcases List.mem_cons.mp ht with rfl|ht'
  ·rcases List.mem_cons.mp hu with rfl|hu'
   ·exact⟨Int.le_of_lt hk.1,Int.le_refl _⟩
   ·have:=(hp.1 u hu' k hk).2
    exact⟨this.1,Int.le_of_lt this.2⟩
  ·rcases List.mem_cons.mp hu with rfl|hu'
   ·rw [h.low0 hk (Nat.le_refl _) t ht']
    exact⟨Int.le_refl _,Int.le_of_lt hk.1⟩
   ·exact SF.at_lead h.tail ht' hu' hk
theorem SF.count:∀ {rs:List (List Int)} {n:Nat},SF rs→(∀ r∈rs,∀ k,Led r k→k<n)→rs.length≤n
 | [],_,_,_=>Nat.zero_le _
 | a::rs,n,h,hk=>by
  obtain ⟨j,hj⟩:=h.1 a (.head _)
  have:=hk a (.head _) j hj
  have ih:=SF.count h.tail (n:=j) fun r hr k hk'=>by
   obtain ⟨⟨j',hj',lj⟩,_⟩:=(List.pairwise_cons.mp h.2).1 r hr k hk'
   have:=lj.uniq hj
   lia
  rw [List.length_cons]
  lia
noncomputable def cr:Nat→Nat
 | 0=>0
 | r+1=>2*cr r+1
theorem lead_c {a x c:Int} {N:Nat} (ha:0<a) (e:x=a*c) (h:x.natAbs≤N*a.natAbs):c.natAbs≤N:=by
 rw [e,Int.natAbs_mul,Nat.mul_comm N] at h
 exact Nat.le_of_mul_le_mul_left h (by lia)
theorem low_c {n B N:Nat} {x a:List Int} {c:Int} {k:Nat} (lx:x.length=n) (la:a.length=n) (hc:c.natAbs≤N) {s:Int} (hx:(x.getD k 0).natAbs≤B*s.natAbs) (h0:0≤a.getD k 0) (h1:a.getD k 0<s):((low x a c).getD k 0).natAbs≤(B+N)*s.natAbs:=by
 rw [low_at lx la]
 have h2:(a.getD k 0*c).natAbs≤N*s.natAbs:=by
  rw [Int.natAbs_mul,Nat.mul_comm]
  exact Nat.mul_le_mul hc (by lia)
 rw [Nat.add_mul]
 exact Nat.le_trans (Int.natAbs_sub_le _ _) (Nat.add_le_add hx h2)
theorem un_low {n D B N:Nat} {x a:List Int} {c:Int} (lx:x.length=n) (la:a.length=n) (hc:c.natAbs≤N) (hl:BdM D (low x a c)) (ha:BdM B a):BdM (D+N*B) x:=fun i=>by
 have h1:=hl i
 rw [low_at lx la] at h1
 have h2:(a.getD i 0*c).natAbs≤N*B:=by
  rw [Int.natAbs_mul,Nat.mul_comm]
  exact Nat.mul_le_mul hc (ha i)
 have h3:=Int.natAbs_add_le (x.getD i 0 - a.getD i 0*c) (a.getD i 0*c)
 rw [Int.sub_add_cancel] at h3
 exact Nat.le_trans h3 (Nat.add_le_add h1 h2)
theorem SF.reach {n B:Nat}:∀ {st:List (List Int)} {N:Nat} {x:List Int},SF st→Len n st→(∀ s∈st,BdM B s)→Span n st x→(∀ s∈st,∀ k,Led s k→(x.getD k 0).natAbs≤N*(s.getD k 0).natAbs)→BdM (cr st.length*(N*B)) x
 | [],N,x,_,_,_,hx,_=>fun i=>by rw [hx.none,zer_at];exact Nat.zero_le _
 | a::rs,N,x,h,hl,hb,hx,hN=>by
  obtain ⟨j,hj⟩:=h.1 a (.head _)
  have la:=hl a (.head _)
  have lr:Len n rs:=fun r hr=>hl r (.tail _ hr)
  have lx:x.length=n:=hx.len hl
  obtain ⟨c,hs,e,_⟩:=h.split la lr hj hx
  have hc:=lead_c hj.1 e (hN a (.head _) j hj)
  have ih:=SF.reach h.tail lr (fun s hs=>hb s (.tail _ hs)) hs (N:=N+N) fun s hs k hk=>by
   have hp:=((List.pairwise_cons.mp h.2).1 s hs k hk).2
   exact low_c lx la hc (hN s (.tail _ hs) k hk) hp.1 hp.2
  refine (un_low lx la hc ih (hb a (.head _))).mono (Nat.le_of_eq ?_)
  rw [List.length_cons,cr,Nat.add_mul,Nat.add_mul,Nat.one_mul,Nat.mul_add,← Nat.two_mul,Nat.mul_assoc]
theorem dt_mul {n:Nat}:∀ {a b:List Int} {d:Int},a.length=n→b.length=n→dt (mulv a d) b=dt a b*d:=by
 induction n with
 | zero=>intro a b d ha hb;rw [List.length_eq_zero_iff.mp ha];simp [dt,mulv]
 | succ n ih =>
  intro a b d ha hb
  match a,b,ha,hb with
  | x::a,y::b,ha,hb =>
   have e:=ih (a:=a) (b:=b) (d:=d) (by simpa using ha) (by simpa using hb)
   unfold dt mulv at e ⊢
   simp only [List.map_cons,List.zipWith_cons_cons,List.sum_cons]
   rw [e,Int.add_mul,Int.mul_assoc,Int.mul_comm d,← Int.mul_assoc]
theorem dt_low {n:Nat} {x a w:List Int} {c:Int} (lx:x.length=n) (la:a.length=n) (lw:w.length=n):dt (low x a c) w=dt x w - dt a w*c:=by
 unfold low
 rw [dt_sub lx (mulv_len la) lw,dt_mul la lw]
theorem Span.dt0 {n:Nat} {rs:List (List Int)} {w v:List Int} (lw:w.length=n) (hl:Len n rs) (h:Span n rs v) (h0:∀ r∈rs,dt r w=0):dt v w=0 :=
 (h (fun v=>v.length=n∧dt v w=0) ⟨⟨zer_len n,dt_zer n w⟩,fun a b la lb ha hb=>⟨sub_len la lb,by rw [dt_sub la lb lw,ha.2,hb.2];rfl⟩⟩ fun r hr=>⟨hl r hr,h0 r hr⟩).2
noncomputable def gr0 (V q:Nat):Nat→Nat→Nat→Nat
 | 0,N,U=>(cr q+1)*(N+U)
 | a+1,N,U=>gr0 V q a (N+N) (U+V*N)+N
theorem SF.reach0 {n B V:Nat} {w:List Int} (lw:w.length=n) {s:List Int} {post:List (List Int)} (hs0:dt s w≠0) (hp0:∀ r∈post,dt r w=0):∀ {pre:List (List Int)} {N U:Nat} {x:List Int},SF (pre++s::post)→Len n (pre++s::post)→(∀ r∈pre++s::post,BdM B r)→(∀ r∈pre,(dt r w).natAbs≤V)→Span n (pre++s::post) x→(dt x w).natAbs≤U →
  (∀ r,r∈pre∨r∈post→∀ k,Led r k→(x.getD k 0).natAbs≤N*(r.getD k 0).natAbs)→BdM (gr0 V post.length pre.length N U*B) x
 | [],N,U,x,h,hl,hb,_,hx,hU,hN=>by
  obtain ⟨j,hj⟩:=h.1 s (.head _)
  have ls:=hl s (.head _)
  have lp:Len n post:=fun r hr=>hl r (.tail _ hr)
  have lx:x.length=n:=hx.len hl
  obtain ⟨c,hs,e,_⟩:=h.split ls lp hj hx
  have hd:=Span.dt0 lw lp hs hp0
  rw [dt_low lx ls lw] at hd
  have hc:c.natAbs≤U:=by
   have e2:dt x w=dt s w*c:=by lia
   rw [e2,Int.natAbs_mul] at hU
   exact Nat.le_trans (Nat.le_mul_of_pos_left _ (by lia)) hU
  have ih:=SF.reach h.tail lp (fun r hr=>hb r (.tail _ hr)) hs (N:=N+U) fun r hr k hk=>by
   have hp:=((List.pairwise_cons.mp h.2).1 r hr k hk).2
   exact low_c lx ls hc (hN r (.inr hr) k hk) hp.1 hp.2
  refine (un_low lx ls hc ih (hb s (.head _))).mono ?_
  show cr post.length*((N+U)*B)+U*B≤(cr post.length+1)*(N+U)*B
  rw [Nat.mul_assoc,Nat.add_mul (cr post.length) 1,Nat.one_mul]
  exact Nat.add_le_add_left (Nat.mul_le_mul_right _ (Nat.le_add_left _ _)) _
 | a::pre,N,U,x,h,hl,hb,hV,hx,hU,hN=>by
  have h:SF (a::(pre++s::post)):=h
  have hx:Span n (a::(pre++s::post)) x:=hx
  obtain ⟨j,hj⟩:=h.1 a (.head _)
  have la:=hl a (.head _)
  have lr:Len n (pre++s::post):=fun r hr=>hl r (.tail _ hr)
  have lx:x.length=n:=hx.len hl
  obtain ⟨c,hs,e,_⟩:=h.split la lr hj hx
  have hc:=lead_c hj.1 e (hN a (.inl (.head _)) j hj)
  have hU':(dt (low x a c) w).natAbs≤U+V*N:=by
   rw [dt_low lx la lw]
   have h2:(dt a w*c).natAbs≤V*N:=by
    rw [Int.natAbs_mul]
    exact Nat.mul_le_mul (hV a (.head _)) hc
   exact Nat.le_trans (Int.natAbs_sub_le _ _) (Nat.add_le_add hU h2)
  have ih:=SF.reach0 lw hs0 hp0 h.tail lr (fun r hr=>hb r (.tail _ hr)) (fun r hr=>hV r (.tail _ hr)) hs hU' (N:=N+N) fun r hr k hk=>by
   have hm:r∈pre++s::post:=hr.elim (fun z=>List.mem_append_left _ z) fun z=>List.mem_append_right _ (.tail _ z)
   have hp:=((List.pairwise_cons.mp h.2).1 r hm k hk).2
   exact low_c lx la hc (hN r (hr.imp (fun z=>.tail _ z) id) k hk) hp.1 hp.2
  refine (un_low lx la hc ih (hb a (.head _))).mono (Nat.le_of_eq ?_)
  rw [List.length_cons,gr0,Nat.add_mul]
end Mth
namespace Mth
noncomputable def VZ (w:List Int) (m:Int) (x:List Int):Prop:=m ∣ dt x w
theorem VZ.sub {n:Nat} {w x y:List Int} {m:Int} (lw:w.length=n) (lx:x.length=n) (ly:y.length=n) (hx:VZ w m x) (hy:VZ w m y):VZ w m (Mth.sub x y):=by
 unfold VZ
 rw [dt_sub lx ly lw]
 exact Int.dvd_sub hx hy
structure LostOf (st:List (List Int)) (w:List Int) (m:Int) (st':List (List Int)):Prop where
 sf:SF st'
 len:Len 5 st'
 to:∀ x,Span 5 st' x→Span 5 st x∧VZ w m x
 fro:∀ x,Span 5 st x→VZ w m x→Span 5 st' x
theorem LostOf.same {st:List (List Int)} {w:List Int} {m:Int} (sf:SF st) (hl:Len 5 st) (lw:w.length=5) (h:∀ r∈st,VZ w m r) {st':List (List Int)} (k:LostOf st w m st'):st'=st :=
 SF.uniq k.sf sf k.len hl ⟨fun r hr=>(k.to r (Span.mem hr)).1,fun r hr=>k.fro r (Span.mem hr) (h r hr)⟩
theorem LostOf.bd_ring {st st':List (List Int)} {w:List Int} {m:Int} {B M:Nat} (k:LostOf st w m st') (sf:SF st) (hl:Len 5 st) (lw:w.length=5) (hB:∀ r∈st,BdM B r) (hm:m≠0) (hM:m.natAbs≤M):∀ t∈st',BdM (cr st.length*(M*B)) t:=fun t ht=>by
 refine sf.reach hl hB (k.to t (Span.mem ht)).1 fun s hs j hj=>?_
 have hy:Span 5 st' (mulv s m):=k.fro _ (Span.mul (hl s hs) (Span.mem hs) m) (by unfold VZ;rw [dt_mul (hl s hs) lw];exact Int.dvd_mul_left _ _)
 obtain ⟨u,hu,hu1,hu2⟩:=k.sf.lead_has (j:=j) k.len hy (by
  rw [mulv_at]
  exact fun z=>(Int.mul_eq_zero.mp z).elim (fun z=>by have:=hj.1;lia) hm) fun i hi=>by rw [mulv_at,hj.2 i hi,Int.zero_mul]
 have ha:=k.sf.at_lead ht hu hu1
 rw [mulv_at,Int.natAbs_mul] at hu2
 have h3:(s.getD j 0).natAbs*m.natAbs≤M*(s.getD j 0).natAbs:=by rw [Nat.mul_comm];exact Nat.mul_le_mul_right _ hM
 lia
theorem last_of {α:Type} (p:α→Prop) [DecidablePred p]:∀ (xs:List α),(∀ x∈xs,p x)∨∃ pre s post,xs=pre++s::post∧¬ p s∧∀ x∈post,p x
 | []=>.inl fun _ h=>nomatch h
 | a::xs=>by
  rcases last_of p xs with h|⟨pre,s,post,e,h1,h2⟩
  ·by_cases c:p a
   ·exact .inl fun x hx=>(List.mem_cons.mp hx).elim (fun z=>z ▸ c) (h x)
   ·exact .inr ⟨[],a,xs,rfl,c,h⟩
  ·exact .inr ⟨a::pre,s,post,by rw [e];rfl,h1,h2⟩
theorem SF.back:∀ {pre:List (List Int)} {s:List Int} {post:List (List Int)},SF (pre++s::post)→∀ r∈pre,∀ k,Led r k→s.getD k 0=0∧∀ i,k<i→s.getD i 0=0
 | [],_,_,_,_,h,_,_=>nomatch h
 | a::pre,s,post,h,r,hr,k,hk=>by
  have h:SF (a::(pre++s::post)):=h
  rcases List.mem_cons.mp hr with rfl|hr'
  ·exact⟨h.low0 hk (Nat.le_refl _) s (List.mem_append_right _ (.head _)),fun i hi=>h.low0 hk (Nat.le_of_lt hi) s (List.mem_append_right _ (.head _))⟩
  ·exact SF.back h.tail r hr' k hk
theorem LostOf.bd_zero {st st':List (List Int)} {w:List Int} {B V:Nat} (k:LostOf st w 0 st') (sf:SF st) (hl:Len 5 st) (h5:st.length≤5) (lw:w.length=5) (hB:∀ r∈st,BdM B r) (hV:∀ r∈st,(dt r w).natAbs≤V) (hV1:1≤V):∀ t∈st',BdM (64*(V*V)*B) t:=fun t ht=>by
 have hVV:V≤V*V:=Nat.le_mul_of_pos_left _ hV1
 rcases last_of (fun r=>dt r w=0) st with h|⟨pre,s,post,e,h1,h2⟩
 ·have e:=k.same sf hl lw fun r hr=>by unfold VZ;rw [h r hr];exact Int.dvd_zero _
  subst e
  exact (hB t ht).mono (Nat.le_trans (Nat.le_of_eq (Nat.one_mul B).symm) (Nat.mul_le_mul_right _ (by lia)))
 ·subst e
  have hsm:s∈pre++s::post:=List.mem_append_right _ (.head _)
  have ls:=hl s hsm
  have hx:=k.to t (Span.mem ht)
  have hx0:dt t w=0:=Int.zero_dvd.mp hx.2
  have main:=SF.reach0 (B:=B) (V:=V) lw h1 h2 sf hl hB (fun r hr=>hV r (List.mem_append_left _ hr)) hx.1 (U:=0) (by rw [hx0];exact Nat.le_refl _) (N:=V) fun r hr j hj=>by
   rcases hr with hr|hr
   ·have hrm:r∈pre++s::post:=List.mem_append_left _ hr
    have lr:=hl r hrm
    obtain ⟨z1,z2⟩:=SF.back sf r hr j hj
    have hy:Span 5 st' (Mth.sub (mulv r (dt s w)) (mulv s (dt r w))):=by
     refine k.fro _ (Span.sub (mulv_len lr) (mulv_len ls) (Span.mul lr (Span.mem hrm) _) (Span.mul ls (Span.mem hsm) _)) ?_
     unfold VZ
     rw [dt_sub (mulv_len lr) (mulv_len ls) lw,dt_mul lr lw,dt_mul ls lw,Int.mul_comm (dt s w),Int.sub_self]
     exact Int.dvd_refl _
    have hat:∀ i,(Mth.sub (mulv r (dt s w)) (mulv s (dt r w))).getD i 0=r.getD i 0*dt s w - s.getD i 0*dt r w:=fun i=>by rw [sub_at (mulv_len lr) (mulv_len ls),mulv_at,mulv_at]
    obtain ⟨u,hu,hu1,hu2⟩:=k.sf.lead_has (j:=j) k.len hy (by
     rw [hat,z1,Int.zero_mul,Int.sub_zero]
     exact fun z=>(Int.mul_eq_zero.mp z).elim (fun z=>by have:=hj.1;lia) h1) fun i hi=>by rw [hat,hj.2 i hi,z2 i hi,Int.zero_mul,Int.zero_mul];rfl
    have ha:=k.sf.at_lead ht hu hu1
    rw [hat,z1,Int.zero_mul,Int.sub_zero,Int.natAbs_mul] at hu2
    have h3:(r.getD j 0).natAbs*(dt s w).natAbs≤V*(r.getD j 0).natAbs:=by rw [Nat.mul_comm];exact Nat.mul_le_mul_right _ (hV s hsm)
    lia
   ·have hrm:r∈pre++s::post:=List.mem_append_right _ (.tail _ hr)
    obtain ⟨u,hu,hu1,hu2⟩:=k.sf.lead_has (j:=j) k.len (k.fro r (Span.mem hrm) (by unfold VZ;rw [h2 r hr];exact Int.dvd_zero _)) (by have:=hj.1;lia) hj.2
    have ha:=k.sf.at_lead ht hu hu1
    have h3:1*(r.getD j 0).natAbs≤V*(r.getD j 0).natAbs:=Nat.mul_le_mul_right _ hV1
    lia
  refine main.mono (Nat.mul_le_mul_right _ ?_)
  have hlen:pre.length+(post.length+1)≤5:=by simpa using h5
  generalize pre.length=a at hlen
  generalize hq:post.length=q at hlen
  generalize hW:V*V=W at hVV
  have ha:a=0∨a=1∨a=2∨a=3∨a=4:=by lia
  rcases ha with rfl|rfl|rfl|rfl|rfl
  ·have hq':q=0∨q=1∨q=2∨q=3∨q=4:=by lia
   simp only [gr0]
   rcases hq' with rfl|rfl|rfl|rfl|rfl <;> simp only [cr] <;> lia
  ·have hq':q=0∨q=1∨q=2∨q=3:=by lia
   simp only [gr0,hW]
   rcases hq' with rfl|rfl|rfl|rfl <;> simp only [cr] <;> lia
  ·have hq':q=0∨q=1∨q=2:=by lia
   simp only [gr0,Nat.mul_add,hW]
   rcases hq' with rfl|rfl|rfl <;> simp only [cr] <;> lia
  ·have hq':q=0∨q=1:=by lia
   simp only [gr0,Nat.mul_add,hW]
   rcases hq' with rfl|rfl <;> simp only [cr] <;> lia
  ·have hq':q=0:=by lia
   simp only [gr0,Nat.mul_add,hW]
   subst hq'
   simp only [cr]
   lia
end Mth
namespace Mth
theorem app_take {r:List Int} {x:Int} (h:r.length=5):(r++[x]).take 5=r:=by rw [List.take_append_of_le_length (by lia),List.take_of_length_le (by lia)]
theorem app_five {r:List Int} {x:Int} (h:r.length=5):(r++[x]).getD 5 0=x:=by
 rw [List.getD,List.getElem?_append_right (by lia),h]
 rfl
theorem sub_app {a b:List Int} {x y:Int} (ha:a.length=5) (hb:b.length=5):sub (a++[x]) (b++[y])=sub a b++[x - y]:=by
 unfold sub
 rw [List.zipWith_append (by lia)]
 rfl
theorem mul_app {a:List Int} {x d:Int}:mulv (a++[x]) d=mulv a d++[x*d]:=by unfold mulv;rw [List.map_append];rfl
theorem led_take {v:List Int} {k:Nat} (h:v.length=6) (h0:v.getD 5 0=0):Led (v.take 5) k↔Led v k:=by
 have lt:(v.take 5).length=5:=take_len h (by decide)
 have hz:∀ i,5≤i→v.getD i 0=0:=fun i hi=>by
  by_cases c:i=5
  ·rw [c];exact h0
  ·rw [List.getD,List.getElem?_eq_none (by lia)];rfl
 have ht:∀ i,(v.take 5).getD i 0=v.getD i 0:=fun i=>by
  by_cases c:i<5
  ·exact take_at v c
  ·rw [hz i (by lia),List.getD,List.getElem?_eq_none (by lia)];rfl
 unfold Led
 simp only [ht]
theorem SF.take5 {T:List (List Int)} (h:SF T) (hl:Len 6 T) (h0:∀ v∈T,v.getD 5 0=0):SF (T.map (List.take 5)):=by
 refine⟨fun r hr=>?_,?_⟩
 ·obtain ⟨v,hv,rfl⟩:=List.mem_map.mp hr
  obtain ⟨k,hk⟩:=h.1 v hv
  exact⟨k,(led_take (hl v hv) (h0 v hv)).mpr hk⟩
 ·rw [List.pairwise_map]
  refine List.Pairwise.imp_of_mem (fun {a b} ha hb hab k hk=>?_) h.2
  have hk':=(led_take (hl b hb) (h0 b hb)).mp hk
  obtain ⟨⟨j,hj,la⟩,h1,h2⟩:=hab k hk'
  have h5:k<5:=led_lt hk
  rw [take_at a h5,take_at b h5]
  exact⟨⟨j,hj,(led_take (hl a ha) (h0 a ha)).mpr la⟩,h1,h2⟩
theorem SF.last0 {S:List (List Int)} (h:SF S) (hl:Len 6 S):SF (S.filter fun v=>v.getD 5 0 == 0)∧∀ x,Span 6 S x→x.getD 5 0=0→Span 6 (S.filter fun v=>v.getD 5 0 == 0) x:=by
 match S,h,hl with
 | [],h,hl=>exact⟨h,fun x hx _=>hx⟩
 | a::rs,h,hl =>
  obtain ⟨k,hk⟩:=h.1 a (.head _)
  have la:=hl a (.head _)
  have lr:Len 6 rs:=fun r hr=>hl r (.tail _ hr)
  have hk6:k<6:=by
   have:=hk.1
   by_cases c:k<6
   ·exact c
   ·rw [List.getD,List.getElem?_eq_none (by lia)] at this
    exact absurd this (by decide)
  have hrs:rs.filter (fun v=>v.getD 5 0 == 0)=rs:=List.filter_eq_self.mpr fun r hr=>by
   rw [h.low0 hk (i:=5) (by lia) r hr]
   rfl
  by_cases c:a.getD 5 0=0
  ·have e:(a::rs).filter (fun v=>v.getD 5 0 == 0)=a::rs:=by rw [List.filter_cons_of_pos (by rw [c];rfl),hrs]
   rw [e]
   exact⟨h,fun x hx _=>hx⟩
  ·have e:(a::rs).filter (fun v=>v.getD 5 0 == 0)=rs:=by rw [List.filter_cons_of_neg (by simpa using c),hrs]
   rw [e]
   have e5:k=5:=by
    rcases Nat.lt_or_ge k 5 with z|z
    ·exact absurd (hk.2 5 z) c
    ·lia
   subst e5
   exact⟨h.tail,fun x hx h0=>h.rest la lr hk hx h0⟩
noncomputable def valued (f:List Int→Int) (st:List (List Int)) (m:Int):List (List Int):=st.map (fun r=>r++[f r])++[zer 5++[m]]
theorem lost_of {st S:List (List Int)} {w:List Int} {m:Int} {f:List Int→Int} (hl:Len 5 st) (lw:w.length=5) (hf:∀ r∈st,m ∣ dt r w - f r) (sf:SF S) (hS:Len 6 S) (e:Eqv 6 (valued f st m) S) :
  LostOf st w m ((S.filter fun v=>v.getD 5 0 == 0).map (List.take 5)):=by
 obtain ⟨g1,g2⟩:=sf.last0 hS
 have hT:∀ v∈S.filter (fun v=>v.getD 5 0 == 0),v∈S∧v.getD 5 0=0:=fun v hv=>by
  obtain ⟨a,b⟩:=List.mem_filter.mp hv
  exact⟨a,by simpa using b⟩
 have lT:Len 6 (S.filter fun v=>v.getD 5 0 == 0):=fun v hv=>hS v (hT v hv).1
 have p6:∀ y,Span 6 (valued f st m) y→y.length=6∧Span 5 st (y.take 5)∧m ∣ dt (y.take 5) w - y.getD 5 0:=fun y hy=>by
  refine hy (fun y=>y.length=6∧Span 5 st (y.take 5)∧m ∣ dt (y.take 5) w - y.getD 5 0) ⟨⟨zer_len 6,?_,?_⟩,fun a b la lb ha hb=>⟨sub_len la lb,?_,?_⟩⟩ fun r hr=>?_
  ·rw [zer_take (by decide)];exact Span.zero
  ·rw [zer_take (by decide),dt_zer,zer_at];exact Int.dvd_zero _
  ·rw [sub_take];exact Span.sub (take_len la (by decide)) (take_len lb (by decide)) ha.2.1 hb.2.1
  ·rw [sub_take,sub_at la lb,dt_sub (take_len la (by decide)) (take_len lb (by decide)) lw]
   have:=Int.dvd_sub ha.2.2 hb.2.2
   rwa [show dt (a.take 5) w - dt (b.take 5) w - (a.getD 5 0 - b.getD 5 0)=dt (a.take 5) w - a.getD 5 0 - (dt (b.take 5) w - b.getD 5 0) by lia]
  ·rcases List.mem_append.mp hr with z|z
   ·obtain ⟨q,hq,rfl⟩:=List.mem_map.mp z
    have lq:=hl q hq
    refine⟨by simp [lq],?_,?_⟩
    ·rw [app_take lq];exact Span.mem hq
    ·rw [app_take lq,app_five lq];exact hf q hq
   ·rw [List.mem_singleton.mp z]
    refine⟨rfl,?_,?_⟩
    ·rw [app_take (zer_len 5)];exact Span.zero
    ·rw [app_take (zer_len 5),app_five (zer_len 5),dt_zer,Int.zero_sub];exact Int.dvd_neg.mpr (Int.dvd_refl m)
 refine⟨g1.take5 lT fun v hv=>(hT v hv).2,fun r hr=>?_,fun x hx=>?_,fun x hx hv=>?_⟩
 ·obtain ⟨v,hv,rfl⟩:=List.mem_map.mp hr
  exact take_len (lT v hv) (by decide)
 ·refine (hx (fun x=>x.length=5∧Span 5 st x∧VZ w m x) ⟨⟨zer_len 5,Span.zero,?_⟩,fun a b la lb ha hb=>⟨sub_len la lb,Span.sub la lb ha.2.1 hb.2.1,VZ.sub lw la lb ha.2.2 hb.2.2⟩⟩ fun r hr=>?_).2
  ·unfold VZ;rw [dt_zer];exact Int.dvd_zero _
  ·obtain ⟨v,hv,rfl⟩:=List.mem_map.mp hr
   obtain ⟨a,b,c⟩:=p6 v (e.2 v (hT v hv).1)
   rw [(hT v hv).2,Int.sub_zero] at c
   exact⟨take_len a (by decide),b,c⟩
 ·have lx:=hx.len hl
  have hm:Span 6 (valued f st m) (zer 5++[m]):=Span.mem (List.mem_append_right _ (.head _))
  have lm:(zer 5++[m]).length=6:=rfl
  have hrow:∀ (r:List Int) (u v:Int),r.length=5→Span 6 (valued f st m) (r++[u])→m ∣ u - v→Span 6 (valued f st m) (r++[v]):=fun r u v lr hr hd=>by
   obtain ⟨c,hc⟩:=hd
   have:=Span.sub (by simp [lr]) (mulv_len lm) hr (Span.mul lm hm c)
   rw [mul_app,sub_app lr (mulv_len (zer_len 5))] at this
   have e1:sub r (mulv (zer 5) c)=r:=ext_at (sub_len lr (mulv_len (zer_len 5))) lr fun i _=>by rw [sub_at lr (mulv_len (zer_len 5)),mulv_at,zer_at,Int.zero_mul,Int.sub_zero]
   rw [e1,show u - m*c=v by lia] at this
   exact this
  have hq:x.length=5∧Span 6 (valued f st m) (x++[dt x w]):=by
   refine hx (fun x=>x.length=5∧Span 6 (valued f st m) (x++[dt x w])) ⟨⟨zer_len 5,?_⟩,fun a b la lb ha hb=>⟨sub_len la lb,?_⟩⟩ fun r hr=>⟨hl r hr,?_⟩
   ·rw [dt_zer];exact Span.zero (n:=6)
   ·have:=Span.sub (by simp [la]) (by simp [lb]) ha.2 hb.2
    rw [sub_app la lb] at this
    rwa [dt_sub la lb lw]
   ·refine hrow r (f r) _ (hl r hr) (Span.mem (List.mem_append_left _ (List.mem_map.mpr ⟨r,hr,rfl⟩))) ?_
    have:=hf r hr
    rw [show f r - dt r w=-(dt r w - f r) by lia]
    exact Int.dvd_neg.mpr this
  have h0:Span 6 (valued f st m) (x++[0]):=hrow x _ 0 lx hq.2 (by rw [Int.sub_zero];exact hv)
  have h1:=g2 _ (e.span h0) (app_five lx)
  have:=Span.take (w:=5) (by decide) h1
  rwa [app_take lx] at this
end Mth
namespace Mth
structure Lo (ks:List (List Int×Int)) (st:List (List Int)):Prop where
 sf:SF st
 len:Len 5 st
 all:∀ x,Span 5 st x↔x.length=5∧∀ k∈ks,VZ k.1 k.2 x
theorem Lo.next {ks:List (List Int×Int)} {st st':List (List Int)} {w:List Int} {m:Int} (h:Lo ks st) (k:LostOf st w m st'):Lo (ks++[(w,m)]) st':=by
 refine⟨k.sf,k.len,fun x=>⟨fun hx=>?_,fun hx=>?_⟩⟩
 ·obtain ⟨h1,h2⟩:=k.to x hx
  obtain ⟨h3,h4⟩:=(h.all x).mp h1
  exact⟨h3,fun q hq=>(List.mem_append.mp hq).elim (h4 q) fun z=>by rw [List.mem_singleton.mp z];exact h2⟩
 ·exact k.fro x ((h.all x).mpr ⟨hx.1,fun q hq=>hx.2 q (List.mem_append_left _ hq)⟩) (hx.2 (w,m) (List.mem_append_right _ (.head _)))
noncomputable def ones5:List (List Int):=[unitv 4 5,unitv 3 5,unitv 2 5,unitv 1 5,unitv 0 5]
theorem led_unit {k:Nat} (h:k<5):Led (unitv k 5) k:=by
 refine⟨by rw [unitv_at h,if_pos rfl];decide,fun i hi=>?_⟩
 by_cases c:i<5
 ·rw [unitv_at c,if_neg (by lia)]
 ·rw [List.getD,List.getElem?_eq_none (by rw [unitv_len];lia)];rfl
theorem bef_unit {a b:Nat} (ha:a<5) (h:b<a):Bef (unitv a 5) (unitv b 5):=fun k hk=>by
 have e:=hk.uniq (led_unit (by lia))
 subst e
 refine⟨⟨a,h,led_unit ha⟩,?_,?_⟩
 ·rw [unitv_at (by lia),if_neg (by lia)];exact Int.le_refl _
 ·rw [unitv_at (by lia),if_neg (by lia),unitv_at (by lia),if_pos rfl];decide
theorem ones5_sf:SF ones5:=by
 refine⟨fun r hr=>?_,?_⟩
 ·simp only [ones5,List.mem_cons,List.not_mem_nil,or_false] at hr
  rcases hr with rfl|rfl|rfl|rfl|rfl
  ·exact⟨_,led_unit (by decide)⟩
  ·exact⟨_,led_unit (by decide)⟩
  ·exact⟨_,led_unit (by decide)⟩
  ·exact⟨_,led_unit (by decide)⟩
  ·exact⟨_,led_unit (by decide)⟩
 ·unfold ones5
  refine .cons (fun r hr=>?_) (.cons (fun r hr=>?_) (.cons (fun r hr=>?_) (.cons (fun r hr=>?_) (.cons (fun r hr=>nomatch hr) .nil))))
  all_goals
   simp only [List.mem_cons,List.not_mem_nil,or_false] at hr
  ·rcases hr with rfl|rfl|rfl|rfl <;> exact bef_unit (by decide) (by decide)
  ·rcases hr with rfl|rfl|rfl <;> exact bef_unit (by decide) (by decide)
  ·rcases hr with rfl|rfl <;> exact bef_unit (by decide) (by decide)
  ·rcases hr with rfl;exact bef_unit (by decide) (by decide)
theorem ones5_len:Len 5 ones5:=fun r hr=>by
 simp only [ones5,List.mem_cons,List.not_mem_nil,or_false] at hr
 rcases hr with rfl|rfl|rfl|rfl|rfl <;> exact unitv_len _ _
theorem ones5_all {x:List Int} (h:x.length=5):Span 5 ones5 x:=by
 have hm:∀ k,k<5→unitv k 5∈ones5:=fun k hk=>by
  rcases (show k=0∨k=1∨k=2∨k=3∨k=4 by lia) with rfl|rfl|rfl|rfl|rfl <;> simp [ones5]
 have ht:∀ n,n≤5→∀ y:List Int,y.length=5→(∀ i,n≤i→y.getD i 0=0)→Span 5 ones5 y:=by
  intro n
  induction n with
  | zero =>
   intro _ y ly hy
   have e:y=zer 5:=ext_at ly (zer_len 5) fun i _=>by rw [hy i (Nat.zero_le _),zer_at]
   rw [e]
   exact Span.zero
  | succ n ih =>
   intro hn y ly hy
   have lu:=unitv_len n 5
   refine Span.unlow (s:=unitv n 5) (q:=y.getD n 0) ly lu (ih (by lia) _ (low_len ly lu) fun i hi=>?_) (Span.mem (hm n (by lia)))
   rw [low_at ly lu]
   by_cases c:i<5
   ·rw [unitv_at c]
    by_cases d:i=n
    ·rw [if_pos d,d];lia
    ·rw [if_neg d,hy i (by lia)];lia
   ·rw [hy i (by lia),List.getD,List.getElem?_eq_none (by rw [lu];lia)]
    simp
 exact ht 5 (Nat.le_refl _) x h fun i hi=>by rw [List.getD,List.getElem?_eq_none (by lia)];rfl
theorem Lo.start:Lo [] ones5:=⟨ones5_sf,ones5_len,fun x=>⟨fun hx=>⟨hx.len ones5_len,fun k hk=>nomatch hk⟩,fun hx=>ones5_all hx.1⟩⟩
theorem ones5_eq {st:List (List Int)} (sf:SF st) (hl:Len 5 st) (e:Eqv 5 ((List.range 5).map fun i=>unitv i 5) st):st=ones5:=by
 refine SF.uniq sf ones5_sf hl ones5_len ⟨fun r hr=>ones5_all (hl r hr),fun r hr=>?_⟩
 refine e.span (Span.mem ?_)
 simp only [ones5,List.mem_cons,List.not_mem_nil,or_false] at hr
 rcases hr with rfl|rfl|rfl|rfl|rfl <;> exact List.mem_map.mpr ⟨_,List.mem_range.mpr (by decide),rfl⟩
noncomputable def lb (W:Nat):Nat→Nat
 | 0=>0
 | i+1=>3*lb W i+2*W+12
theorem five_of {α:Type} {r:List α} (h:r.length=5):∃ a b c d e,r=[a,b,c,d,e]:=by
 match r,h with
 | [a,b,c,d,e],_=>exact⟨a,b,c,d,e,rfl⟩
theorem abs_add {x y:Int} {m n:Nat} (h:x.natAbs≤m) (k:y.natAbs≤n):(x+y).natAbs≤m+n:=Nat.le_trans (Int.natAbs_add_le _ _) (Nat.add_le_add h k)
theorem dt_bits {b W:Nat} {r w:List Int} (lr:r.length=5) (lw:w.length=5) (hr:BdM (2 ^ b) r) (hw:BdM (2 ^ W) w):(dt r w).natAbs≤2 ^ (W+b+3):=by
 have hp:∀ i,(r.getD i 0*w.getD i 0).natAbs≤2 ^ b*2 ^ W:=fun i=>by
  rw [Int.natAbs_mul]
  exact Nat.mul_le_mul (hr i) (hw i)
 obtain ⟨a0,a1,a2,a3,a4,e1⟩:=five_of lr
 obtain ⟨b0,b1,b2,b3,b4,e2⟩:=five_of lw
 subst e1
 subst e2
 have e:(2:Nat) ^ (W+b+3)=8*(2 ^ b*2 ^ W):=by rw [Nat.pow_add,Nat.pow_add,Nat.mul_comm (2 ^ W),Nat.mul_comm _ (2 ^ 3)]
 rw [e]
 exact Nat.le_trans (abs_add (hp 0) (abs_add (hp 1) (abs_add (hp 2) (abs_add (hp 3) (abs_add (hp 4) (Nat.le_refl 0)))))) (by lia)
theorem LostOf.bd {st st':List (List Int)} {w:List Int} {m:Int} {b W:Nat} (k:LostOf st w m st') (sf:SF st) (hl:Len 5 st) (h5:st.length≤5) (lw:w.length=5) (hB:∀ r∈st,BdM (2 ^ b) r) (hw:BdM (2 ^ W) w) (hm:m.natAbs≤2 ^ W):∀ t∈st',BdM (2 ^ (3*b+2*W+12)) t:=fun t ht=>by
 by_cases c:m=0
 ·subst c
  refine (k.bd_zero sf hl h5 lw hB (fun r hr=>dt_bits (hl r hr) lw (hB r hr) hw) (Nat.two_pow_pos _) t ht).mono (Nat.le_of_eq ?_)
  rw [show (64:Nat)=2 ^ 6 from rfl,← Nat.pow_add,← Nat.pow_add,← Nat.pow_add]
  congr 1
  lia
 ·refine (k.bd_ring sf hl lw hB c hm t ht).mono ?_
  have hc:cr st.length≤2 ^ 5:=by
   rcases (show st.length=0∨st.length=1∨st.length=2∨st.length=3∨st.length=4∨st.length=5 by lia) with e|e|e|e|e|e <;> rw [e] <;> decide
  refine Nat.le_trans (Nat.mul_le_mul_right _ hc) ?_
  rw [← Nat.pow_add,← Nat.pow_add]
  exact Nat.pow_le_pow_right (by decide) (by lia)
end Mth
namespace Mth
noncomputable def units5:List (List Int):=[[1,0,0,0,0],[0,1,0,0,0],[0,0,1,0,0],[0,0,0,1,0],[0,0,0,0,1]]
end Mth
namespace Sgn
open PySem PySem.Builtin PySem.Builtin.Str PySem.StrLaws
noncomputable def dgt (c:Nat):Bool:=decide (48≤c) && decide (c≤57)
noncomputable def cnt (z:Str) (m:Nat):Bool:=(decide (1≤z.length∧z.length≤m) && (z.cps[0]? != some 48)) && z.cps.toList.all dgt
end Sgn
namespace Sgn
open PySem PySem.Builtin PySem.Builtin.Str PySem.StrLaws PySem.NumText PySem.W.KIN PyProof.Rows
noncomputable def num (z:Str):Nat:=digitsVal z.cps.toList
end Sgn
namespace Mth
noncomputable def gens (ms:List Int) (rs:List (List Int)):List (List Int):=(List.range 5).map fun i=>mulv (rs.getD i []) (ms.getD i 0)
end Mth
namespace Gap
structure Sg (P:Int→Int→Prop):Prop where
 add:∀ {n j n' j':Int},P n j→P n' j'→P (n+n') (j+j')
 neg:∀ {n j:Int},P n j→P (-n) (-j)→False
 tot:∀ n j:Int,j≠0→P n j∨P (-n) (-j)
 oct:∀ {n:Int},P n 0→0<n
section
variable {P:Int→Int→Prop} {o:Int→Int} {N:Int}
structure Ch (P:Int→Int→Prop) (o:Int→Int) (N:Int):Prop where
 s:Sg P
 z:o 0=0
 f:∀ j,0<j→j<N→P (o j) j∧P (1 - o j) (-j)
variable (C:Ch P o N)
include C
variable {a b:Int} (a0:0<a) (a1:a<N) (mn:∀ j,0<j→j<N→j≠a→P (o j - o a) (j - a)) (b0:0<b) (b1:b<N) (mx:∀ j,0<j→j<N→j≠b→P (o b - o j) (b - j))
include a0 a1 mn in
include a0 a1 mn in
include b0 b1 mx in
include b0 b1 mx in
include a0 a1 mn b0 b1 mx in
include a0 a1 mn b0 b1 mx in
include a0 a1 mn b0 b1 mx in
end
end Gap
namespace Nam
open PySem
noncomputable def J (c:Nat):List (List Nat)→List Nat
 | []=>[]
 | [x]=>x
 | x::y::r=>x++c::J c (y::r)
end Nam
namespace Mth
noncomputable def crs (q:Nat) (s v:List Int):List Int:=sub (mulv v (s.getD q 0)) (mulv s (v.getD q 0))
theorem crs_len {q n:Nat} {s v:List Int} (ls:s.length=n) (lv:v.length=n):(crs q s v).length=n:=sub_len (mulv_len lv) (mulv_len ls)
theorem crs_at {q n:Nat} {s v:List Int} (ls:s.length=n) (lv:v.length=n) (i:Nat):(crs q s v).getD i 0=v.getD i 0*s.getD q 0 - s.getD i 0*v.getD q 0:=by
 rw [crs,sub_at (mulv_len lv) (mulv_len ls),mulv_at,mulv_at]
theorem crs_q {q n:Nat} {s v:List Int} (ls:s.length=n) (lv:v.length=n):(crs q s v).getD q 0=0:=by
 rw [crs_at ls lv,Int.mul_comm,Int.sub_self]
theorem crs_bd {q n e:Nat} {s v:List Int} (ls:s.length=n) (lv:v.length=n) (hs:BdM (2 ^ e) s) (hv:BdM (2 ^ e) v):BdM (2 ^ (2*e+1)) (crs q s v):=fun i=>by
 rw [crs_at ls lv]
 have h1:(v.getD i 0*s.getD q 0).natAbs≤2 ^ e*2 ^ e:=by rw [Int.natAbs_mul];exact Nat.mul_le_mul (hv i) (hs q)
 have h2:(s.getD i 0*v.getD q 0).natAbs≤2 ^ e*2 ^ e:=by rw [Int.natAbs_mul];exact Nat.mul_le_mul (hs i) (hv q)
 have e1:(2:Nat) ^ (2*e+1)=2 ^ e*2 ^ e+2 ^ e*2 ^ e:=by rw [Nat.pow_succ,Nat.two_mul,Nat.pow_add,Nat.mul_two]
 rw [e1]
 exact Nat.le_trans (Int.natAbs_sub_le _ _) (Nat.add_le_add h1 h2)
theorem Span.crs {n q:Nat} {rs:List (List Int)} {s v:List Int} (ls:s.length=n) (hl:Len n rs) (h:Span n rs v):Span n (rs.map (Mth.crs q s)) (Mth.crs q s v):=by
 have:=h (fun v=>v.length=n∧Span n (rs.map (Mth.crs q s)) (Mth.crs q s v)) ⟨⟨zer_len n,?_⟩,fun a b la lb ha hb=>⟨sub_len la lb,?_⟩⟩ fun r hr=>⟨hl r hr,Span.mem (List.mem_map.mpr ⟨r,hr,rfl⟩)⟩
 ·exact this.2
 ·have e:Mth.crs q s (zer n)=zer n:=ext_at (crs_len ls (zer_len n)) (zer_len n) fun i _=>by rw [crs_at ls (zer_len n),zer_at,zer_at];simp
  rw [e]
  exact Span.zero
 ·have e:Mth.crs q s (Mth.sub a b)=Mth.sub (Mth.crs q s a) (Mth.crs q s b):=ext_at (crs_len ls (sub_len la lb)) (sub_len (crs_len ls la) (crs_len ls lb)) fun i _=>by
   rw [crs_at ls (sub_len la lb),sub_at (crs_len ls la) (crs_len ls lb),crs_at ls la,crs_at ls lb,sub_at la lb,sub_at la lb,Int.sub_mul,Int.mul_sub]
   lia
  rw [e]
  exact Span.sub (crs_len ls la) (crs_len ls lb) ha.2 hb.2
theorem Span.crsd {n q:Nat} {rs:List (List Int)} {s v:List Int} (ls:s.length=n) (lv:v.length=n) (hs:Span n rs s) (hv:Span n rs v):Span n rs (Mth.crs q s v) :=
 Span.sub (mulv_len lv) (mulv_len ls) (Span.mul lv hv _) (Span.mul ls hs _)
theorem mulv_one {n:Nat} {x:List Int} (lx:x.length=n):mulv x 1=x:=ext_at (mulv_len lx) lx fun i _=>by rw [mulv_at,Int.mul_one]
theorem mulv_mulv {n:Nat} {x:List Int} (lx:x.length=n) (c d:Int):mulv (mulv x c) d=mulv x (c*d):=ext_at (mulv_len (mulv_len lx)) (mulv_len lx) fun i _=>by rw [mulv_at,mulv_at,mulv_at,Int.mul_assoc]
theorem clear1 {n q e:Nat} {rs:List (List Int)} (hl:Len n rs) (hb:∀ r∈rs,BdM (2 ^ e) r):∃ rs',Len n rs'∧(∀ r∈rs',Span n rs r)∧(∀ r∈rs',r.getD q 0=0)∧(∀ i,(∀ r∈rs,r.getD i 0=0)→∀ r∈rs',r.getD i 0=0)∧(∀ r∈rs',BdM (2 ^ (2*e+1)) r)∧∀ x,x.getD q 0=0→Span n rs x→∃ d:Int,d≠0∧Span n rs' (mulv x d):=by
 by_cases h:∀ r∈rs,r.getD q 0=0
 ·exact⟨rs,hl,fun r hr=>Span.mem hr,h,fun i hi=>hi,fun r hr=>(hb r hr).mono (Nat.pow_le_pow_right (by decide) (by lia)),fun x _ hx=>⟨1,by decide,by rw [mulv_one (hx.len hl)];exact hx⟩⟩
 ·obtain ⟨s,h⟩:=Classical.not_forall.mp h
  obtain ⟨hs,h0⟩:=Classical.not_imp.mp h
  have ls:=hl s hs
  refine⟨rs.map (crs q s),fun r hr=>?_,fun r hr=>?_,fun r hr=>?_,fun i hi r hr=>?_,fun r hr=>?_,fun x hx hsx=>⟨s.getD q 0,h0,?_⟩⟩
  ·obtain ⟨v,hv,rfl⟩:=List.mem_map.mp hr
   exact crs_len ls (hl v hv)
  ·obtain ⟨v,hv,rfl⟩:=List.mem_map.mp hr
   exact Span.crsd ls (hl v hv) (Span.mem hs) (Span.mem hv)
  ·obtain ⟨v,hv,rfl⟩:=List.mem_map.mp hr
   exact crs_q ls (hl v hv)
  ·obtain ⟨v,hv,rfl⟩:=List.mem_map.mp hr
   rw [crs_at ls (hl v hv),hi v hv,hi s hs]
   simp
  ·obtain ⟨v,hv,rfl⟩:=List.mem_map.mp hr
   exact crs_bd ls (hl v hv) (hb s hs) (hb v hv)
  ·have lx:=hsx.len hl
   have ex:mulv x (s.getD q 0)=Mth.crs q s x:=ext_at (mulv_len lx) (crs_len ls lx) fun i _=>by
    rw [mulv_at,crs_at ls lx,hx];simp
   rw [ex]
   exact Span.crs ls hl hsx
noncomputable def eb:Nat→Nat→Nat
 | 0,e=>e
 | k+1,e=>eb k (2*e+1)
theorem eb_up:∀ (k e:Nat),e≤eb k e
 | 0,e=>Nat.le_refl e
 | k+1,e=>by have:=eb_up k (2*e+1);rw [eb];lia
theorem eb_mono:∀ {k l e:Nat},k≤l→eb k e≤eb l e
 | 0,l,e,_=>eb_up l e
 | k+1,l+1,e,h=>by rw [eb,eb];exact eb_mono (by lia)
theorem clears {n:Nat}:∀ (qs:List Nat) {rs:List (List Int)} {e:Nat},Len n rs→(∀ r∈rs,BdM (2 ^ e) r)→∃ rs',Len n rs'∧(∀ r∈rs',Span n rs r)∧(∀ q∈qs,∀ r∈rs',r.getD q 0=0)∧(∀ i,(∀ r∈rs,r.getD i 0=0)→∀ r∈rs',r.getD i 0=0)∧(∀ r∈rs',BdM (2 ^ eb qs.length e) r)∧∀ x,(∀ q∈qs,x.getD q 0=0)→Span n rs x→∃ d:Int,d≠0∧Span n rs' (mulv x d)
 | [],rs,e,hl,hb=>⟨rs,hl,fun r hr=>Span.mem hr,(fun _ h=>nomatch h),fun i hi=>hi,hb,fun x _ hx=>⟨1,by decide,by rw [mulv_one (hx.len hl)];exact hx⟩⟩
 | q::qs,rs,e,hl,hb=>by
  obtain ⟨r1,l1,s1,z1,k1,b1,f1⟩:=clear1 (q:=q) hl hb
  obtain ⟨r2,l2,s2,z2,k2,b2,f2⟩:=clears qs l1 b1
  refine⟨r2,l2,fun r hr=>(s2 r hr).of s1,fun p hp r hr=>?_,fun i hi=>k2 i (k1 i hi),b2,fun x hx hs=>?_⟩
  ·rcases List.mem_cons.mp hp with rfl|hp
   ·exact k2 p z1 r hr
   ·exact z2 p hp r hr
  ·have lx:=hs.len hl
   obtain ⟨d,hd,h1⟩:=f1 x (hx q (.head _)) hs
   obtain ⟨c,hc,h2⟩:=f2 (mulv x d) (fun p hp=>by rw [mulv_at,hx p (.tail _ hp),Int.zero_mul]) h1
   exact⟨d*c,Int.mul_ne_zero hd hc,by rw [← mulv_mulv lx];exact h2⟩
theorem SF.cleared {n k:Nat}:∀ {rs:List (List Int)} {x:List Int},SF rs→Len n rs→x.length=n→x.getD k 0≠0→(∀ u∈rs,u.getD k 0=0)→∃ y,y.length=n∧y.getD k 0≠0∧(∀ u∈rs,∀ j,Led u j→y.getD j 0=0)∧(∀ ts,(∀ u∈rs,Span n ts u)→Span n ts x→Span n ts y)∧∀ i,x.getD i 0=0→(∀ u∈rs,u.getD i 0=0)→y.getD i 0=0
 | [],x,_,_,lx,h0,_=>⟨x,lx,h0,(fun _ h=>nomatch h),fun _ _ h=>h,fun _ h _=>h⟩
 | u::us,x,sf,hl,lx,h0,hk=>by
  obtain ⟨j,hj⟩:=sf.1 u (.head _)
  have lu:=hl u (.head _)
  have lus:Len n us:=fun r hr=>hl r (.tail _ hr)
  have hj0:u.getD j 0≠0:=by have:=hj.1;lia
  obtain ⟨y,ly,y0,yz,ys,yi⟩:=SF.cleared (x:=crs j u x) sf.tail lus (crs_len lu lx) (by
   rw [crs_at lu lx,hk u (.head _),Int.zero_mul,Int.sub_zero]
   exact Int.mul_ne_zero h0 hj0) fun r hr=>hk r (.tail _ hr)
  refine⟨y,ly,y0,fun r hr i hi=>?_,fun ts ht hx=>ys ts (fun r hr=>ht r (.tail _ hr)) (Span.crsd lu lx (ht u (.head _)) hx),fun i hi hz=>yi i ?_ fun r hr=>hz r (.tail _ hr)⟩
  ·rcases List.mem_cons.mp hr with rfl|hr
   ·rw [hi.uniq hj]
    exact yi j (crs_q lu lx) (sf.low0 hj (Nat.le_refl _))
   ·exact yz r hr i hi
  ·rw [crs_at lu lx,hi,hz u (.head _)]
   simp
theorem SF.solo {n:Nat}:∀ {rs:List (List Int)} {t:List Int} {k:Nat},SF rs→Len n rs→t∈rs→Led t k→∃ y,Span n rs y∧y.getD k 0≠0∧∀ u∈rs,∀ j,Led u j→j≠k→y.getD j 0=0
 | [],_,_,_,_,h,_=>nomatch h
 | a::rs,t,k,sf,hl,ht,hk=>by
  have la:=hl a (.head _)
  have lr:Len n rs:=fun r hr=>hl r (.tail _ hr)
  obtain ⟨ja,hja⟩:=sf.1 a (.head _)
  rcases List.mem_cons.mp ht with rfl|ht'
  ·obtain ⟨y,ly,y0,yz,ys,_⟩:=SF.cleared (k:=k) (x:=t) sf.tail lr la (by have:=hk.1;lia) (sf.low0 hk (Nat.le_refl _))
   refine⟨y,ys _ (fun u hu=>Span.mem (.tail _ hu)) (Span.mem (.head _)),y0,fun u hu j hj hjk=>?_⟩
   rcases List.mem_cons.mp hu with rfl|hu
   ·exact absurd (hj.uniq hk) hjk
   ·exact yz u hu j hj
  ·obtain ⟨y,ys,y0,yz⟩:=SF.solo sf.tail lr ht' hk
   refine⟨y,ys.of fun u hu=>Span.mem (.tail _ hu),y0,fun u hu j hj hjk=>?_⟩
   rcases List.mem_cons.mp hu with rfl|hu
   ·exact Span.at0 lr ys (sf.low0 hj (Nat.le_refl _))
   ·exact yz u hu j hj hjk
theorem SF.nought {n:Nat} {T:List (List Int)} {v:List Int} (sf:SF T) (hl:Len n T) (h:Span n T v) (h0:∀ u∈T,∀ j,Led u j→v.getD j 0=0):v=zer n :=
 SF.small sf hl h fun r hr k hk=>by rw [h0 r hr k hk];have:=hk.1;lia
theorem SF.spread {n V:Nat} {T:List (List Int)} (sf:SF T) (hl:Len n T):∀ (ps:List (Nat×List Int)) {c:Nat} {v:List Int},Span n T v→(∀ p∈ps,Span n T p.2∧p.2.getD p.1 0≠0∧BdM V p.2∧∀ u∈T,∀ j,Led u j→j≠p.1→p.2.getD j 0=0)→(∀ p∈ps,∃ u∈T,Led u p.1)→(∀ u∈T,∀ j,Led u j→(∃ p∈ps,p.1=j)∨v.getD j 0=0)→(∀ p∈ps,(v.getD p.1 0).natAbs≤c*(p.2.getD p.1 0).natAbs)→BdM (ps.length*(c*V)) v
 | [],c,v,hv,_,_,h0,_=>fun i=>by
  rw [sf.nought hl hv fun u hu j hj=>(h0 u hu j hj).elim (fun ⟨_,h,_⟩=>nomatch h) id,zer_at]
  exact Nat.zero_le _
 | p::ps,c,v,hv,hp,hu,h0,hc=>by
  obtain ⟨sp,p0,pb,pz⟩:=hp p (.head _)
  have lp:=sp.len hl
  have lv:=hv.len hl
  have ih:=SF.spread sf hl ps (c:=c*(p.2.getD p.1 0).natAbs) (v:=crs p.1 p.2 v) (Span.crsd lp lv sp hv) (fun q hq=>hp q (.tail _ hq)) (fun q hq=>hu q (.tail _ hq)) (fun u hu' j hj=>?_) (fun q hq=>?_)
  ·intro i
   have h1:=ih i
   rw [crs_at lp lv] at h1
   have hpos:0<(p.2.getD p.1 0).natAbs:=by lia
   have h2:(p.2.getD i 0*v.getD p.1 0).natAbs≤V*(c*(p.2.getD p.1 0).natAbs):=by
    rw [Int.natAbs_mul]
    exact Nat.mul_le_mul (pb i) (hc p (.head _))
   have h3:=Int.natAbs_add_le (v.getD i 0*p.2.getD p.1 0 - p.2.getD i 0*v.getD p.1 0) (p.2.getD i 0*v.getD p.1 0)
   rw [Int.sub_add_cancel,Int.natAbs_mul] at h3
   refine Nat.le_of_mul_le_mul_right (c:=(p.2.getD p.1 0).natAbs) (Nat.le_trans h3 (Nat.le_trans (Nat.add_le_add h1 h2) (Nat.le_of_eq ?_))) hpos
   rw [List.length_cons,Nat.add_mul,Nat.add_mul,Nat.one_mul]
   congr 1
   ·rw [Nat.mul_assoc,Nat.mul_assoc,Nat.mul_assoc,Nat.mul_comm V]
   ·rw [Nat.mul_comm V,Nat.mul_assoc,Nat.mul_assoc,Nat.mul_comm V]
  ·by_cases e:j=p.1
   ·right
    rw [e]
    exact crs_q lp lv
   ·rcases h0 u hu' j hj with ⟨q,hq,z⟩|z
    ·rcases List.mem_cons.mp hq with rfl|hq
     ·exact absurd z.symm e
     ·exact .inl ⟨q,hq,z⟩
    ·right
     rw [crs_at lp lv,z,pz u hu' j hj e]
     simp
  ·by_cases e:q.1=p.1
   ·rw [e,crs_q lp lv]
    exact Nat.zero_le _
   ·obtain ⟨u,hu',hj⟩:=hu q (.tail _ hq)
    rw [crs_at lp lv,pz u hu' q.1 hj e,Int.zero_mul,Int.sub_zero,Int.natAbs_mul]
    have:=Nat.mul_le_mul_right (p.2.getD p.1 0).natAbs (hc q (.tail _ hq))
    rw [Nat.mul_assoc,Nat.mul_comm (q.2.getD q.1 0).natAbs,← Nat.mul_assoc] at this
    exact this
theorem choose_list {α β:Type} {R:α→β→Prop}:∀ (l:List α),(∀ a∈l,∃ b,R a b)→∃ bs:List β,bs.length=l.length∧(∀ a∈l,∃ b∈bs,R a b)∧∀ b∈bs,∃ a∈l,R a b
 | [],_=>⟨[],rfl,(fun _ h=>nomatch h),(fun _ h=>nomatch h)⟩
 | a::l,h=>by
  obtain ⟨b,hb⟩:=h a (.head _)
  obtain ⟨bs,h1,h2,h3⟩:=choose_list l fun x hx=>h x (.tail _ hx)
  refine⟨b::bs,by rw [List.length_cons,h1,List.length_cons],fun x hx=>?_,fun y hy=>?_⟩
  ·rcases List.mem_cons.mp hx with rfl|hx
   ·exact⟨b,.head _,hb⟩
   ·obtain ⟨y,hy,r⟩:=h2 x hx
    exact⟨y,.tail _ hy,r⟩
  ·rcases List.mem_cons.mp hy with rfl|hy
   ·exact⟨a,.head _,hb⟩
   ·obtain ⟨x,hx,r⟩:=h3 y hy
    exact⟨x,.tail _ hx,r⟩
theorem SF.alone {n k:Nat} {T:List (List Int)} {y:List Int} (sf:SF T) (hl:Len n T) (hy:Span n T y) (y0:y.getD k 0≠0) (yz:∀ u∈T,∀ j,Led u j→j≠k→y.getD j 0=0):∃ u∈T,Led u k∧(u.getD k 0).natAbs≤(y.getD k 0).natAbs:=by
 have ly:=hy.len hl
 obtain ⟨i,_,hi,hz⟩:=last_nz ly fun z=>y0 (by rw [z,zer_at])
 obtain ⟨u,hu,hj,hle⟩:=sf.lead_has hl hy hi hz
 by_cases e:i=k
 ·subst e
  exact⟨u,hu,hj,hle⟩
 ·exact absurd (yz u hu i hj e) hi
theorem SF.tight0 {V:Nat} {T:List (List Int)} (sf:SF T) (hl:Len 5 T) (h:∀ t∈T,∃ p:Nat×List Int,Led t p.1∧Span 5 T p.2∧p.2.getD p.1 0≠0∧BdM V p.2∧∀ u∈T,∀ j,Led u j→j≠p.1→p.2.getD j 0=0):∀ t∈T,BdM (5*V) t:=fun t ht=>by
 obtain ⟨ps,h1,h2,h3⟩:=choose_list T h
 have h5:T.length≤5:=SF.count sf fun r hr j hj=>led5 (hl r hr) hj
 have:=sf.spread hl (V:=V) ps (c:=1) (Span.mem ht) (fun p hp=>?_) (fun p hp=>?_) (fun u hu j hj=>?_) (fun p hp=>?_)
 ·refine this.mono ?_
  rw [Nat.one_mul]
  exact Nat.mul_le_mul_right _ (by lia)
 ·obtain ⟨a,ha,_,r⟩:=h3 p hp
  exact r
 ·obtain ⟨a,ha,hj,_⟩:=h3 p hp
  exact⟨a,ha,hj⟩
 ·obtain ⟨p,hp,hj',_⟩:=h2 u hu
  exact .inl ⟨p,hp,hj'.uniq hj⟩
 ·obtain ⟨a,ha,hj,sp,p0,_,pz⟩:=h3 p hp
  obtain ⟨u,hu,hju,hle⟩:=sf.alone hl sp p0 pz
  have:=sf.at_lead ht hu hju
  rw [Nat.one_mul]
  lia
theorem up3 (e:Nat):5*2 ^ e≤2 ^ (e+3):=by
 have h:(2:Nat) ^ (e+3)=8*2 ^ e:=by rw [Nat.pow_add,Nat.mul_comm]
 rw [h]
 exact Nat.mul_le_mul_right _ (by decide)
noncomputable def othersOf (T:List (List Int)) (k:Nat):List Nat:=(List.range 5).filter fun j=>@decide (j≠k∧∃ u∈T,Led u j) (Classical.propDecidable _)
theorem mem_others {T:List (List Int)} {k j:Nat}:j∈othersOf T k↔j<5∧j≠k∧∃ u∈T,Led u j:=by
 unfold othersOf
 rw [List.mem_filter,List.mem_range,@decide_eq_true_iff]
theorem others_len {T:List (List Int)} {k:Nat} (h:k<5):(othersOf T k).length≤4:=by
 unfold othersOf
 have h1:=(List.length_filter_lt_length_iff_exists (p:=fun j=>@decide (j≠k∧∃ u∈T,Led u j) (Classical.propDecidable _)) (l:=List.range 5)).mpr ⟨k,List.mem_range.mpr h,by simp⟩
 rw [List.length_range] at h1
 lia
theorem SF.tight {b:Nat} {rs T:List (List Int)} (sf:SF T) (hl:Len 5 T) (hr:Len 5 rs) (e:Eqv 5 rs T) (hb:∀ r∈rs,BdM (2 ^ b) r):∀ t∈T,BdM (2 ^ (16*b+18)) t:=by
 have key:=SF.tight0 (V:=2 ^ (16*b+15)) sf hl fun t ht=>?_
 ·refine fun t ht=>(key t ht).mono ?_
  exact up3 (16*b+15)
 ·obtain ⟨k,hk⟩:=sf.1 t ht
  have k5:=led5 (hl t ht) hk
  obtain ⟨y,ys,y0,yz⟩:=sf.solo hl ht hk
  obtain ⟨r2,l2,s2,z2,_,b2,f2⟩:=clears (othersOf T k) hr hb
  obtain ⟨d,hd,hs⟩:=f2 y (fun q hq=>by
   obtain ⟨_,h2,u,hu,hj⟩:=mem_others.mp hq
   exact yz u hu q hj h2) (e.symm.span ys)
  have hex:∃ r∈r2,r.getD k 0≠0:=by
   refine Classical.byContradiction fun hn=>?_
   have h0:=Span.at0 (i:=k) l2 hs fun r hr=>Classical.byContradiction fun z=>hn ⟨r,hr,z⟩
   rw [mulv_at] at h0
   exact (Int.mul_eq_zero.mp h0).elim y0 hd
  obtain ⟨x,hx,x0⟩:=hex
  refine⟨(k,x),hk,e.span (s2 x hx),x0,(b2 x hx).mono (Nat.pow_le_pow_right (by decide) (Nat.le_trans (eb_mono (others_len k5)) ?_)),fun u hu j hj hjk=>?_⟩
  ·simp only [eb]
   lia
  ·exact z2 j (mem_others.mpr ⟨led5 (hl u hu) hj,hjk,u,hu,hj⟩) x hx
end Mth
namespace Mth
noncomputable def cmb (cs:List Int) (vs:List (List Int)) (i:Nat):Int:=(List.zipWith (fun c v=>c*v.getD i 0) cs vs).sum
theorem cmb_cons {c:Int} {cs:List Int} {v:List Int} {vs:List (List Int)} {i:Nat}:cmb (c::cs) (v::vs) i=c*v.getD i 0+cmb cs vs i:=by
 unfold cmb
 rw [List.zipWith_cons_cons,List.sum_cons]
theorem cmb_crs {n q:Nat} {s:List Int} (ls:s.length=n) {i:Nat}:∀ {cs:List Int} {vs:List (List Int)},Len n vs→cmb cs (vs.map (crs q s)) i=cmb cs vs i*s.getD q 0 - s.getD i 0*cmb cs vs q
 | [],vs,_=>by simp [cmb]
 | c::cs,[],_=>by simp [cmb]
 | c::cs,v::vs,h=>by
  rw [List.map_cons,cmb_cons,cmb_cons,cmb_cons,cmb_crs ls fun r hr=>h r (.tail _ hr),crs_at ls (h v (.head _))]
  grind
theorem cmb_mul {d:Int} {i:Nat}:∀ {cs:List Int} {vs:List (List Int)},cmb (cs.map (·*d)) vs i=cmb cs vs i*d
 | [],vs=>by simp [cmb]
 | c::cs,[]=>by simp [cmb]
 | c::cs,v::vs=>by
  rw [List.map_cons,cmb_cons,cmb_cons,cmb_mul]
  grind
theorem cmb_zero {i:Nat}:∀ {k:Nat} {vs:List (List Int)},cmb (List.replicate k 0) vs i=0
 | 0,vs=>by simp [cmb]
 | k+1,[]=>by simp [cmb,List.replicate_succ]
 | k+1,v::vs=>by rw [List.replicate_succ,cmb_cons,cmb_zero];simp
noncomputable def Ind (qs:List Nat) (vs:List (List Int)):Prop:=∀ cs:List Int,cs.length=vs.length→(∀ q∈qs,cmb cs vs q=0)→∀ c∈cs,c=0
theorem Ind.leN {n:Nat}:∀ (m:Nat) {vs:List (List Int)} {qs:List Nat},vs.length=m→Len n vs→Ind qs vs→vs.length≤qs.length
 | 0,vs,_,e,_,_=>by rw [e];exact Nat.zero_le _
 | m+1,[],_,_,_,_=>Nat.zero_le _
 | m+1,s::vs,qs,e,hl,h=>by
  have ls:=hl s (.head _)
  have lv:Len n vs:=fun r hr=>hl r (.tail _ hr)
  obtain ⟨q,hq,h0⟩:∃ q∈qs,s.getD q 0≠0:=by
   refine Classical.byContradiction fun hn=>?_
   have:=h (1::List.replicate vs.length 0) (by simp) (fun q hq=>by
    rw [cmb_cons,cmb_zero,Classical.byContradiction fun z=>hn ⟨q,hq,z⟩];rfl) 1 (.head _)
   exact absurd this (by decide)
  have ih:=Ind.leN m (vs:=vs.map (crs q s)) (qs:=qs.erase q) (by rw [List.length_map];simpa using e) (fun r hr=>by
   obtain ⟨v,hv,rfl⟩:=List.mem_map.mp hr
   exact crs_len ls (lv v hv)) fun cs hc hz=>by
   rw [List.length_map] at hc
   have hall:=h (-(cmb cs vs q)::cs.map (·*s.getD q 0)) (by simp [hc]) fun p hp=>by
    rw [cmb_cons,cmb_mul]
    by_cases e:p=q
    ·subst e;grind
    ·have:=hz p ((List.mem_erase_of_ne e).mpr hp)
     rw [cmb_crs ls lv] at this
     grind
   intro c hc'
   have:=hall (c*s.getD q 0) (.tail _ (List.mem_map.mpr ⟨c,hc',rfl⟩))
   exact (Int.mul_eq_zero.mp this).resolve_right h0
  rw [List.length_map,List.length_erase_of_mem hq] at ih
  have:=List.length_pos_of_mem hq
  rw [List.length_cons]
  lia
theorem Ind.le {n:Nat} {vs:List (List Int)} {qs:List Nat} (hl:Len n vs) (h:Ind qs vs):vs.length≤qs.length:=Ind.leN vs.length rfl hl h
noncomputable def cmv (n:Nat):List Int→List (List Int)→List Int
 | c::cs,v::vs=>low (cmv n cs vs) v (-c)
 | _,_=>zer n
theorem cmv_ok {n:Nat}:∀ {cs:List Int} {vs:List (List Int)},Len n vs→(cmv n cs vs).length=n∧Span n vs (cmv n cs vs)∧∀ i,(cmv n cs vs).getD i 0=cmb cs vs i
 | [],vs,_=>⟨zer_len n,Span.zero,fun i=>by show (zer n).getD i 0=_;rw [zer_at];simp [cmb]⟩
 | c::cs,[],_=>⟨zer_len n,Span.zero,fun i=>by show (zer n).getD i 0=_;rw [zer_at];simp [cmb]⟩
 | c::cs,v::vs,h=>by
  have lv:=h v (.head _)
  obtain ⟨h1,h2,h3⟩:=cmv_ok (cs:=cs) (vs:=vs) (n:=n) fun r hr=>h r (.tail _ hr)
  refine⟨low_len h1 lv,Span.low h1 lv (h2.of fun r hr=>Span.mem (.tail _ hr)) (Span.mem (.head _)) _,fun i=>?_⟩
  show (low (cmv n cs vs) v (-c)).getD i 0=_
  rw [low_at h1 lv,h3,cmb_cons,Int.mul_neg,Int.mul_comm]
  lia
theorem cmb_at0 {i:Nat}:∀ {cs:List Int} {vs:List (List Int)},(∀ v∈vs,v.getD i 0=0)→cmb cs vs i=0
 | [],_,_=>by simp [cmb]
 | _::_,[],_=>by simp [cmb]
 | c::cs,v::vs,h=>by rw [cmb_cons,h v (.head _),cmb_at0 fun r hr=>h r (.tail _ hr)];simp
theorem SF.ind:∀ {T:List (List Int)} {cs:List Int},SF T→cs.length=T.length→(∀ i,cmb cs T i=0)→∀ c∈cs,c=0
 | [],[],_,_,_=>fun c hc=>nomatch hc
 | [],_::_,_,hl,_=>by simp at hl
 | _::_,[],_,hl,_=>by simp at hl
 | a::T,c::cs,sf,hl,h=>by
  obtain ⟨j,hj⟩:=sf.1 a (.head _)
  have h1:=h j
  rw [cmb_cons,cmb_at0 (sf.low0 hj (Nat.le_refl _)),Int.add_zero] at h1
  have hc:c=0:=(Int.mul_eq_zero.mp h1).resolve_right (by have:=hj.1;lia)
  subst hc
  have ih:=SF.ind (cs:=cs) sf.tail (by simpa using hl) fun i=>by
   have:=h i
   rwa [cmb_cons,Int.zero_mul,Int.zero_add] at this
  exact fun x hx=>(List.mem_cons.mp hx).elim id (ih x)
theorem SF.free {n:Nat} {T:List (List Int)} {qs:List Nat} (sf:SF T) (hl:Len n T) (h:∀ x,Span n T x→(∀ q∈qs,x.getD q 0=0)→x=zer n):T.length≤qs.length:=by
 refine Ind.le hl fun cs hc hz=>?_
 obtain ⟨h1,h2,h3⟩:=cmv_ok (cs:=cs) hl
 have e:=h _ h2 fun q hq=>by rw [h3];exact hz q hq
 exact sf.ind hc fun i=>by rw [← h3,e,zer_at]
theorem first_nz {v:List Int} {n:Nat} (hl:v.length=n) (h:v≠zer n):∃ k,k<n∧v.getD k 0≠0∧∀ i,i<k→v.getD i 0=0:=by
 have hex:∃ k,v.getD k 0≠0:=Classical.byContradiction fun hn=>h (ext_at hl (zer_len n) fun i _=>by
  rw [zer_at];exact Classical.byContradiction fun z=>hn ⟨i,z⟩)
 obtain ⟨k,hk⟩:=hex
 induction k using Nat.strongRecOn with
 | _ k ih =>
  by_cases c:∃ j,j<k∧v.getD j 0≠0
  ·obtain ⟨j,hj,h0⟩:=c
   exact ih j hj h0
  ·refine⟨k,?_,hk,fun i hi=>Classical.byContradiction fun z=>c ⟨i,hi,z⟩⟩
   refine Classical.byContradiction fun z=>hk ?_
   rw [List.getD,List.getElem?_eq_none (by lia)]
   rfl
noncomputable def leadsOf (st:List (List Int)):List Nat:=(List.range 5).filter fun j=>@decide (∃ u∈st,Led u j) (Classical.propDecidable _)
noncomputable def freeOf (st:List (List Int)):List Nat:=(List.range 5).filter fun j=>!(@decide (∃ u∈st,Led u j) (Classical.propDecidable _))
theorem mem_free {st:List (List Int)} {j:Nat}:j∈freeOf st↔j<5∧¬ ∃ u∈st,Led u j:=by
 unfold freeOf
 rw [List.mem_filter,List.mem_range,Bool.not_eq_true',@decide_eq_false_iff_not]
theorem filter_two {α:Type} (p:α→Bool):∀ l:List α,(l.filter fun x=>!p x).length+(l.filter p).length=l.length
 | []=>rfl
 | a::l=>by
  have ih:=filter_two p l
  rw [List.filter_cons,List.filter_cons,List.length_cons]
  cases p a <;> simp <;> lia
theorem free_leads (st:List (List Int)):(freeOf st).length+(leadsOf st).length=5:=by
 unfold freeOf leadsOf
 exact (filter_two _ _).trans List.length_range
theorem deaf_free {st:List (List Int)} (hl:Len 5 st) {x:List Int} (lx:x.length=5) (h0:∀ s∈st,dt x s=0) (hq:∀ q∈freeOf st,x.getD q 0=0):x=zer 5:=by
 refine Classical.byContradiction fun hn=>?_
 obtain ⟨k,k5,hk,hz⟩:=first_nz lx hn
 have hlead:∃ u∈st,Led u k:=Classical.byContradiction fun z=>hk (hq k (mem_free.mpr ⟨k5,z⟩))
 obtain ⟨u,hu,hj⟩:=hlead
 have h1:=h0 u hu
 rw [dt_one lx (hl u hu) k5 fun i _ hik=>by
  rcases (show i<k∨k<i by lia) with c|c
  ·exact .inl (hz i c)
  ·exact .inr (hj.2 i c)] at h1
 have:=hj.1
 exact (Int.mul_eq_zero.mp h1).elim hk (by lia)
theorem VZ0 {w x:List Int}:VZ w 0 x↔dt x w=0:=Int.zero_dvd
theorem deaf_count {st D:List (List Int)} (hl:Len 5 st) (h:Lo (st.map fun s=>(s,0)) D):D.length+(leadsOf st).length≤5:=by
 have h1:=SF.free (qs:=freeOf st) h.sf h.len fun x hx hq=>by
  have h2:=(h.all x).mp hx
  exact deaf_free hl h2.1 (fun s hs=>VZ0.mp (h2.2 (s,0) (List.mem_map.mpr ⟨s,hs,rfl⟩))) hq
 have:=free_leads st
 lia
theorem filter_range_le {α:Type} {p:α→Bool} {P:Nat→Bool}:∀ {l:List α} {m:Nat},(∀ i x,l[i]?=some x→p x=true→P (m+i)=true)→(l.filter p).length≤((List.range' m l.length).filter P).length
 | [],m,_=>Nat.zero_le _
 | a::l,m,h=>by
  have ih:=filter_range_le (l:=l) (m:=m+1) fun i x hx hp=>by
   have:=h (i+1) x (by simpa using hx) hp
   rwa [show m+(i+1)=m+1+i by lia] at this
  rw [List.length_cons,List.range'_succ,List.filter_cons,List.filter_cons]
  have h0:p a=true→P m=true:=h 0 a rfl
  by_cases c:p a=true
  ·rw [if_pos c,if_pos (h0 c),List.length_cons,List.length_cons]
   lia
  ·rw [if_neg c]
   split
   ·rw [List.length_cons];lia
   ·exact ih
theorem leads_count {α:Type} {st:List (List Int)} {ks:List α} {p:α→Bool} (h5:ks.length=5) (h:∀ i k,ks[i]?=some k→p k=true→∃ u∈st,Led u i):(ks.filter p).length≤(leadsOf st).length:=by
 have:=filter_range_le (l:=ks) (m:=0) (p:=p) (P:=fun j=>@decide (∃ u∈st,Led u j) (Classical.propDecidable _)) fun i k hk hp=>by
  rw [Nat.zero_add,@decide_eq_true_iff]
  exact h i k hk hp
 rw [h5] at this
 unfold leadsOf
 rw [List.range_eq_range']
 exact this
end Mth
namespace Mth
noncomputable def hdv (w r:List Int):List Int:=r++[dt r w]
theorem hdv_len {w r:List Int} (l:r.length=5):(hdv w r).length=6:=by simp [hdv,l]
theorem hdv_take {w r:List Int} (l:r.length=5):(hdv w r).take 5=r:=by rw [hdv,List.take_append_of_le_length (by lia),List.take_of_length_le (by lia)]
theorem hdv_last {w r:List Int} (l:r.length=5):(hdv w r).getD 5 0=dt r w:=by rw [hdv,List.getD,List.getElem?_append_right (by lia),l];rfl
theorem hdv_at {w r:List Int} {i:Nat} (l:r.length=5) (h:i<5):(hdv w r).getD i 0=r.getD i 0:=by rw [hdv,List.getD,List.getD,List.getElem?_append_left (by lia)]
theorem hdv_ext {w a v:List Int} (la:a.length=5) (lv:v.length=6) (h:∀ i,i<5→v.getD i 0=a.getD i 0) (k:v.getD 5 0=dt a w):v=hdv w a:=ext_at lv (hdv_len la) fun i hi=>by
 by_cases c:i<5
 ·rw [h i c,hdv_at la c]
 ·obtain rfl:i=5:=by lia
  rw [k,hdv_last la]
theorem Span.hd5 {rs:List (List Int)} {w v:List Int} (lw:w.length=5) (hl:Len 5 rs) (h:Span 6 (rs.map (hdv w)) v):v.length=6∧v.getD 5 0=dt (v.take 5) w:=by
 refine h (fun v=>v.length=6∧v.getD 5 0=dt (v.take 5) w) ⟨⟨zer_len 6,?_⟩,fun a b la lb ha hb=>⟨sub_len la lb,?_⟩⟩ fun r hr=>?_
 ·rw [zer_at,show (zer 6).take 5=zer 5 from rfl,dt_zer]
 ·rw [sub_at la lb,ha.2,hb.2,sub_take,dt_sub (n:=5) (by rw [List.length_take,la];rfl) (by rw [List.length_take,lb];rfl) lw]
 ·obtain ⟨q,hq,rfl⟩:=List.mem_map.mp hr
  exact⟨hdv_len (hl q hq),by rw [hdv_last (hl q hq),hdv_take (hl q hq)]⟩
theorem Span.hd_of {rs:List (List Int)} {w x:List Int} (lw:w.length=5) (hl:Len 5 rs) (h:Span 5 rs x):Span 6 (rs.map (hdv w)) (hdv w x):=by
 refine (h (fun x=>x.length=5∧Span 6 (rs.map (hdv w)) (hdv w x)) ⟨⟨zer_len 5,?_⟩,fun a b la lb ha hb=>⟨sub_len la lb,?_⟩⟩ fun r hr=>⟨hl r hr,Span.mem (List.mem_map.mpr ⟨r,hr,rfl⟩)⟩).2
 ·rw [hdv,dt_zer];exact Span.zero
 ·have e:hdv w (Mth.sub a b)=Mth.sub (hdv w a) (hdv w b):=(hdv_ext (sub_len la lb) (sub_len (hdv_len la) (hdv_len lb)) (fun i hi=>by rw [sub_at (hdv_len la) (hdv_len lb),hdv_at la hi,hdv_at lb hi,sub_at la lb]) (by rw [sub_at (hdv_len la) (hdv_len lb),hdv_last la,hdv_last lb,dt_sub la lb lw])).symm
  rw [e]
  exact Span.sub (hdv_len la) (hdv_len lb) ha.2 hb.2
theorem map_take_hdv {st:List (List Int)} {w:List Int} (hl:Len 5 st):(st.map (hdv w)).map (List.take 5)=st:=by
 rw [List.map_map]
 conv=>rhs;rw [← List.map_id st]
 exact List.map_congr_left fun r hr=>hdv_take (hl r hr)
theorem lost_key {st os ts:List (List Int)} {s w:List Int} {m c:Int} (lw:w.length=5) (hl:Len 5 st) (e:Eqv 6 (st.map (hdv w)) (s::os)) (ls:s.length=6) (lo:Len 6 os) (h0:∀ v∈os,v.getD 5 0=0)
  (hs:s.getD 5 0≠0) (hc:(m=0∧ts=[])∨(ts=[mulv (s.take 5) c]∧∀ a,m ∣ s.getD 5 0*a↔c ∣ a)) (x:List Int):Span 5 (os.map (List.take 5)++ts) x↔Span 5 st x∧VZ w m x:=by
 have l5:(s.take 5).length=5:=by rw [List.length_take,ls];rfl
 have hsp:∀ v,Span 6 (st.map (hdv w)) v→Span 5 st (v.take 5):=fun v hv=>by
  have:=Span.take (w:=5) (by decide) hv
  rwa [map_take_hdv hl] at this
 have hse:=e.2 s (List.mem_cons_self ..)
 have hsd:=(Span.hd5 lw hl hse).2
 constructor
 ·intro h
  refine (h (fun x=>x.length=5∧Span 5 st x∧VZ w m x) ⟨⟨zer_len 5,Span.zero,by rw [VZ,dt_zer];exact Int.dvd_zero _⟩,fun a b la lb ha hb=>⟨sub_len la lb,Span.sub la lb ha.2.1 hb.2.1,by rw [VZ,dt_sub la lb lw];exact Int.dvd_sub ha.2.2 hb.2.2⟩⟩ fun r hr=>?_).2
  rcases List.mem_append.mp hr with z|z
  ·obtain ⟨v,hv,rfl⟩:=List.mem_map.mp z
   have hve:=e.2 v (List.mem_cons_of_mem _ hv)
   refine⟨by rw [List.length_take,lo v hv];rfl,hsp v hve,?_⟩
   rw [VZ,← (Span.hd5 lw hl hve).2,h0 v hv]
   exact Int.dvd_zero _
  ·rcases hc with ⟨_,rfl⟩|⟨rfl,hc⟩
   ·cases z
   ·rw [List.mem_singleton.mp z]
    refine⟨mulv_len l5,Span.mul l5 (hsp s hse) _,?_⟩
    rw [VZ,dt_mul l5 lw,← hsd]
    exact (hc c).mpr (Int.dvd_refl _)
 ·rintro ⟨h,hv⟩
  have lx:=h.len hl
  obtain ⟨a,_,ha⟩:=Span.cons ls lo (e.span (Span.hd_of lw hl h))
  have hz:=Span.at0 (i:=5) lo ha h0
  rw [low_at (hdv_len lx) ls,hdv_last lx] at hz
  have hd:dt x w=s.getD 5 0*a:=by lia
  have ht:=Span.take (w:=5) (by decide) ha
  have et:(low (hdv w x) s a).take 5=low x (s.take 5) a:=by
   rw [low,sub_take,hdv_take lx,low]
   congr 1
   simp [mulv,List.map_take]
  rw [et] at ht
  rw [VZ,hd] at hv
  rcases hc with ⟨rfl,rfl⟩|⟨rfl,hc⟩
  ·have ha0:a=0:=(Int.mul_eq_zero.mp (Int.zero_dvd.mp hv)).resolve_left hs
   subst ha0
   have ex:low x (s.take 5) 0=x:=ext_at (low_len lx l5) lx fun i _=>by rw [low_at lx l5];lia
   rw [ex] at ht
   exact ht.app
  ·obtain ⟨b,hb⟩:=(hc a).mp hv
   have ex:low x (s.take 5) a=low x (mulv (s.take 5) c) b:=ext_at (low_len lx l5) (low_len lx (mulv_len l5)) fun i _=>by rw [low_at lx l5,low_at lx (mulv_len l5),mulv_at,hb,Int.mul_assoc]
   rw [ex] at ht
   exact Span.unlow lx (mulv_len l5) ht.app (Span.mem (List.mem_append_right _ (List.mem_singleton.mpr rfl)))
theorem lost_none {st os:List (List Int)} {w:List Int} {m:Int} (lw:w.length=5) (hl:Len 5 st) (e:Eqv 6 (st.map (hdv w)) os) (lo:Len 6 os) (h0:∀ v∈os,v.getD 5 0=0) (x:List Int):Span 5 (os.map (List.take 5)) x↔Span 5 st x∧VZ w m x:=by
 have e5:=Eqv.take (w:=5) (by decide) e
 rw [map_take_hdv hl] at e5
 have hz:∀ x,Span 5 st x→dt x w=0:=fun x hx=>by
  rw [← hdv_last (w:=w) (hx.len hl)]
  exact Span.at0 (i:=5) lo (e.span (Span.hd_of lw hl hx)) h0
 exact⟨fun h=>⟨e5.symm.span h,by rw [VZ,hz x (e5.symm.span h)];exact Int.dvd_zero _⟩,fun h=>e5.span h.1⟩
theorem ring_part {m s:Int} (hm:m≠0) (a:Int):m ∣ s*a↔m / (Int.gcd m s:Int) ∣ a:=by
 obtain ⟨u,hu⟩:=Int.gcd_dvd_left m s
 obtain ⟨v,hv⟩:=Int.gcd_dvd_right m s
 generalize hgd:Int.gcd m s=g at hu hv
 have hg:(g:Int)≠0:=fun z=>hm (by rw [hu,z,Int.zero_mul])
 subst hu
 subst hv
 rw [Int.mul_ediv_cancel_left _ hg]
 have huv:Int.gcd u v=1:=by
  rw [Int.gcd_mul_left,Int.natAbs_natCast] at hgd
  exact Nat.eq_of_mul_eq_mul_left (show 0<g by lia) (by lia)
 rw [Int.mul_assoc,Int.mul_dvd_mul_iff_left hg]
 constructor
 ·intro h
  have h2:=Int.natAbs_dvd_natAbs.mpr h
  rw [Int.natAbs_mul] at h2
  exact Int.natAbs_dvd_natAbs.mp (Nat.Coprime.dvd_of_dvd_mul_left (m:=v.natAbs) huv h2)
 ·exact fun h=>Int.dvd_mul_of_dvd_right h
theorem gcd_fm {p q:Int}:Int.gcd q (p.fmod q)=Int.gcd p q:=by
 have e:p.fmod q+q*p.fdiv q=p:=Int.fmod_add_mul_fdiv p q
 apply Nat.dvd_antisymm
 ·refine Int.natCast_dvd_natCast.mp (Int.dvd_coe_gcd ?_ (Int.gcd_dvd_left ..))
  have:=Int.dvd_add (Int.gcd_dvd_right q (p.fmod q)) (Int.dvd_mul_of_dvd_left (c:=p.fdiv q) (Int.gcd_dvd_left q (p.fmod q)))
  rw [e] at this
  exact this
 ·refine Int.natCast_dvd_natCast.mp (Int.dvd_coe_gcd (Int.gcd_dvd_right ..) ?_)
  have h:p.fmod q=p - q*p.fdiv q:=by lia
  rw [h]
  exact Int.dvd_sub (Int.gcd_dvd_left ..) (Int.dvd_mul_of_dvd_left (Int.gcd_dvd_right ..))
end Mth
namespace Mth
noncomputable def Free (vs:List (List Int)):Prop:=∀ cs:List Int,cs.length=vs.length→(∀ i,cmb cs vs i=0)→∀ c∈cs,c=0
theorem cmb_sub {i:Nat}:∀ {cs ds:List Int} {vs:List (List Int)},cs.length=vs.length→ds.length=vs.length→cmb (List.zipWith (· - ·) cs ds) vs i=cmb cs vs i - cmb ds vs i
 | [],[],[],_,_=>rfl
 | [],_::_,[],_,h=>by simp at h
 | [],_,_::_,h,_=>by simp at h
 | _::_,_,[],h,_=>by simp at h
 | _::_,[],_::_,_,h=>by simp at h
 | c::cs,d::ds,v::vs,h,k=>by
  rw [List.zipWith_cons_cons,cmb_cons,cmb_cons,cmb_cons,cmb_sub (by simpa using h) (by simpa using k),Int.sub_mul]
  lia
theorem cmb_low {i:Nat} {c:Int}:∀ {x a:List Int} {vs:List (List Int)},x.length=vs.length→a.length=vs.length→cmb (low x a c) vs i=cmb x vs i - c*cmb a vs i
 | [],[],[],_,_=>by simp [cmb,low,sub]
 | [],_::_,[],_,h=>by simp at h
 | [],_,_::_,h,_=>by simp at h
 | _::_,_,[],h,_=>by simp at h
 | _::_,[],_::_,_,h=>by simp at h
 | y::x,d::a,v::vs,h,k=>by
  show cmb ((y - d*c)::low x a c) (v::vs) i=_
  rw [cmb_cons,cmb_cons,cmb_cons,cmb_low (by simpa using h) (by simpa using k),Int.sub_mul,Int.mul_add,Int.mul_comm d c,Int.mul_assoc]
  lia
theorem mem_rep {r:List Int}:∀ {us:List (List Int)},r∈us→∃ cs:List Int,cs.length=us.length∧∀ i,r.getD i 0=cmb cs us i
 | u::us,h=>by
  rcases List.mem_cons.mp h with rfl|h
  ·exact⟨1::List.replicate us.length 0,by simp,fun i=>by rw [cmb_cons,cmb_zero];lia⟩
  ·obtain ⟨cs,h1,h2⟩:=mem_rep h
   exact⟨0::cs,by simp [h1],fun i=>by rw [cmb_cons,h2 i];lia⟩
theorem Span.rep {n:Nat} {us:List (List Int)} {v:List Int} (hl:Len n us) (h:Span n us v):∃ cs:List Int,cs.length=us.length∧∀ i,v.getD i 0=cmb cs us i:=by
 refine (h (fun v=>v.length=n∧∃ cs:List Int,cs.length=us.length∧∀ i,v.getD i 0=cmb cs us i) ⟨⟨zer_len n,List.replicate us.length 0,by simp,fun i=>by rw [zer_at,cmb_zero]⟩,fun a b la lb ha hb=>⟨sub_len la lb,?_⟩⟩ fun r hr=>⟨hl r hr,mem_rep hr⟩).2
 obtain ⟨_,cs,h1,h2⟩:=ha
 obtain ⟨_,ds,h3,h4⟩:=hb
 exact⟨List.zipWith (· - ·) cs ds,by rw [List.length_zipWith];lia,fun i=>by rw [cmb_sub h1 h3,sub_at la lb,h2,h4]⟩
theorem cmb_nil {i m:Nat} {us:List (List Int)}:cmb (zer m) us i=0:=by
 have:zer m=List.replicate m 0:=by simp [zer]
 rw [this,cmb_zero]
theorem reps {n:Nat} {us:List (List Int)} (hl:Len n us):∀ {vs:List (List Int)},(∀ v∈vs,Span n us v)→∃ A:List (List Int),A.length=vs.length∧Len us.length A∧∀ cs,cs.length=vs.length→∀ i,cmb (cmv us.length cs A) us i=cmb cs vs i
 | [],_=>⟨[],rfl,(fun _ z=>nomatch z),fun cs hc i=>by
  match cs,hc with
  | [],_=>exact cmb_nil⟩
 | v::vs,h=>by
  obtain ⟨a,ha,hv⟩:=Span.rep hl (h v (.head _))
  obtain ⟨A,h1,h2,h3⟩:=reps hl (vs:=vs) fun r hr=>h r (.tail _ hr)
  refine⟨a::A,by simp [h1],fun r hr=>(List.mem_cons.mp hr).elim (fun z=>by rw [z,ha]) (h2 r),fun cs hc i=>?_⟩
  match cs,hc with
  | c::cs,hc =>
   show cmb (low (cmv us.length cs A) a (-c)) us i=_
   rw [cmb_low (cmv_ok h2).1 ha,h3 cs (by simpa using hc),cmb_cons,hv]
   rw [Int.neg_mul]
   lia
theorem cmv_zero {m:Nat} {cs:List Int} {A:List (List Int)} (hl:Len m A) (h:∀ q∈List.range m,cmb cs A q=0):cmv m cs A=zer m:=by
 obtain ⟨h1,_,h3⟩:=cmv_ok (cs:=cs) hl
 exact ext_at h1 (zer_len m) fun i hi=>by rw [h3,zer_at,h i (List.mem_range.mpr hi)]
theorem Free.le {n:Nat} {us vs:List (List Int)} (hl:Len n us) (hf:Free vs) (h:∀ v∈vs,Span n us v):vs.length≤us.length:=by
 obtain ⟨A,h1,h2,h3⟩:=reps hl h
 have:=Ind.le (qs:=List.range us.length) h2 fun cs hc hz=>hf cs (by lia) fun i=>by
  rw [← h3 cs (by lia),cmv_zero h2 hz,cmb_nil]
 rw [List.length_range] at this
 lia
theorem Free.exch {n:Nat} {us vs:List (List Int)} (hl:Len n us) (hf:Free vs) (h:∀ v∈vs,Span n us v) (hc:us.length≤vs.length):Free us:=by
 obtain ⟨A,h1,h2,h3⟩:=reps hl h
 intro d hd hz
 refine Classical.byContradiction fun hn=>?_
 have hq:∃ q,q<us.length∧d.getD q 0≠0:=Classical.byContradiction fun z=>hn fun x hx=>by
  obtain ⟨q,hq,rfl⟩:=List.getElem_of_mem hx
  refine Classical.byContradiction fun y=>z ⟨q,by lia,?_⟩
  rw [List.getD,List.getElem?_eq_getElem hq]
  exact y
 obtain ⟨q,hq,hdq⟩:=hq
 have hdA:Len us.length (d::A):=fun r hr=>(List.mem_cons.mp hr).elim (fun z=>by rw [z,hd]) (h2 r)
 have:=Ind.le (qs:=List.range us.length) hdA fun cs hc hz2=>by
  match cs,hc with
  | c::cs,hc =>
   have hcl:cs.length=vs.length:=by simp at hc;lia
   have e:=cmv_zero hdA hz2
   have e2:∀ i,cmb cs vs i=0:=fun i=>by
    have e3:cmb (low (cmv us.length cs A) d (-c)) us i=0:=by
     show cmb (cmv us.length (c::cs) (d::A)) us i=0
     rw [e,cmb_nil]
    rw [cmb_low (cmv_ok h2).1 hd,hz,h3 cs hcl,Int.mul_zero] at e3
    lia
   have hcs:=hf cs hcl e2
   have hc0:c=0:=by
    have e4:=hz2 q (List.mem_range.mpr hq)
    rw [cmb_cons] at e4
    have e5:cmb cs A q=0:=by
     have:cs=List.replicate cs.length 0:=List.eq_replicate_of_mem hcs
     rw [this,cmb_zero]
    rw [e5,Int.add_zero] at e4
    exact (Int.mul_eq_zero.mp e4).resolve_right hdq
   intro x hx
   exact (List.mem_cons.mp hx).elim (fun z=>by rw [z,hc0]) (hcs x)
 rw [List.length_cons,List.length_range] at this
 lia
theorem SF.isFree {T:List (List Int)} (h:SF T):Free T:=fun _ hc hz=>h.ind hc hz
theorem Free.tail {s:List Int} {os:List (List Int)} (h:Free (s::os)):Free os:=fun cs hc hz=>fun c hx=>h (0::cs) (by simp [hc]) (fun i=>by rw [cmb_cons,hz i];lia) c (.tail _ hx)
theorem cmb_snoc {i:Nat} {e:Int} {t:List Int}:∀ {ds:List Int} {os:List (List Int)},ds.length=os.length→cmb (ds++[e]) (os++[t]) i=cmb ds os i+e*t.getD i 0
 | [],[],_=>by simp [cmb]
 | [],_::_,h=>by simp at h
 | _::_,[],h=>by simp at h
 | d::ds,o::os,h=>by
  show cmb (d::(ds++[e])) (o::(os++[t])) i=_
  rw [cmb_cons,cmb_cons,cmb_snoc (by simpa using h)]
  lia
theorem Free.back {s:List Int} {os:List (List Int)} {c:Int} (h:Free (s::os)) (h0:c≠0):Free (os++[mulv s c]):=fun cs hc hz=>by
 obtain ⟨ds,e,rfl⟩:∃ ds e,cs=ds++[e]:=by
  rcases List.eq_nil_or_concat cs with z|⟨ds,e,z⟩
  ·rw [z] at hc;simp at hc
  ·exact⟨ds,e,by rw [z,List.concat_eq_append]⟩
 have hd:ds.length=os.length:=by simpa using hc
 have:=h ((e*c)::ds) (by simp [hd]) fun i=>by
  have:=hz i
  rw [cmb_snoc hd,mulv_at] at this
  rw [cmb_cons,Int.mul_assoc,Int.mul_comm c]
  lia
 intro x hx
 rcases List.mem_append.mp hx with z|z
 ·exact this x (.tail _ z)
 ·rw [List.mem_singleton.mp z]
  exact (Int.mul_eq_zero.mp (this _ (.head _))).resolve_right h0
theorem cmb_map {i:Nat} {f:List Int→List Int}:∀ {cs:List Int} {vs:List (List Int)},(∀ v∈vs,(f v).getD i 0=v.getD i 0)→cmb cs (vs.map f) i=cmb cs vs i
 | [],vs,_=>by simp [cmb]
 | c::cs,[],_=>by simp [cmb]
 | c::cs,v::vs,h=>by
  rw [List.map_cons,cmb_cons,cmb_cons,h v (.head _),cmb_map fun r hr=>h r (.tail _ hr)]
theorem at_len {v:List Int} {i n:Nat} (h:v.length=n) (hi:n≤i):v.getD i 0=0:=by
 rw [List.getD,List.getElem?_eq_none (by lia)]
 rfl
theorem Free.hd {st:List (List Int)} {w:List Int} (hl:Len 5 st) (h:Free st):Free (st.map (hdv w)):=fun cs hc hz=>h cs (by simpa using hc) fun i=>by
 by_cases c:i<5
 ·rw [← cmb_map (f:=hdv w) fun v hv=>hdv_at (hl v hv) c];exact hz i
 ·exact cmb_at0 fun v hv=>at_len (hl v hv) (by lia)
theorem tk_at {v:List Int} {i n:Nat} (h:i<n):(v.take n).getD i 0=v.getD i 0:=by
 rw [List.getD,List.getElem?_take_of_lt h,List.getD]
theorem Free.take5 {st us:List (List Int)} {w:List Int} (lw:w.length=5) (hl:Len 5 st) (hu:Len 6 us) (hf:Free us) (h:∀ u∈us,Span 6 (st.map (hdv w)) u):Free (us.map (List.take 5)):=fun cs hc hz=>by
 have hc':cs.length=us.length:=by simpa using hc
 obtain ⟨h1,h2,h3⟩:=cmv_ok (cs:=cs) hu
 have h5:=(Span.hd5 lw hl (h2.of h)).2
 have hlow:∀ i,i<5→cmb cs us i=0:=fun i hi=>by rw [← cmb_map (f:=List.take 5) fun v _=>tk_at hi];exact hz i
 have ez:(cmv 6 cs us).take 5=zer 5:=ext_at (by rw [List.length_take,h1];rfl) (zer_len 5) fun i hi=>by rw [tk_at hi,h3,zer_at,hlow i hi]
 rw [ez,dt_zer,h3] at h5
 refine hf cs hc' fun i=>?_
 rcases (show i<5∨i=5∨6≤i by lia) with z|z|z
 ·exact hlow i z
 ·rw [z];exact h5
 ·exact cmb_at0 fun v hv=>at_len (hu v hv) z
theorem lost_free {st us:List (List Int)} {w:List Int} (lw:w.length=5) (hl:Len 5 st) (hf:Free st) (e:Eqv 6 (st.map (hdv w)) us) (hu:Len 6 us) (hc:us.length≤st.length):Free (us.map (List.take 5)) :=
 Free.take5 lw hl hu ((hf.hd (w:=w) hl).exch hu e.1 (by rw [List.length_map];exact hc)) e.2
theorem Free.units:Free units5:=fun cs hc hz=>by
 obtain ⟨a,b,c,d,e,rfl⟩:=five_of (show cs.length=5 from hc)
 have h0:=hz 0
 have h1:=hz 1
 have h2:=hz 2
 have h3:=hz 3
 have h4:=hz 4
 simp [cmb,units5,unitv] at h0 h1 h2 h3 h4
 simp [h0,h1,h2,h3,h4]
end Mth
namespace Mth
theorem ss_le (b:Nat):∀ {i j:Nat},i≤j→ss b i≤ss b j
 | i,0,h=>by rw [Nat.le_zero.mp h];exact Nat.le_refl _
 | i,j+1,h=>by
  rcases Nat.lt_or_eq_of_le h with c|c
  ·have:=ss_le b (show i≤j by lia)
   rw [ss]
   lia
  ·rw [c];exact Nat.le_refl _
structure SK (n b:Nat) (rs:List (List Int)) (i:Nat) (st lf:List (List Int)):Prop where
 sf:SF st
 ld:∀ r∈st,∃ k,n - i≤k∧Led r k
 lst:Len n st
 llf:Len n lf
 z:∀ v∈lf,∀ j,n - i≤j→j<n→v.getD j 0=0
 e:Eqv n rs (st++lf)
 bl:∀ v∈lf,BdM (2 ^ gs b st.length) v
 bs:∀ v∈st,BdM (2 ^ ss b st.length) v
 c1:lf.length≤rs.length
 c2:st.length≤i
theorem SK.start {n b:Nat} {rs:List (List Int)} (hl:Len n rs) (hb:∀ v∈rs,BdM (2 ^ b) v):SK n b rs 0 [] rs :=
 ⟨⟨(fun _ z=>nomatch z),List.Pairwise.nil⟩,(fun _ z=>nomatch z),(fun _ z=>nomatch z),hl,(fun v _ j h1 h2=>by lia),Eqv.refl,hb,(fun _ z=>nomatch z),Nat.le_refl _,Nat.le_refl _⟩
theorem SK.none {n b i p:Nat} {rs st lf os:List (List Int)} (h:SK n b rs i st lf) (hp:p+i+1=n) (he:Eqv n lf os) (h0:∀ v∈os,v.getD p 0=0) (hl:Len n os)
  (hb:∀ v∈os,BdM (2 ^ gs b st.length) v) (hc:os.length≤lf.length):SK n b rs (i+1) st os:=by
 refine⟨h.sf,fun r hr=>?_,h.lst,hl,fun v hv j h1 h2=>?_,h.e.trans he.app,hb,h.bs,Nat.le_trans hc h.c1,Nat.le_succ_of_le h.c2⟩
 ·obtain ⟨k,h1,h2⟩:=h.ld r hr
  exact⟨k,by lia,h2⟩
 ·by_cases e:j=p
  ·rw [e];exact h0 v hv
  ·exact Span.at0 h.llf (he.2 v hv) fun r hr=>h.z r hr j (by lia) h2
theorem SK.one {n b i p:Nat} {rs st lf os:List (List Int)} {s:List Int} (h:SK n b rs i st lf) (hp:p+i+1=n) (he:Eqv n lf (s::os)) (hs:0<s.getD p 0) (h0:∀ v∈os,v.getD p 0=0) (hl:Len n (s::os))
  (hb:∀ v∈s::os,BdM (6*(2 ^ gs b st.length*(2 ^ gs b st.length*2 ^ gs b st.length))) v) (hc:os.length+1≤lf.length):SK n b rs (i+1) (st.map (low1 p s)++[s]) os:=by
 have ls:s.length=n:=hl s (.head _)
 have lo:Len n os:=fun v hv=>hl v (.tail _ hv)
 have za:∀ v∈s::os,∀ j,n - i≤j→j<n→v.getD j 0=0:=fun v hv j h1 h2=>Span.at0 h.llf (he.2 v hv) fun r hr=>h.z r hr j h1 h2
 have hL:Led s p:=⟨hs,fun j hj=>by
  by_cases e:j<n
  ·exact za s (.head _) j (by lia) e
  ·exact at_len ls (by lia)⟩
 have hl':∀ r∈st,∃ k,p<k∧Led r k:=fun r hr=>by
  obtain ⟨k,h1,h2⟩:=h.ld r hr
  exact⟨k,by lia,h2⟩
 have hS:=SF.add h.sf hl' h.lst ls hL
 have hlen:(st.map (low1 p s)++[s]).length=st.length+1:=by rw [List.length_append,List.length_map,List.length_singleton]
 refine⟨hS.1,fun r hr=>?_,fun r hr=>?_,lo,fun v hv j h1 h2=>?_,?_,fun v hv=>?_,fun v hv=>?_,?_,?_⟩
 ·obtain ⟨k,h1,h2⟩:=hS.2 r hr
  exact⟨k,by lia,h2⟩
 ·rcases List.mem_append.mp hr with z|z
  ·obtain ⟨v,hv,rfl⟩:=List.mem_map.mp z
   exact low1_len (h.lst v hv) ls
  ·rw [List.mem_singleton.mp z];exact ls
 ·by_cases e:j=p
  ·rw [e];exact h0 v hv
  ·exact za v (.tail _ hv) j (by lia) h2
 ·exact (h.e.trans he.app).trans (Eqv.add h.lst ls)
 ·rw [hlen]
  exact (hb v (.tail _ hv)).mono (Nat.le_of_lt (gs_step b st.length))
 ·rw [hlen]
  have bS:=(hb s (.head _)).mono (Nat.le_of_lt (gs_step b st.length))
  rcases List.mem_append.mp hv with z|z
  ·obtain ⟨u,hu,rfl⟩:=List.mem_map.mp z
   refine (low1_bd (h.lst u hu) ls (by lia) (h.bs u hu) bS).mono ?_
   have h1:0<(2:Nat) ^ ss b st.length:=Nat.two_pow_pos _
   have h2:0<(2:Nat) ^ gs b (st.length+1):=Nat.two_pow_pos _
   have h3:(2:Nat) ^ ss b st.length≤2 ^ gs b (st.length+1)*2 ^ ss b st.length:=Nat.le_mul_of_pos_left _ h2
   rw [ss,Nat.pow_add,Nat.pow_add,Nat.mul_comm (2 ^ ss b st.length)]
   lia
  ·rw [List.mem_singleton.mp z]
   exact bS.mono (Nat.pow_le_pow_right (by decide) (by rw [ss];lia))
 ·have:=h.c1
  lia
 ·have:=h.c2
  rw [hlen]
  lia
theorem SK.all {n b:Nat} {rs st lf:List (List Int)} (h:SK n b rs n st lf):SF st∧Eqv n rs st:=by
 have z:∀ v∈lf,v=zer n:=fun v hv=>ext_at (h.llf v hv) (zer_len n) fun i hi=>by rw [zer_at];exact h.z v hv i (by lia) hi
 refine⟨h.sf,h.e.trans ⟨fun r hr=>?_,fun r hr=>Span.mem (List.mem_append_left _ hr)⟩⟩
 rcases List.mem_append.mp hr with y|y
 ·exact Span.mem y
 ·rw [z r y];exact Span.zero
theorem SK.room {n b i p R:Nat} {rs st lf us:List (List Int)} (h:SK n b rs i st lf) (hp:p+i+1=n) (hex:∃ v∈lf,v.getD p 0≠0) (lu:Len n us) (hu:∀ r∈rs,Span n us r) (hR:us.length≤R):st.length+1≤R:=by
 obtain ⟨v,hv,h0⟩:=hex
 have lv:=h.llf v hv
 obtain ⟨s,ls,hs,hL⟩:∃ s:List Int,s.length=n∧Span n lf s∧Led s p:=by
  have zv:∀ j,p<j→v.getD j 0=0:=fun j hj=>by
   by_cases e:j<n
   ·exact h.z v hv j (by lia) e
   ·exact at_len lv (by lia)
  rcases (show 0<v.getD p 0∨v.getD p 0<0 by lia) with c|c
  ·exact⟨v,lv,Span.mem hv,c,zv⟩
  ·exact⟨mulv v (-1),mulv_len lv,Span.mul lv (Span.mem hv) _,by rw [mulv_at];lia,fun j hj=>by rw [mulv_at,zv j hj,Int.zero_mul]⟩
 have hl':∀ r∈st,∃ k,p<k∧Led r k:=fun r hr=>by
  obtain ⟨k,h1,h2⟩:=h.ld r hr
  exact⟨k,by lia,h2⟩
 have hS:=SF.add h.sf hl' h.lst ls hL
 have ha:∀ r∈st++lf,Span n us r:=fun r hr=>(h.e.2 r hr).of hu
 have hsu:Span n us s:=hs.of fun r hr=>ha r (List.mem_append_right _ hr)
 have:=Free.le lu hS.1.isFree fun r hr=>by
  rcases List.mem_append.mp hr with z|z
  ·obtain ⟨u,hu',rfl⟩:=List.mem_map.mp z
   exact Span.low (h.lst u hu') ls (ha u (List.mem_append_left _ hu')) hsu _
  ·rw [List.mem_singleton.mp z];exact hsu
 rw [List.length_append,List.length_map,List.length_singleton] at this
 lia
theorem cmb_app {i:Nat}:∀ {cs ds:List Int} {vs us:List (List Int)},cs.length=vs.length→cmb (cs++ds) (vs++us) i=cmb cs vs i+cmb ds us i
 | [],ds,[],us,_=>by simp [cmb]
 | [],_,_::_,_,h=>by simp at h
 | _::_,_,[],_,h=>by simp at h
 | c::cs,ds,v::vs,us,h=>by
  show cmb (c::(cs++ds)) (v::(vs++us)) i=_
  rw [cmb_cons,cmb_cons,cmb_app (by simpa using h)]
  lia
theorem sq_zero {u:List Int} (lu:u.length=5) (h:dt u u=0):u=zer 5:=by
 obtain ⟨a,b,c,d,e,rfl⟩:=five_of lu
 simp [dt] at h
 have nn:∀ x:Int,0≤x*x:=fun x=>(Int.le_total 0 x).elim (fun h=>Int.mul_nonneg h h) fun h=>Int.mul_nonneg_of_nonpos_of_nonpos h h
 have z:∀ x:Int,x*x=0→x=0:=fun x hx=>(Int.mul_eq_zero.mp hx).elim id id
 have key:∀ p q r s t:Int,0≤p→0≤q→0≤r→0≤s→0≤t→p+(q+(r+(s+t)))=0→p=0∧q=0∧r=0∧s=0∧t=0:=by lia
 obtain ⟨h1,h2,h3,h4,h5⟩:=key _ _ _ _ _ (nn a) (nn b) (nn c) (nn d) (nn e) h
 rw [z a h1,z b h2,z c h3,z d h4,z e h5]
 rfl
theorem deaf_len {st D:List (List Int)} (hl:Len 5 st) (lD:Len 5 D) (f:Free st) (g:Free D) (h:∀ x∈D,∀ s∈st,dt x s=0):st.length+D.length≤5:=by
 have:=Free.le (n:=5) (us:=units5) (vs:=st++D) (fun r hr=>by
  simp only [units5,List.mem_cons,List.not_mem_nil,or_false] at hr
  rcases hr with rfl|rfl|rfl|rfl|rfl <;> rfl) (fun cs hc hz=>by
  obtain ⟨as,bs,rfl,la,lb⟩:∃ as bs,cs=as++bs∧as.length=st.length∧bs.length=D.length:=⟨cs.take st.length,cs.drop st.length,(List.take_append_drop _ _).symm,by rw [List.length_take];rw [List.length_append] at hc;lia,by rw [List.length_drop];rw [List.length_append] at hc;lia⟩
  obtain ⟨h1,h2,h3⟩:=cmv_ok (cs:=as) hl
  obtain ⟨k1,k2,k3⟩:=cmv_ok (cs:=bs) lD
  have hneg:∀ i,cmb as st i=-cmb bs D i:=fun i=>by
   have:=hz i
   rw [cmb_app la] at this
   lia
  have hux:∀ x,Span 5 D x→x.length=5→∀ y,Span 5 st y→dt x y=0:=fun x hx lx y hy=>by
   rw [dt_comm]
   refine Span.dt0 lx hl hy fun s hs=>?_
   rw [dt_comm]
   exact Span.dt0 (hl s hs) lD hx fun r hr=>h r hr s hs
  have eu:cmv 5 as st=mulv (cmv 5 bs D) (-1):=ext_at h1 (mulv_len k1) fun i _=>by rw [h3,mulv_at,k3,hneg];lia
  have hz0:dt (cmv 5 bs D) (cmv 5 bs D)=0:=by
   have:=hux _ k2 k1 _ h2
   rw [eu,dt_comm,dt_mul k1 k1] at this
   lia
  have eb:=sq_zero k1 hz0
  have hb0:=g bs lb fun i=>by rw [← k3,eb,zer_at]
  have ha0:=f as la fun i=>by rw [hneg,← k3,eb,zer_at];rfl
  exact fun c hc=>(List.mem_append.mp hc).elim (ha0 c) (hb0 c)) fun v hv=>by
  have lv:v.length=5:=(List.mem_append.mp hv).elim (hl v) (lD v)
  exact (Eqv.perm (by decide:units5.Perm ones5)).symm.span ((Lo.start.all v).mpr ⟨lv,fun _ z=>nomatch z⟩)
 rw [List.length_append] at this
 exact this
theorem LostOf.drop {st st':List (List Int)} {w:List Int} (k:LostOf st w 0 st') (hl:Len 5 st) (lw:w.length=5) (h:∃ r∈st,dt r w≠0):st'.length+1≤st.length:=by
 obtain ⟨g,hg,h0⟩:=h
 refine Free.le (vs:=g::st') hl (fun cs hc hz=>?_) fun v hv=>?_
 ·match cs,hc with
  | c::cs,hc =>
   have hcl:cs.length=st'.length:=by simpa using hc
   obtain ⟨h1,h2,h3⟩:=cmv_ok (cs:=cs) k.len
   have hd0:dt (cmv 5 cs st') w=0:=Int.zero_dvd.mp (k.to _ h2).2
   have ex:cmv 5 cs st'=mulv g (-c):=ext_at h1 (mulv_len (hl g hg)) fun i _=>by
    have:=hz i
    rw [cmb_cons] at this
    rw [h3,mulv_at,Int.mul_neg,Int.mul_comm]
    lia
   rw [ex,dt_mul (hl g hg) lw] at hd0
   have hc0:c=0:=by
    have:=(Int.mul_eq_zero.mp hd0).resolve_left h0
    lia
   have:=k.sf.isFree cs hcl fun i=>by
    have:=hz i
    rw [cmb_cons,hc0,Int.zero_mul,Int.zero_add] at this
    exact this
   exact fun x hx=>(List.mem_cons.mp hx).elim (fun z=>by rw [z,hc0]) (this x)
 ·rcases List.mem_cons.mp hv with z|z
  ·rw [z];exact Span.mem hg
  ·exact (k.to v (Span.mem z)).1
theorem LostOf.le {st st':List (List Int)} {w:List Int} {m:Int} (k:LostOf st w m st') (hl:Len 5 st):st'.length≤st.length:=Free.le hl k.sf.isFree fun v hv=>(k.to v (Span.mem hv)).1
end Mth
namespace L2
open PySem PySem.Spec PyProof.Rows
noncomputable def Fixed (K:PySem.W.Frag) (a:Addr) (xs:List V):Prop:=∀ H,SqT K H a xs
theorem Fixed.at {K:PySem.W.Frag} {a:Addr} {xs:List V} {H:Hp} (h:Fixed K a xs):SqT K H a xs:=h H
theorem Same.lst {H H':Hp} {a:Addr} {xs:List V} (e:Same H H') (h:H a=some (.lst xs)):H' a=some (.lst xs):=e _ _ h
theorem Same.upd_old {H H2:Hp} {l:Addr} {o:HO} (s:Same H H2) (h:H l=none):Same H (upd H2 l o):=fun b u e=>by
 rw [upd_ne (ne_of_none e h)];exact s _ _ e
noncomputable def rBl:V→Hp→(Bool→Hp→Prop)→Prop:=fun x H R=>∃ c,x=.bl c∧R c H
noncomputable def rIn1:V→Hp→(Option Int→Hp→Prop)→Prop:=fun x H R=>∃ i,x=.int i∧R (some i) H
noncomputable def rNewT:List V→Hp→VK→Prop:=fun xs H Q=>xs.length≤sizeLine∧∀ p,H p=none→Q (.ref p) (upd H p (.tup xs))
noncomputable def rNewL:List V→Hp→VK→Prop:=fun xs H Q=>xs.length≤sizeLine∧∀ p,H p=none→Q (.ref p) (upd H p (.lst xs))
noncomputable def rLen (K:PySem.W.Frag):List V→Hp→VK→Prop:=fun xs H Q=>∃ p ys,xs=[.ref p]∧(SqL K H p ys∨SqT K H p ys)∧Q (.int ys.length) H
noncomputable def rTupleOf (K:PySem.W.Frag):List V→Hp→VK→Prop:=fun xs H Q=>∃ p ys,xs=[.ref p]∧((SqL K H p ys∧∀ l,H l=none→Q (.ref l) (upd H l (.tup ys)))∨(SqT K H p ys∧Q (.ref p) H))
noncomputable def rListOf (K:PySem.W.Frag):List V→Hp→VK→Prop:=fun xs H Q=>∃ p ys,xs=[.ref p]∧(SqL K H p ys∨SqT K H p ys)∧∀ l,H l=none→Q (.ref l) (upd H l (.lst ys))
noncomputable def rIsInst (K:PySem.W.Frag):List V→Hp→VK→Prop:=fun xs H Q=>∃ x n t b,xs=[x,.ty n]∧TyR K H x t∧PySem.W.kitOne K t (.type n)=some b∧Q (.bl b) H
noncomputable def rAbs:List V→Hp→VK→Prop:=fun xs H Q=>∃ i,xs=[.int i]∧Q (.int (if i<0 then -i else i)) H
noncomputable def rMax:List V→Hp→VK→Prop:=fun xs H Q=>∃ i j,xs=[.int i,.int j]∧Q (.int (if j > i then j else i)) H
noncomputable def rInt1:List V→Hp→VK→Prop:=fun xs H Q=>(∃ i,xs=[.int i]∧Q (.int i) H)∨∃ k,xs=[.bl k]∧Q (.int (if k then 1 else 0)) H
noncomputable def rItL (K:PySem.W.Frag):V→Hp→(It→Hp→Prop)→Prop:=fun x H R=>∃ a,x=.ref a∧(∃ xs,SqL K H a xs)∧R (Itl K a) H
noncomputable def rItT (K:PySem.W.Frag):V→Hp→(It→Hp→Prop)→Prop:=fun x H R=>∃ a,x=.ref a∧(∃ xs,SqT K H a xs)∧R (Itt K a) H
noncomputable def rItR:List V→Hp→(It→Hp→Prop)→Prop:=fun vs H R=>∃ j:Int,vs=[.int j]∧-(2 ^ 62)≤j∧j<2 ^ 62∧R (Itr 0 j.toNat) H
noncomputable def rItZ (K:PySem.W.Frag) (k1 k2:Bool):List V→Hp→(It→Hp→Prop)→Prop:=fun vs H R=>∃ a b,vs=[.ref a,.ref b]∧(∃ xs,Sq k1 K H a xs)∧(∃ ys,Sq k2 K H b ys)∧R (Itz K k1 k2 a b) H
noncomputable def rTyped (K:PySem.W.Frag) (T:String) (ts:TA) (r:V→List V→Hp→VK→Prop) (σ:St) (Q:VK):V→Hp→Prop:=fun x H1=>tyV K T x H1∧ts σ H1 fun xs H2=>r x xs H2 Q
noncomputable def ForGoal (g:TG) (tb:TS) (D:Ends) (J:It) (σ:St) (H:Hp):Prop:=∃ W:Nat→Nat→St→Hp→Prop,(∃ m,W 0 m σ H)∧∀ i m σ H,W i m σ H →
 (J.stop i H∧D.nx σ H)∨(J.go i H∧∃ N:St→Hp→Prop,(∀ σ' H',N σ' H'→∃ m',m'<m∧W (i+1) m' σ' H')∧∀ x H',J.yld i H x H'→g x σ H' fun σ2 H2=>tb { D with nx:=N,ct:=N,bk:=D.nx } σ2 H2)
section
variable {X:Cx}
theorem callN_len:CallR X (.builtin "len") (rLen X.K):=call_len_seq
theorem callN_tuple:CallR X (.type "tuple") (rTupleOf X.K):=call_tuple_of
theorem callN_list:CallR X (.type "list") (rListOf X.K):=call_list_of
theorem callN_isinst:CallR X (.builtin "isinstance") (rIsInst X.K):=call_isinst
theorem callN_abs:CallR X (.builtin "abs") rAbs:=call_abs
theorem callN_max (hc:X.calm=true):CallR X (.builtin "max") rMax:=call_max2 hc
theorem callN_int:CallR X (.type "int") rInt1:=call_int1
end
section
variable {t u:TS} {D:Ends} {σ:St} {H:Hp} {te ta tb:TE} {g:TG} {tt tu:TT} {Q:VK} {i j:Int} {x y v w:V} {K:PySem.W.Frag}
theorem r_seq (h:t { D with nx:=u D } σ H):tSeq t u D σ H:=h
theorem r_asg (h:te σ H fun x H1=>g x σ H1 D.nx):tAsg te g D σ H:=h
theorem r_gname {n:Nat} {R:St→Hp→Prop} (h:R (σ.set n (some v)) H):gName n v σ H R:=h
theorem r_ret (h:te σ H D.rt):tRet te D σ H:=h
theorem r_drop (h:te σ H fun _ H1=>D.nx σ H1):tDrop te D σ H:=h
theorem r_next (h:D.nx σ H):tNext D σ H:=h
theorem r_ifs {c:TT} (h:c σ H fun b H1=>if b=true then t D σ H1 else u D σ H1):tIfS c t u D σ H:=h
theorem r_var {n:Nat} (e:σ[n]?=some (some v)) (h:Q v H):tVar n σ H Q:=⟨v,e,h⟩
theorem r_c (h:Q v H):tC v σ H Q:=h
theorem r_op {r:R2} (h:ta σ H fun x H1=>tb σ H1 fun y H2=>r x y H2 Q):tOp r ta tb σ H Q:=h
theorem r_un {r:V→Hp→VK→Prop} (h:ta σ H fun x H1=>r x H1 Q):tUn r ta σ H Q:=h
theorem r_b {R:Bool→Hp→Prop} (h:te σ H fun x H1=>rBl x H1 R):tB te σ H R:=h
theorem r_test {R:Bool→Hp→Prop} (h:te σ H fun x H1=>rBl x H1 R):tTest te σ H R:=h
theorem r_isbl {b:Bool} {R:Bool→Hp→Prop} (h:R b H):rBl (.bl b) H R:=⟨b,rfl,h⟩
theorem r_and {R:Bool→Hp→Prop} (h:tt σ H fun c H1=>if c=true then tu σ H1 R else R false H1):tAnd tt tu σ H R:=h
theorem r_or {R:Bool→Hp→Prop} (h:tt σ H fun c H1=>if c=true then R true H1 else tu σ H1 R):tOr tt tu σ H R:=h
theorem r_not {R:Bool→Hp→Prop} (h:tt σ H fun c H1=>R (!c) H1):tNot tt σ H R:=h
theorem r_andV (h:ta σ H fun x H1=>rBl x H1 fun c H2=>if c=true then tb σ H2 Q else Q (.bl false) H2):tAndV ta tb σ H Q:=h
theorem r_notV (h:ta σ H fun x H1=>rBl x H1 fun c H2=>Q (.bl (!c)) H2):tNotV ta σ H Q:=h
theorem r_ife (h:tt σ H fun c H1=>if c=true then ta σ H1 Q else tb σ H1 Q):tIf tt ta tb σ H Q:=h
theorem r_I0 {f:Int→Int→V} (h:Q (f i j) H):rI0 f (.int i) (.int j) H Q:=⟨i,j,rfl,rfl,h⟩
theorem r_I {C:Int→Int→Prop} {f:Int→Int→V} (c:C i j) (h:Q (f i j) H):rI C f (.int i) (.int j) H Q:=⟨i,j,rfl,rfl,c,h⟩
theorem r_U {f:Int→V} (h:Q (f i) H):rU f (.int i) H Q:=⟨i,rfl,h⟩
theorem decI {i j:Int}:decide (V.int i=V.int j)=decide (i=j):=by
 by_cases e:i=j
 ·subst e;simp
 ·rw [decide_eq_false e];exact decide_eq_false fun z=>e (by injection z)
theorem r_eqI (h:Q (.bl (decide (i=j))) H):rEq (.int i) (.int j) H Q:=⟨rfl,by rw [decI];exact h⟩
theorem r_neI (h:Q (.bl (!decide (i=j))) H):rNe (.int i) (.int j) H Q:=⟨rfl,by rw [decI];exact h⟩
theorem r_nil {R:List V→Hp→Prop} (h:R [] H):tNil σ H R:=h
theorem r_cons {ts:TA} {R:List V→Hp→Prop} (h:te σ H fun x H1=>ts σ H1 fun xs H2=>R (x::xs) H2):tCons te ts σ H R:=h
theorem r_tup {ts:TA} (h:ts σ H fun xs H1=>rNewT xs H1 Q):tTup ts σ H Q:=h
theorem r_lst {ts:TA} (h:ts σ H fun xs H1=>rNewL xs H1 Q):tLst ts σ H Q:=h
theorem r_newT {xs:List V} (hl:xs.length≤1000) (h:∀ p H2,Same H H2→H2 p=some (.tup xs)→Q (.ref p) H2):rNewT xs H Q :=
 ⟨Nat.le_of_lt (small1000 hl),fun p hp=>h p _ (Same.upd_new hp) upd_same⟩
theorem r_newL {xs:List V} (hl:xs.length≤1000) (h:∀ p H2,H p=none→Same H H2→H2 p=some (.lst xs)→Q (.ref p) H2):rNewL xs H Q :=
 ⟨Nat.le_of_lt (small1000 hl),fun p hp=>h p _ hp (Same.upd_new hp) upd_same⟩
theorem r_cb {r:List V→Hp→VK→Prop} {ts:TA} (h:ts σ H fun vs H1=>r vs H1 Q):tCB r ts σ H Q:=h
theorem r_comp {ix:List (Option Nat)} {wi:TI} (h:wi σ H fun J H1=>CompGoal ix g tt te σ Q J H1):tComp ix wi g tt te σ H Q:=h
theorem r_sl {r:V→Option Int→Option Int→Hp→VK→Prop} {tl th:TO} (h:te σ H fun x H1=>tl σ H1 fun l H2=>th σ H2 fun u H3=>r x l u H3 Q):tSl r te tl th σ H Q:=h
theorem r_nopart {R:Option Int→Hp→Prop} (h:R none H):tNoPart σ H R:=h
theorem r_part {R:Option Int→Hp→Prop} (h:te σ H fun x H1=>rIn1 x H1 R):tPart te σ H R:=h
theorem r_isint {R:Option Int→Hp→Prop} (h:R (some i) H):rIn1 (.int i) H R:=⟨i,rfl,h⟩
theorem r_bm {T:String} {r:V→List V→Hp→VK→Prop} {ts:TA} (h:te σ H fun x H1=>rTyped K T ts r σ Q x H1):tBM K T r te ts σ H Q:=h
theorem r_for {wi:TI} {tb:TS} (h:wi σ H fun J H1=>ForGoal g tb D J σ H1):tFor wi g tb D σ H:=h
theorem r_ilist {R:It→Hp→Prop} (h:te σ H fun x H1=>rItL K x H1 R):iList K te σ H R:=h
theorem r_itup {R:It→Hp→Prop} (h:te σ H fun x H1=>rItT K x H1 R):iTup K te σ H R:=h
theorem r_irng {ts:TA} {R:It→Hp→Prop} (h:ts σ H fun vs H1=>rItR vs H1 R):iRng1 ts σ H R:=h
theorem r_izip {k1 k2:Bool} {ts:TA} {R:It→Hp→Prop} (h:ts σ H fun vs H1=>rItZ K k1 k2 vs H1 R):iZip2 K k1 k2 ts σ H R:=h
theorem r_isl {a:Addr} {xs:List V} {R:It→Hp→Prop} (e:SqL K H a xs) (h:R (Itl K a) H):rItL K (.ref a) H R:=⟨a,rfl,⟨_,e⟩,h⟩
theorem r_ist {a:Addr} {xs:List V} {R:It→Hp→Prop} (e:SqT K H a xs) (h:R (Itt K a) H):rItT K (.ref a) H R:=⟨a,rfl,⟨_,e⟩,h⟩
theorem r_isr {R:It→Hp→Prop} (h1:-1000000≤j) (h2:j≤1000000) (h:R (Itr 0 j.toNat) H):rItR [.int j] H R:=⟨j,rfl,by lia,by lia,h⟩
theorem r_isz {k1 k2:Bool} {a b:Addr} {xs ys:List V} {R:It→Hp→Prop} (e1:Sq k1 K H a xs) (e2:Sq k2 K H b ys) (h:R (Itz K k1 k2 a b) H):rItZ K k1 k2 [.ref a,.ref b] H R:=⟨a,b,rfl,⟨_,e1⟩,⟨_,e2⟩,h⟩
theorem sqt_sq {a:Addr} {xs:List V} (h:SqT K H a xs):Sq true K H a xs:=h
theorem sql_sq {a:Addr} {xs:List V} (h:SqL K H a xs):Sq false K H a xs:=h
theorem r_ixT {a:Addr} {xs:List V} (e:SqT K H a xs) (n:atI xs i=some v) (h:Q v H):rIx K (.ref a) (.int i) H Q:=.inr (.inl ⟨a,xs,i,v,rfl,rfl,e,n,h⟩)
theorem r_ixL {a:Addr} {xs:List V} (e:SqL K H a xs) (n:atI xs i=some v) (h:Q v H):rIx K (.ref a) (.int i) H Q:=.inl ⟨a,xs,i,v,rfl,rfl,e,n,h⟩
theorem r_lenT {a:Addr} {xs:List V} (e:SqT K H a xs) (h:Q (.int xs.length) H):rLen K [.ref a] H Q:=⟨a,xs,rfl,.inr e,h⟩
theorem r_lenL {a:Addr} {xs:List V} (e:SqL K H a xs) (h:Q (.int xs.length) H):rLen K [.ref a] H Q:=⟨a,xs,rfl,.inl e,h⟩
theorem r_tupleL {a:Addr} {xs:List V} (e:SqL K H a xs) (h:∀ p H2,Same H H2→H2 p=some (.tup xs)→Q (.ref p) H2):rTupleOf K [.ref a] H Q :=
 ⟨a,xs,rfl,.inl ⟨e,fun p hp=>h p _ (Same.upd_new hp) upd_same⟩⟩
theorem r_listL {a:Addr} {xs:List V} (e:SqL K H a xs) (h:∀ p H2,H p=none→Same H H2→H2 p=some (.lst xs)→Q (.ref p) H2):rListOf K [.ref a] H Q:=⟨a,xs,rfl,.inl e,fun p hp=>h p _ hp (Same.upd_new hp) upd_same⟩
theorem r_abs (h:Q (.int (if i<0 then -i else i)) H):rAbs [.int i] H Q:=⟨i,rfl,h⟩
theorem r_max (h:Q (.int (if j > i then j else i)) H):rMax [.int i,.int j] H Q:=⟨i,j,rfl,h⟩
theorem r_int1b {b:Bool} (h:Q (.int (if b then 1 else 0)) H):rInt1 [.bl b] H Q:=.inr ⟨b,rfl,h⟩
theorem r_typed {T:String} {ts:TA} {r:V→List V→Hp→VK→Prop} (e:tyV K T x H) (h:ts σ H fun xs H2=>r x xs H2 Q):rTyped K T ts r σ Q x H:=⟨e,h⟩
theorem r_append {l:Addr} {xs:List V} (e:H l=some (.lst xs)) (n:xs.length≤1000) (h:Q .non (upd H l (.lst (xs++[y])))):rAppend (.ref l) [y] H Q:=⟨l,xs,y,rfl,rfl,e,small1000 n,h⟩
theorem r_cat {a b:Addr} {xs ys:List V} (e1:H a=some (.lst xs)) (e2:H b=some (.lst ys)) (n:xs.length+ys.length≤1000) (h:∀ p H2,H p=none→Same H H2→H2 p=some (.lst (xs++ys))→Q (.ref p) H2):rCat (.ref a) (.ref b) H Q :=
 ⟨a,b,xs,ys,rfl,rfl,e1,e2,Nat.le_of_lt (small1000 n),fun p hp=>h p _ hp (Same.upd_new hp) upd_same⟩
theorem r_catT {a b:Addr} {xs ys:List V} (e1:SqT K H a xs) (e2:SqT K H b ys) (n1:xs≠[]) (n2:ys≠[]) (n:xs.length+ys.length≤1000) (h:∀ p H2,Same H H2→H2 p=some (.tup (xs++ys))→Q (.ref p) H2):rCatT K (.ref a) (.ref b) H Q :=
 ⟨a,b,xs,ys,rfl,rfl,e1,e2,n1,Nat.le_of_lt (small1000 n),fun z=>absurd z n2,fun _ p hp=>h p _ (Same.upd_new hp) upd_same⟩
theorem r_slL {a:Addr} {xs:List V} {lo hi:Option Int} (e:SqL K H a xs) (h:∀ p H2,H p=none→Same H H2→H2 p=some (.lst (cutV xs lo hi))→Q (.ref p) H2):rSlL K (.ref a) lo hi H Q :=
 ⟨a,xs,rfl,e,fun p hp=>h p _ hp (Same.upd_new hp) upd_same⟩
theorem r_isiT {a:Addr} {xs:List V} {n:String} {b:Bool} (e:SqT K H a xs) (k:PySem.W.kitOne K (.type "tuple") (.type n)=some b) (h:Q (.bl b) H):rIsInst K [.ref a,.ty n] H Q:=⟨_,n,_,b,rfl,.inr (.inl ⟨a,xs,rfl,e,rfl⟩),k,h⟩
theorem r_isiL {a:Addr} {xs:List V} {n:String} {b:Bool} (e:SqL K H a xs) (k:PySem.W.kitOne K (.type "list") (.type n)=some b) (h:Q (.bl b) H):rIsInst K [.ref a,.ty n] H Q:=⟨_,n,_,b,rfl,.inr (.inr ⟨a,xs,rfl,e,rfl⟩),k,h⟩
theorem r_isiI {n:String} {b:Bool} (k:PySem.W.kitOne K (.type "int") (.type n)=some b) (h:Q (.bl b) H):rIsInst K [.int i,.ty n] H Q:=⟨_,n,_,b,rfl,.inl (.int _),k,h⟩
end
theorem if_tt {c:Bool} {A B:Prop} (e:c=true) (h:A):if c=true then A else B:=by rw [if_pos e];exact h
theorem if_ff {c:Bool} {A B:Prop} (e:c=false) (h:B):if c=true then A else B:=by rw [e];exact iteF h
theorem if_both {c:Bool} {A B:Prop} (h1:c=true→A) (h2:c=false→B):if c=true then A else B:=by
 cases c with
 | true=>exact iteT (h1 rfl)
 | false=>exact iteF (h2 rfl)
end L2
namespace L2
open PySem PySem.Spec PyProof.Rows
section
variable {t u:TS} {D:Ends} {σ:St} {H:Hp} {te ta tb:TE} {g:TG} {tt tu:TT} {Q:VK} {i j:Int} {x y v w:V} {K:PySem.W.Frag} {X:Cx}
theorem r_call0 {sp:Sp} {E:XK} {ts:TA} (h:ts σ H fun vs H1=>sp vs H1 Q E):tCall sp [] E ts σ H Q:=by
 unfold tCall
 simp only [List.append_nil]
 exact h
noncomputable def WGo (tb:TS) (D:Ends) (W:Nat→St→Hp→Prop) (m:Nat) (σ:St) (H1:Hp):Prop:=∃ N:St→Hp→Prop,(∀ σ' H',N σ' H'→∃ m',m'<m∧W m' σ' H')∧tb { D with nx:=N,ct:=N,bk:=D.nx } σ H1
theorem f_while {c:TT} {tb:TS} (W:Nat→St→Hp→Prop) (m:Nat) (h0:W m σ H) (hs:∀ m σ H,W m σ H→c σ H fun b H1=>if b=true then WGo tb D W m σ H1 else D.nx σ H1):tWhile c tb D σ H:=⟨W,⟨m,h0⟩,hs⟩
theorem w_go {tb:TS} {W:Nat→St→Hp→Prop} {m:Nat} (h:tb { D with nx:=fun σ' H'=>∃ m',m'<m∧W m' σ' H',ct:=fun σ' H'=>∃ m',m'<m∧W m' σ' H',bk:=D.nx } σ H):WGo tb D W m σ H:=⟨_,fun _ _ z=>z,h⟩
theorem f_tupE {a:Addr} {xs:List V} {tb:TS} (ha:SqT K H a xs) (Pv:Nat→St→Prop) (h0:Pv 0 σ) (hs:∀ i x σ,xs[i]?=some x→Pv i σ→g x σ H fun σ2 H4=>tb { D with nx:=fun σ' H'=>Pv (i+1) σ'∧H'=H,ct:=fun σ' H'=>Pv (i+1) σ'∧H'=H,bk:=D.nx } σ2 H4)
  (hd:∀ σ,Pv xs.length σ→D.nx σ H):ForGoal g tb D (Itt K a) σ H:=by
 refine for_tup (xs:=xs) (fun i σ2 H2=>Pv i σ2∧H2=H) ⟨h0,rfl⟩ (fun i σ2 H2 _ p=>?_) (fun i x σ2 H2 hi p=>?_) (fun σ2 H2 p=>?_)
 ·obtain ⟨p,rfl⟩:=p
  exact ha
 ·obtain ⟨p,rfl⟩:=p
  exact hs i x σ2 hi p
 ·obtain ⟨p,rfl⟩:=p
  exact hd σ2 p
end
end L2
namespace L2
open PySem PySem.Spec PyProof.Rows
section
variable {X:Cx} (K:PySem.W.Frag) (hK:X.K=K)
include hK
theorem kN_len:CallR X (.builtin "len") (rLen K):=hK ▸ callN_len
theorem kN_tuple:CallR X (.type "tuple") (rTupleOf K):=hK ▸ callN_tuple
theorem kN_list:CallR X (.type "list") (rListOf K):=hK ▸ callN_list
theorem kN_isinst:CallR X (.builtin "isinstance") (rIsInst K):=hK ▸ callN_isinst
theorem kx_seq:IxR X (rIx K):=hK ▸ ix_seq
theorem ksl_list:SlR X (rSlL K):=hK ▸ sl_list
theorem kop_catT:OpR X (binaryOp .Add) (rCatT K):=hK ▸ op_catT
theorem kop_in:OpR X (compareOp .In) (rIn K false):=hK ▸ op_in_seq
theorem kpi_list {tg l:Expr} {tl:TE} (hl:PE X l tl):PI X tg l (iList K tl):=hK ▸ pi_list hl
theorem kpi_tup {tg l:Expr} {tl:TE} (hl:PE X l tl):PI X tg l (iTup K tl):=hK ▸ pi_tup hl
theorem kpi_zip2 (k1 k2:Bool) {es:List Expr} {kk:Nat} {tpos:Pos} {a b:Expr} {ta:TA} {p pos:Pos} (hg:Gl X "zip") (hm:X.mg "zip"=none) (ha:PA X [a,b] ta) (hs:starEach [a,b] X.env=[(false,eval a X.env),(false,eval b X.env)]:=by rfl) (hs2:starEach [b] X.env=[(false,eval b X.env)]:=by rfl) :
  PI X (.Tuple es kk tpos) (.Call (.Name "zip" p) [a,b] [] pos) (iZip2 K k1 k2 ta):=hK ▸ pi_zip2 k1 k2 hg hm ha hs hs2
theorem kpg_tup {es:List Expr} {k:Nat} {t:TGs} {n:Nat} {pos:Pos} (hc:X.calm=true) (h:PGs X es t)
  (hn:(assignEach es X.env).length=n:=by rfl) (hst:(assignEach es X.env).findIdx? (·.1)=none:=by rfl):PG X (.Tuple es k pos) (gTup K n t):=hK ▸ pg_tup hc h hn hst
end
end L2
namespace Mth
theorem bits_bl (x:Int):L2.bitsI x=bl x:=rfl
end Mth
namespace L2
open PySem PySem.Spec PyProof.Rows
section
variable {H:Hp} {Q:VK} {K:PySem.W.Frag}
theorem cut_tail (x:V) (xs:List V):cutV (x::xs) (some 1) none=xs:=by
 have e:HT.sIx (x::xs).length 0 (some 1)=1:=by
  have h:=HT.sIx_nat (x::xs).length 0 1
  simp only [List.length_cons] at h ⊢
  have h2:min 1 (xs.length+1)=1:=by lia
  rw [h2] at h
  exact h
 unfold cutV
 rw [e,HT.sIx_none]
 simp
theorem r_slL1 {a:Addr} {x:V} {xs:List V} (e:SqL K H a (x::xs)) (h:∀ p H2,H p=none→Same H H2→H2 p=some (.lst xs)→Q (.ref p) H2):rSlL K (.ref a) (some 1) none H Q :=
 r_slL e fun p H2 n s m=>h p H2 n s (by rw [cut_tail] at m;exact m)
end
end L2
namespace L2
open PySem PySem.Spec PyProof.Rows
noncomputable def rm (H:Hp) (l:Addr):Hp:=fun b=>if b=l then none else H b
theorem rm_at {H:Hp} {l:Addr}:rm H l l=none:=by unfold rm;rw [if_pos rfl]
theorem rm_ne {H:Hp} {l b:Addr} (h:b≠l):rm H l b=H b:=by unfold rm;rw [if_neg h]
theorem rm_same {H:Hp} {l:Addr}:Same (rm H l) H:=fun b o e=>by
 by_cases h:b=l
 ·subst h;rw [rm_at] at e;cases e
 ·rw [rm_ne h] at e;exact e
theorem rm_sqT {K:PySem.W.Frag} {H:Hp} {l a:Addr} {xs ys:List V} (h:SqT K H a xs) (hl:H l=some (.lst ys)):SqT K (rm H l) a xs:=by
 have ne:∀ {o},H a=some o→(∀ zs,o≠.lst zs)→a≠l:=fun {o} e n z=>by subst z;rw [hl] at e;exact n _ (Option.some.inj e).symm
 rcases h with (h|⟨o,h⟩)|h
 ·exact .inl (.inl (by rw [rm_ne (ne h fun _ z=>nomatch z)];exact h))
 ·exact .inl (.inr ⟨o,by rw [rm_ne (ne h fun _ z=>nomatch z)];exact h⟩)
 ·exact .inr h
end L2
namespace L2
open PySem PySem.Spec PyProof.Rows PySem.W
section
variable {M:Model} {A:Around} {E:Value→Shared→Prop} {s:Shared}
noncomputable def HeadOk (h:Heap) (e:Addr) (vs:Array Value):Option Addr→Prop
 | none=>vs[1]?=some .none
 | some T=>vs[1]?=some (.ref T)∧T≠e∧∃ oT ts,h.get? T=some oT∧oT.data=.fields ts∧ts[3]?=some .none
end
end L2
namespace L2
open PySem PySem.Spec PyProof.Rows PySem.W
noncomputable def Exc (h:Heap) (H:Hp) (h0:Heap) (ps:List (Addr×Obj)) (a C:Addr):Prop:=∃ oe vs T0,h.get? a=some oe∧oe.cls=.ref C∧oe.dict=none∧oe.data=.fields vs∧1<vs.size∧HeadOk h a vs T0∧H a=none∧(h0.get? a=none∧∀ p∈ps,p.1≠a) ∧
 ∀ T,T0=some T→H T=none∧h0.get? T=none∧∀ p∈ps,p.1≠T
noncomputable abbrev EXT:=Addr→St→Hp→Prop
noncomputable def XW (X:Cx) (EX:EXT):Value→Shared→Prop:=fun e s'=>∃ a C σ' H',e=.ref a∧Inv X.nox [] σ' H' s'∧Exc s'.heap H' X.s₀.heap X.pn a C∧EX C σ' H'
end L2
namespace L2
open PySem PySem.Spec PyProof.Rows PySem.W
section
variable {X:Cx} {pins:List (Addr×Obj)} {σ:List (Option V)} {H H':Hp} {s:Shared} {h':Heap}
theorem Inv.step2 {t':Nat} {ch:List Addr} (I:Inv X pins σ H s)
  (hch:∀ b∈ch,X.s₀.heap.get? b=none∧b≠X.env.locals∧(∀ x c,X.env.cells.lookup x=some c→c≠b)∧∀ p∈X.pn++pins,p.1≠b)
  (keep:∀ b o,b≠X.env.locals→b∉X.fs→b∉ch→s.heap.get? b=some o→H b=none→h'.get? b=some o)
  (slot:∀ b o,b≠X.env.locals→b∈X.fs→b∉ch→s.heap.get? b=some o→H b=none→∃ sl,h'.get? b=some { o with slots:=sl }) (free:∀ b o,b∉ch→s.heap.get? b=some o→H b=none→H' b=none)
  (there:∀ b o,b∉ch→s.heap.get? b=some o→∃ o',h'.get? b=some o')
  (tups:∀ b xs,H b=some (.tup xs)→H' b=some (.tup xs)) (frzs:∀ b o u,H b=some (.frz o u)→H' b=some (.frz o u)) (tbls:∀ b ps,H b=some (.tbl ps)→∃ more,H' b=some (.tbl (ps++more)))
  (ns:∀ m,s.heap.Ns X.env.locals m→h'.Ns X.env.locals m) (hok:HOk X.prog X.w H' h') :
  Inv X pins σ H' { s with heap:=h',toks:=t' }:=by
 have neL:∀ b o,X.s₀.heap.get? b=some o→b≠X.env.locals:=fun b o e=>Nat.ne_of_lt (Nat.lt_of_lt_of_le (Heap.lt_size e) I.ok.above)
 have neC:∀ b o,X.s₀.heap.get? b=some o→b∉ch:=fun b o e hb=>by rw [(hch b hb).1] at e;cases e
 have cellK:∀ x c,X.env.cells.lookup x=some c→∀ v,s.heap.IsCell c v→h'.IsCell c v:=fun x c e v ⟨o,ho,hd⟩=>by
  have nch:c∉ch:=fun z=>(hch c z).2.2.1 x c e rfl
  by_cases hc:c∈X.fs
  ·obtain ⟨sl,q⟩:=slot c o (I.cne x c e) hc nch ho (I.freeC x c e)
   exact⟨_,q,hd⟩
  ·exact⟨o,keep c o (I.cne x c e) hc nch ho (I.freeC x c e),hd⟩
 refine⟨I.ok,I.os,I.bare,⟨fun b o e n hb hx=>?_,fun b o e n hb hx=>?_,fun b o e n hx=>?_,fun b o e hx=>?_,fun b xs e=>tups b xs (I.base.tups b xs e),fun b o xs e=>frzs b o xs (I.base.frzs b o xs e),fun b ps e=>?_⟩,?_,fun x c e=>?_,?_,fun x c e=>?_,fun p hp=>?_,hok,I.len⟩
 ·exact keep b o (neL b o e) hb (neC b o e) (I.base.keep b o e n hb hx) (I.base.free b o e n hx)
 ·obtain ⟨sl,e1⟩:=I.base.slot b o e n hb hx
  obtain ⟨sl',e2⟩:=slot b _ (neL b o e) hb (neC b o e) e1 (I.base.free b o e n hx)
  exact⟨sl',e2⟩
 ·obtain ⟨o',e1⟩:=I.base.there b o e hx
  exact free b o' (neC b o e) e1 (I.base.free b o e n hx)
 ·obtain ⟨o',e1⟩:=I.base.there b o e hx
  exact there b o' (neC b o e) e1
 ·obtain ⟨m1,e1⟩:=I.base.tbls b ps e
  obtain ⟨m2,e2⟩:=tbls b _ e1
  exact⟨m1++m2,by rw [e2,Array.append_assoc]⟩
 ·obtain ⟨m,hn,hl⟩:=I.loc
  refine⟨m,ns m hn,fun i x v e1 e2 e3=>?_⟩
  obtain ⟨u,r,l⟩:=hl i x v e1 e2 e3
  refine⟨u,r,?_⟩
  rcases l with l|⟨k,c,e,z⟩
  ·exact .inl l
  ·exact .inr ⟨k,c,e,cellK x c e _ z⟩
 ·obtain ⟨v,z⟩:=I.cell x c e
  exact⟨v,cellK x c e v z⟩
 ·obtain ⟨m,⟨o,_,_,ho,_⟩,_⟩:=I.loc
  exact free _ o (fun z=>(hch _ z).2.1 rfl) ho I.free
 ·obtain ⟨v,o,ho,hd⟩:=I.cell x c e
  exact free c o (fun z=>(hch c z).2.2.1 x c e rfl) ho (I.freeC x c e)
 ·obtain ⟨e,n,ne,nf,d⟩:=I.pin p hp
  have nch:p.1∉ch:=fun z=>(hch p.1 z).2.2.2 p hp rfl
  exact⟨keep p.1 p.2 ne nf nch e n,free p.1 p.2 nch e n,ne,nf,d⟩
end
end L2
namespace L2
open PySem PySem.Spec PyProof.Rows
section
variable {X:Cx}
theorem ps_setC {y:Str} {py spos:Pos} {k:Nat} {tg iter elt:Expr} {ifs:List Expr} {scope:Scope} {pos:Pos} {N:List Str} {ix:List (Option Nat)} {wi:TI} {g:TG} {tt:TT} {te:TE}
  (hN:X.N.Nodup) (hk0:X.N[k]?=some y) (hy:Loc X.env.scope y) (hc:X.calm=true) (hi:PI X tg iter wi)
  (hg:∀ pins C s H fp,PG (compCx X pins N scope C s H fp) tg g)
  (ht:∀ pins C s H fp,PTs (compCx X pins N scope C s H fp) ifs tt)
  (he:∀ pins C s H fp,PE (compCx X pins N scope C s H fp) elt te)
  (hk:scope.kind=.function) (hcell:∀ y∈scope.names,y.2≠.cell) (hnames:∀ y∈scope.names,y.2=.local→scope.names.lookup y.1=some .local)
  (hfr0:(scope.names.all fun y=>!(y.2 == NameKind.free) || (X.env.cells.lookup y.1).isSome)=true) (hix:IxOk X scope N ix)
  (hs:∀ x,foldedSetIterable iter X.env x=pure x:=by intro _;rfl)
  (hsw:swapsWith (.ListComp elt [⟨tg,iter,ifs,0⟩] scope pos) (some (.Name y py)) spos.line X.env=pure true:=by rfl)
  (hf:X.fn y=true∨X.env.scope.names.lookup y=some .local:=by first|exact .inl rfl|exact .inr rfl|assumption) :
  PS X (.Assign [.Name y py] (.ListComp elt [⟨tg,iter,ifs,0⟩] scope pos) spos) (tAsg (tComp ix wi g tt te) (gName k)):=by
 intro pins s σ H D I h
 replace h:wi σ H fun J H1=>CompGoal ix g tt te σ (fun x H1=>D.nx (σ.set k (some x)) H1) J H1:=h
 have hfr:∀ y∈scope.names,y.2=.free→(X.env.cells.lookup y.1).isSome=true:=fun y hy e=>by
  have z:=List.all_eq_true.mp hfr0 y hy
  rw [e] at z
  simpa using z
 have hfr':∀ p∈scope.names,p.2=.free→∃ c,X.env.cells.lookup p.1=some c:=fun p hp e=>Option.isSome_iff_exists.mp (hfr p hp e)
 have clsub:∀ x c,(clOf X.env.cells scope.names []).lookup x=some c→X.env.cells.lookup x=some c:=clOf_sub (fun x c q=>by simp at q)
 have clhas:∀ x,scope.names.lookup x=some .free→∃ c,(clOf X.env.cells scope.names []).lookup x=some c:=fun x hx=>by
  have hm:=PySem.mem_of_lookup hx
  exact Option.isSome_iff_exists.mp (clOf_has (.inr ⟨hm,hfr _ hm rfl⟩))
 rw [exec_Assign_Name_used _ _ _ _ hsw]
 refine wpAny_bind (wpAny_standAt (wpAny_bind ?_))
 show wpAny _ X.A (do let _ ← comprehension (.ListComp elt [⟨tg,iter,ifs,0⟩] scope pos) scope X.env _ (newList []) false (eval iter X.env) (some (assign (.Name y py) X.env))) _ _ s
 refine wpAny_bind (wpAny_mono (wpAny_comprehension_free (use:=some (assign (.Name y py) X.env)) (Q:=fun _ s'=>SP X pins D .next s') rfl hs (closure_eq hfr') hk hnames (thn (hi pins s σ H _ I h) fun v s1 h1=>thn h1 fun itv s2 h2=>?_)) (fun _ s' hq=>wpAny_pure (wpAny_pure hq)) fun _ _ e=>e)
 obtain ⟨it,fp,tn,J,H2,e,I2,T,st2,f2,hW⟩:=h2
 subst e
 have hfree2:H2 s2.heap.objs.size=none:=I2.hok.fresh (Nat.le_refl _)
 obtain ⟨W,⟨m0,w0⟩,turn⟩:=hW s2.heap.objs.size hfree2
 refine wpAny_newObj_type ?_
 have I3:Inv X pins σ (upd H2 s2.heap.objs.size (.lst [])) { s2 with heap:=s2.heap.push { cls:=.type "list",data:=.seq ([]:List Value).toArray } }:=I2.lnew (its:=[]) (t':=s2.toks) .nil (Nat.zero_le _)
 have f3:∀ b∈fp,FpOk X pins (upd H2 s2.heap.objs.size (.lst [])) b:=fun b hb=>by
  refine⟨?_,(f2 b hb).2⟩
  obtain ⟨o,eo,_⟩:=T.obj _ _ st2 b hb
  rw [upd_ne (Nat.ne_of_lt (Heap.lt_size eo))]
  exact (f2 b hb).1
 have st3:tn 0 (s2.heap.push { cls:=.type "list",data:=.seq ([]:List Value).toArray }):=T.keep _ _ _ st2 fun b _ o e=>Heap.get?_push_of_some _ e
 generalize hs3:({ s2 with heap:=s2.heap.push { cls:=.type "list",data:=.seq ([]:List Value).toArray } }:Shared)=s3 at I3
 have st3:tn 0 s3.heap:=by rw [← hs3];exact st3
 generalize hH3:upd H2 s2.heap.objs.size (.lst [])=H3 at I3 f3 w0
 generalize hacc:s2.heap.objs.size=acc at *
 refine wpAny_newFunctionEnv hcell (by intro y hy;simp at hy) (fun h₁ hns₁ hsb₁=>?_) hk
 have old:∀ b o,s3.heap.get? b=some o→h₁.get? b=some o:=fun b o q=>hsb₁.extBut b o (Nat.ne_of_lt (Heap.lt_size q)) (Heap.get?_push_of_some _ q)
 have hCfree:H3 s3.heap.objs.size=none:=I3.hok.fresh (Nat.le_refl _)
 have fpl:∀ b∈fp,b<s3.heap.objs.size:=fun b hb=>by
  obtain ⟨o,eo,_⟩:=T.obj _ _ st3 b hb
  exact Heap.lt_size eo
 have nstk:∀ b,b≠X.env.locals→b∉X.fs→b∉frs X.stack:=fun b h1 h2 z=>by
  rcases List.mem_cons.mp (I3.stkSub b z) with q|q
  ·exact h1 q
  ·exact h2 q
 have clt:∀ x c,X.env.cells.lookup x=some c→c<s3.heap.objs.size:=fun x c q=>by
  obtain ⟨v,z⟩:=I3.cell x c q
  exact z.lt
 have YI:∀ (h':Heap) (m:Str→Option Value),(∀ b o,s3.heap.get? b=some o→h'.get? b=some o)→h'.Ns s3.heap.objs.size m →
   Inv (compCx X pins N scope s3.heap.objs.size s3 H3 fp) [] (pick ix σ) H3 { s3 with heap:=h',toks:=s3.toks+([]:List (Str×Value)).length }:=by
  intro h' m hk' hn
  refine⟨⟨I3.ok.mod,hk,I3.ok.glob,I3.ok.blt,Nat.le_refl _,fun x y c q1 q2=>I3.ok.inj x y c (clsub x c q1) (clsub y c q2),fun x hx=>clhas x (relabel_not_local hcell hx),fun x c hf _=>absurd hf Bool.false_ne_true,
   I3.ok.hd,I3.ok.frames,.inl rfl,fun b hb=>⟨Nat.ne_of_lt (fpl b hb),fun x c q=>(f3 b hb).2.2.2.2.1 x c (clsub x c q)⟩,I3.bs,Nat.le_trans I3.ok.bsz I3.sz,fun b o e hb=>?_,fun b hb=>nstk b (f3 b hb).2.1 (f3 b hb).2.2.1,I3.stack,I3.stkFree⟩,
   rfl,I3.bare,Un.kept hk',⟨m,hn,fun i x v h1 h2 h3=>?_⟩,fun x c q=>?_,hCfree,fun x c q=>I3.freeC x c (clsub x c q),fun p hp=>?_,I3.hok.kept hk',?_⟩
  ·have q:=(I3.bs b o e).2
   rcases (f3 b hb).2.2.2.1 with z|z
   ·exact I3.ok.noex b o e z
   ·exact absurd (Nat.lt_of_lt_of_le (Heap.lt_size e) (Nat.le_trans I3.ok.bsz z)) (Nat.lt_irrefl _)
  ·obtain ⟨j,e1,e2⟩:=pick_get h2
   obtain ⟨a1,a2,a3,a4⟩:=hix.get h1 e1
   obtain ⟨mX,hnX,hlX⟩:=I3.loc
   obtain ⟨u,ru,l⟩:=hlX j x v a1 e2 a2
   refine⟨u,ru,?_⟩
   rcases l with ⟨l1,_⟩|⟨_,c,lc,z⟩
   ·have l1':X.env.scope.names.lookup x=some .local:=l1
    rw [l1'] at a3
    exact absurd a3 (by decide)
   ·obtain ⟨c',hc'⟩:=clhas x a4
    have ec:=clsub x c' hc'
    rw [lc] at ec
    have ec':c=c':=Option.some.inj ec
    subst ec'
    exact .inr ⟨relabel_free a4,c,hc',z.keeps hk'⟩
  ·obtain ⟨v,z⟩:=I3.cell x c (clsub x c q)
   exact⟨v,z.keeps hk'⟩
  ·have hp':p∈X.pn++pins:=by simpa using hp
   obtain ⟨a1,a2,a3,a4,a5⟩:=I3.pin p hp'
   exact⟨hk' _ _ a1,a2,Nat.ne_of_lt (Heap.lt_size a1),nstk p.1 a3 a4,a5⟩
  ·show (pick ix σ).length=N.length
   unfold pick
   rw [List.length_map]
   exact hix.len
 have fpY:∀ {pl:List (Addr×Obj)} {H':Hp},pl=[]→(∀ b∈fp,H' b=none)→∀ b∈fp,FpOk (compCx X pins N scope s3.heap.objs.size s3 H3 fp) pl H' b:=fun {pl H'} epl hn b hb=>by
  obtain ⟨f0,f1,f2',f3',f4,f5⟩:=f3 b hb
  subst epl
  exact⟨hn b hb,Nat.ne_of_lt (fpl b hb),nstk b f1 f2',.inl hb,fun x c q=>f4 x c (clsub x c q),fun p hp=>f5 p (by simpa using hp)⟩
 have loop:∀ s4:Shared,(∃ m,s4={ s3 with heap:=h₁,toks:=s3.toks+([]:List (Str×Value)).length }∧h₁.Ns s3.heap.objs.size m) →
   codeAny (model X.prog X.w) X.A (.compLoop (.ListComp elt [⟨tg,iter,ifs,0⟩] scope pos) 0 (.ref it) (.ref acc) (compEnvC scope (clOf X.env.cells scope.names []) s3.heap.objs.size X.env))
    (compPost (model X.prog X.w) X.A X.xe (some (assign (.Name y py) X.env)) (fun _ s'=>SP X pins D .next s') (.ref acc) s3.heap.objs.size) s4:=by
  rintro s4 ⟨m4,rfl,hn4⟩
  refine comp_loop (E:=fun _ _=>False) (fun _ _ z=>z.elim)
   (fun n s'=>∃ i σ' ys H',Inv (compCx X pins N scope s3.heap.objs.size s3 H3 fp) [] σ' H' s'∧tn i s'.heap∧(∀ b∈fp,H' b=none)∧W i n σ' ys H') ?_ m0
   ⟨0,pick ix σ,[],H3,YI h₁ m4 old hn4,T.keep _ _ _ st3 fun b _ o q=>old b o q,fun b hb=>(f3 b hb).1,w0⟩
  rintro n s5 ⟨i,σ5,ys,H5,I5,st5,fr5,w5⟩
  obtain ⟨hl5,hstep⟩:=turn i n σ5 ys H5 w5
  rcases hstep with ⟨stop,q⟩|⟨go,m',hm',step⟩
  ·refine thn (T.done (compCx X pins N scope s3.heap.objs.size s3 H3 fp) rfl rfl rfl hc i [] s5 σ5 H5 (fun _ _=>False) I5 (fpY rfl fr5) st5 stop) fun r s6 ⟨hr,I6⟩=>?_
   subst hr
   obtain ⟨m6,hn6,_⟩:=I6.loc
   have I6X:Inv X pins σ H5 s6:=I3.call' (ch:=fp) I6.os I6.base I6.hok I6.bare fun b hb=>by
    obtain ⟨f0,f1,f2',f3',f4,f5⟩:=f3 b hb
    exact⟨f3',f1,f4,f5⟩
   have neL:X.env.locals≠s3.heap.objs.size:=fun z=>by
    obtain ⟨m,⟨o,_,_,ho,_⟩,_⟩:=I3.loc
    exact Nat.lt_irrefl _ (z ▸ Heap.lt_size ho)
   have neCl:∀ x c,X.env.cells.lookup x=some c→c≠s3.heap.objs.size:=fun x c e=>Nat.ne_of_lt (clt x c e)
   refine wpAny_assign_Name (store_ok2 (u:=.ref acc) (v:=.ref acc) I6X hN hk0 hy rfl (fun s7 I7 ⟨a7,sb7,ha7⟩=>?_) hf)
   have na7:s3.heap.objs.size≠a7:=by
    rcases ha7 with z|z
    ·exact fun w=>neL (z ▸ w.symm)
    ·exact fun w=>neCl _ _ z w.symm
   refine⟨m6,hn6.sameBut sb7 na7,fun h' sb=>?_⟩
   refine⟨σ.set k (some (.ref acc)),H5,Inv.step2 (ch:=[s3.heap.objs.size]) I7 (fun b hb=>?_) (fun b o _ _ nb e _=>(sb.2 b (fun z=>nb (by rw [z];exact List.mem_singleton.mpr rfl))).trans e) (fun b o _ _ nb e _=>⟨o.slots,(sb.2 b (fun z=>nb (by rw [z];exact List.mem_singleton.mpr rfl))).trans e⟩)
    (fun _ _ _ _ e=>e) (fun b o nb e=>⟨o,(sb.2 b (fun z=>nb (by rw [z];exact List.mem_singleton.mpr rfl))).trans e⟩) (fun _ _ e=>e) (fun _ _ _ e=>e) (fun b ps e=>⟨#[],by simpa using e⟩) (fun m hm=>hm.sameBut sb neL) (I7.hok.letGo I6.free sb),q⟩
   have eb:b=s3.heap.objs.size:=List.mem_singleton.mp hb
   subst eb
   refine⟨?_,Ne.symm neL,neCl,fun p hp=>Nat.ne_of_lt (Heap.lt_size (I3.pin p hp).1)⟩
   cases q9:X.s₀.heap.get? s3.heap.objs.size with
   | none=>rfl
   | some o=>exact absurd (Nat.lt_of_lt_of_le (Heap.lt_size q9) I3.sz) (Nat.lt_irrefl _)
  ·refine thn (T.item (compCx X pins N scope s3.heap.objs.size s3 H3 fp) rfl rfl rfl hc i [] s5 σ5 H5 (fun _ _=>False) I5 (fpY rfl fr5) st5 go) fun r s6 ⟨u,hr,h6⟩=>?_
   subst hr
   refine thn h6 fun _ s7 ⟨x,H7,I7,r7,y7,st7,fr7⟩=>?_
   have I7':=I7.pinned (fpY rfl fr7) (T.obj _ _ st7)
   refine thn (hg pins s3.heap.objs.size s3 H3 fp _ s7 σ5 H7 x u _ I7' r7 (step x H7 y7)) fun _ s8 ⟨σ8,H8,I8,q8⟩=>?_
   refine thn (wp_tests (ht pins s3.heap.objs.size s3 H3 fp) I8 q8) fun b s9 ⟨H9,I9,q9⟩=>?_
   have back:∀ {σz:St} {Hz:Hp} {sz:Shared} {yz:List V},Inv (compCx X pins N scope s3.heap.objs.size s3 H3 fp) ([]++pinsAt fp s7.heap) σz Hz sz→W (i+1) m' σz yz Hz →
     ∃ m,m<n∧∃ i σ' ys H',Inv (compCx X pins N scope s3.heap.objs.size s3 H3 fp) [] σ' H' sz∧tn i sz.heap∧(∀ b∈fp,H' b=none)∧W i m σ' ys H':=fun {σz Hz sz yz} Iz wz=>by
    refine⟨m',hm',i+1,σz,yz,Hz,Iz.unpinned,T.keep _ _ _ st7 fun b hb o e=>(Iz.pin (b,o) (List.mem_append_right _ (List.mem_append_right _ (mem_pinsAt hb e)))).1,fun b hb=>?_,wz⟩
    obtain ⟨o,e,d⟩:=T.obj _ _ st7 b hb
    exact (Iz.pin (b,o) (List.mem_append_right _ (List.mem_append_right _ (mem_pinsAt hb e)))).2.1
   cases b with
   | false=>exact back I9 q9
   | true =>
    refine thn (he pins s3.heap.objs.size s3 H3 fp _ s9 σ8 H9 _ I9 q9) fun v s10 ⟨y,H10,I10,r10,hl10,hz10,w10⟩=>?_
    refine thn (mt_append _ s10 σ8 H10 (.ref acc) [y] (.ref acc) [v] (fun _ H'=>H'=upd H10 acc (.lst (ys++[y]))) I10 rfl (.cons r10 .nil) ⟨acc,ys,y,rfl,rfl,hl10,hz10,rfl⟩) fun _ s11 ⟨_,H11,I11,_,e11⟩=>?_
    subst e11
    exact back I11 w10
 have hn4:∃ m,h₁.Ns s3.heap.objs.size m:=⟨_,hns₁⟩
 obtain ⟨m4,hn4⟩:=hn4
 have L:=loop _ ⟨m4,rfl,hn4⟩
 exact codeAny_compStart_list L (T.self _ 0 _ _ _ (T.keep _ _ _ st3 fun b _ o q=>old b o q) L)
end
end L2
namespace L2
open PySem PySem.Spec PyProof.Rows
section
variable {K:PySem.W.Frag} {H:Hp} {Q:VK} {D:Ends} {σ:St}
theorem r_inL {x:V} {p:Addr} {xs:List V} (e:SqL K H p xs) (fx:flatV x=true) (fs:xs.all flatV=true) (h:Q (.bl (inV x xs)) H):rIn K false x (.ref p) H Q:=⟨p,xs,rfl,.inl e,fx,fs,h⟩
theorem join {t:TS} {u:St→Hp→Prop} (P:St→Hp→Prop) (h1:∀ nx:St→Hp→Prop,(∀ σ' H',P σ' H'→nx σ' H')→t { D with nx:=nx } σ H) (h2:∀ σ' H',P σ' H'→u σ' H'):t { D with nx:=u } σ H:=h1 u h2
theorem joinE {t:TE} (P:V→Hp→Prop) (h1:∀ Q':VK,(∀ v H',P v H'→Q' v H')→t σ H Q') (h2:∀ v H',P v H'→Q v H'):t σ H Q:=h1 Q h2
end
end L2
namespace L2
open PySem PySem.Spec PyProof.Rows
noncomputable def rAll (K:PySem.W.Frag):List V→Hp→VK→Prop:=fun xs H Q=>∃ (a:Addr) (bs:List Bool),xs=[.ref a]∧SqL K H a (bs.map V.bl)∧Q (.bl (bs.all id)) H
theorem range_allB (bs:List Bool):((List.range bs.length).all fun i=>(bs[i]?).getD true)=bs.all id:=by
 rw [Bool.eq_iff_iff,List.all_eq_true,List.all_eq_true]
 constructor
 ·intro h b hb
  obtain ⟨i,hi,rfl⟩:=List.getElem_of_mem hb
  have:=h i (List.mem_range.mpr hi)
  simpa [List.getElem?_eq_getElem hi] using this
 ·intro h i hi
  have hi':=List.mem_range.mp hi
  simpa [List.getElem?_eq_getElem hi'] using h _ (List.getElem_mem hi')
section
variable {X:Cx}
theorem call_allB (hc:X.calm=true):CallR X (.builtin "all") (rAll X.K):=by
 intro pins s σ H xs us Q I r h
 obtain ⟨a,bs,rfl,hs,q⟩:=h
 obtain ⟨u,rfl,ru⟩:=vals1 r
 cases ru
 obtain ⟨its,rv,p,_⟩:=I.list hs
 have hl:s.heap.IsList a its.toArray:=by
  obtain ⟨o,n,h1,h2,h3⟩:=p
  exact⟨o,h1,h2,n,h3.2⟩
 have hlt:a<s.heap.objs.size:=by obtain ⟨_,e,_⟩:=hl;exact Heap.lt_size e
 have hh:X.A.handled=none:=I.ok.hd hc
 refine call_all_walk (wpAny_pyIter_list hl ?_)
 refine⟨s.heap.objs.size,[s.heap.objs.size,a],[s.heap.objs.size],its.toArray.size,_,_,fun i=>(bs[i]?).getD true,rfl,Walks.list (A:=X.A.in1) hh _ a (Nat.ne_of_lt hlt) its.toArray,
  ⟨⟨_,Heap.get?_push_size _ rfl,rfl,rfl⟩,hl.push _⟩,fun i v s' Q' E' hP hQ=>?_,fun h' tk hk=>?_⟩
 ·have hP':its[i]?=some v:=by simpa using hP
  have hi:i<its.length:=(List.getElem?_eq_some_iff.mp hP').1
  have hb:i<bs.length:=by have:=rv.length;simp at this;lia
  obtain ⟨u1,e1,r1⟩:=rv.get (i:=i) (x:=.bl bs[i]) (by simp [hb])
  rw [hP'] at e1
  cases e1
  cases r1
  simp only [List.getElem?_eq_getElem hb,Option.getD_some] at hQ
  exact wpAny_truthy_bool hQ
 ·have e:((List.range its.toArray.size).all fun i=>(bs[i]?).getD true)=bs.all id:=by
   have:=rv.length
   simp at this
   rw [List.size_toArray,← this];exact range_allB bs
  rw [e]
  exact⟨.bl (bs.all id),H,I.kept (t':=tk) (fun b x e=>hk b x (fun hm=>by rw [List.mem_singleton.mp hm] at e;exact Nat.lt_irrefl _ (Heap.lt_size e)) (Heap.get?_push_of_some _ e)),rfl,q⟩
theorem kN_all (K:PySem.W.Frag) (hK:X.K=K) (hc:X.calm=true):CallR X (.builtin "all") (rAll K):=hK ▸ call_allB hc
end
section
variable {K:PySem.W.Frag} {H:Hp} {Q:VK} {σ:St}
theorem r_all {a:Addr} {bs:List Bool} (e:SqL K H a (bs.map V.bl)) (h:Q (.bl (bs.all id)) H):rAll K [.ref a] H Q:=⟨a,bs,rfl,e,h⟩
theorem r_gsub {to ti:TE} {t:TSet} {v:V} {R:St→Hp→Prop} (h:to σ H fun o H1=>ti σ H1 fun i H2=>t o i v H2 fun H3=>R σ H3):gSub to ti t v σ H R:=h
theorem r_setL {p:Addr} {xs:List V} {k:Int} {j:Nat} {v:V} {R:Hp→Prop} (e:H p=some (.lst xs)) (hj:ixN xs.length k=some j) (h:R (upd H p (.lst (xs.set j v)))):rSetL (.ref p) (.int k) v H R:=⟨p,xs,k,j,rfl,rfl,e,hj,h⟩
end
end L2
namespace L2
open PySem PySem.Spec PyProof.Rows
section
variable {X:Cx} {pins:List (Addr×Obj)} {σ:St} {H:Hp} {s:Shared}
theorem Inv.wrote {a:Addr} {o o':Obj} {h':Heap} {t':Nat} (I:Inv X (pins++[(a,o)]) σ H s) (h0:X.s₀.heap.get? a=none) (hc:∀ x c,X.env.cells.lookup x=some c→c≠a) (hp:∀ p∈X.pn++pins,p.1≠a)
  (sb:Heap.SameBut a s.heap h') (e:h'.get? a=some o') (d:∀ v,o'.data≠.cell v):Inv X (pins++[(a,o')]) σ H { s with heap:=h',toks:=t' }:=by
 obtain ⟨g1,g2,g3,g4,g5⟩:=I.pin (a,o) (List.mem_append_right _ (List.mem_append_right _ (List.mem_singleton.mpr rfl)))
 have I1:Inv X pins σ H s:=I.unpinned
 have nm:∀ {b:Addr},b∉[a]→b≠a:=fun nb z=>nb (List.mem_singleton.mpr z)
 have I2:Inv X pins σ H { s with heap:=h',toks:=t' }:=Inv.step2 (ch:=[a]) I1 (fun b hb=>by
   have eb:b=a:=List.mem_singleton.mp hb
   subst eb
   exact⟨h0,g3,hc,hp⟩) (fun b ob _ _ nb q _=>(sb.2 b (nm nb)).trans q) (fun b ob _ _ nb q _=>⟨ob.slots,(sb.2 b (nm nb)).trans q⟩)
   (fun _ _ _ _ q=>q) (fun b ob nb q=>⟨ob,(sb.2 b (nm nb)).trans q⟩) (fun _ _ q=>q) (fun _ _ _ q=>q) (fun b ps q=>⟨#[],by simpa using q⟩) (fun m hm=>hm.sameBut sb (Ne.symm g3)) (I1.hok.letGo g2 sb)
 exact I2.pins_of fun p hp=>(List.mem_append.mp hp).elim (fun z=>I2.pin p (List.mem_append_right _ z)) fun z=>by
  rw [List.mem_singleton.mp z]
  exact⟨e,g2,g3,g4,d⟩
end
end L2
namespace L2
open PySem PySem.Spec PyProof.Rows
inductive PV:List (Int×V)→List (Int×Value)→Prop where
 | nil:PV [] []
 | cons {k:Int} {x:V} {u:Value} {qs ps} (r:RelV x u) (t:PV qs ps):PV ((k,x)::qs) ((k,u)::ps)
theorem PV.zip:∀ {kz:List Int} {xs:List V} {vs:List Value},Vals xs vs→PV (kz.zip xs) (kz.zip vs)
 | [],_,_,_=>.nil
 | _::_,_,_,.nil=>.nil
 | _::_,_,_,.cons r t=>.cons r (PV.zip t)
theorem PV.perm {ps ps':List (Int×Value)} (h:ps'.Perm ps):∀ {qs:List (Int×V)},PV qs ps→∃ qs':List (Int×V),qs'.Perm qs∧PV qs' ps':=by
 induction h with
 | nil=>intro qs h;exact⟨qs,.refl _,h⟩
 | cons x _ ih =>
  intro qs h
  cases h with
  | cons r t =>
   obtain ⟨qs',p,z⟩:=ih t
   exact⟨_::qs',p.cons _,.cons r z⟩
 | swap x y l =>
  intro qs h
  cases h with
  | cons r t =>
   cases t with
   | cons r2 t2=>exact⟨_::_::_,.swap _ _ _,.cons r2 (.cons r t2)⟩
 | trans _ _ ih1 ih2 =>
  intro qs h
  obtain ⟨q1,p1,z1⟩:=ih2 h
  obtain ⟨q2,p2,z2⟩:=ih1 z1
  exact⟨q2,p2.trans p1,z2⟩
theorem PV.vals:∀ {qs:List (Int×V)} {ps:List (Int×Value)},PV qs ps→Vals (qs.map Prod.snd) (ps.map Prod.snd)∧qs.map Prod.fst=ps.map Prod.fst
 | _,_,.nil=>⟨.nil,rfl⟩
 | _,_,.cons r t=>⟨.cons r t.vals.1,by rw [List.map_cons,List.map_cons,t.vals.2]⟩
section
variable {X:Cx} {pins:List (Addr×Obj)} {σ:St} {H:Hp} {s:Shared}
theorem top_pin {p:Addr×Obj} (I:Inv X (pins++[p]) σ H s):s.heap.get? p.1=some p.2:=(I.pin p (List.mem_append_right _ (List.mem_append_right _ (List.mem_singleton.mpr rfl)))).1
theorem took {kA:Array Value} {kz:List Int} {j:Nat} {n:Int} {t:Tok} (hk:IntsAre kA.toList (kz.take j)) (hn:kz[j]?=some n):IntsAre (kA.push (.int n t)).toList (kz.take (j+1)):=by
 rw [Array.toList_push,List.take_add_one,hn]
 exact ksk_snoc hk
end
end L2
namespace L2
open PySem PySem.Spec PyProof.Rows
theorem ns_uniq {h:Heap} {a:Addr} {m m':Str→Option Value} (x:h.Ns a m) (y:h.Ns a m'):m=m':=by
 obtain ⟨o1,es1,ep1,ho1,hd1,_,hf1⟩:=x
 obtain ⟨o2,es2,ep2,ho2,hd2,_,hf2⟩:=y
 rw [ho1] at ho2;cases ho2;rw [hd1] at hd2;cases hd2
 funext z
 rw [← hf1,← hf2]
noncomputable def SortedBy (b:Bool) (kz:List Int) (xs ys:List V):Prop:=∃ qs:List (Int×V),qs.Perm (kz.zip xs)∧ys=qs.map Prod.snd∧qs.Pairwise (fun p q=>if b then q.1≤p.1 else p.1≤q.1)
theorem pair_fst {b:Bool}:∀ {qs:List (Int×V)} {ps:List (Int×Value)},PV qs ps→ps.Pairwise (fun p q=>if b then q.1≤p.1 else p.1≤q.1)→qs.Pairwise (fun p q=>if b then q.1≤p.1 else p.1≤q.1)
 | _,_,.nil,_=>.nil
 | _,_,.cons (k:=k) (qs:=qs) (ps:=ps) r t,h=>by
  obtain ⟨h1,h2⟩:=List.pairwise_cons.mp h
  refine List.pairwise_cons.mpr ⟨fun q hq=>?_,pair_fst t h2⟩
  have hm:q.1∈ps.map Prod.fst:=by rw [← t.vals.2];exact List.mem_map.mpr ⟨q,hq,rfl⟩
  obtain ⟨p,hp,e⟩:=List.mem_map.mp hm
  have:=h1 p hp
  rw [e] at this
  exact this
theorem sorted_of {b:Bool} {kz:List Int} {xs:List V} {vs out:List Value} (hv:Vals xs vs) (h:KskOut b kz vs out):∃ ys,Vals ys out∧SortedBy b kz xs ys:=by
 obtain ⟨ps,hp,rfl,hw⟩:=h
 obtain ⟨qs,h1,h2⟩:=PV.perm hp (PV.zip hv)
 exact⟨qs.map Prod.snd,h2.vals.1,qs,h1,rfl,pair_fst h2 hw⟩
theorem SortedBy.length {b:Bool} {kz:List Int} {xs ys:List V} (h:SortedBy b kz xs ys) (hl:kz.length=xs.length):ys.length=xs.length:=by
 obtain ⟨qs,p,rfl,_⟩:=h
 rw [List.length_map,p.length_eq,List.length_zip,hl,Nat.min_self]
section
variable {X:Cx} {pins:List (Addr×Obj)} {σ:St} {H:Hp} {s:Shared}
noncomputable def others (h:Heap) (L k a:Addr):List (Addr×Obj):=(List.range h.objs.size).filterMap fun b=>if b=L∨b=k∨b=a then none else (h.get? b).map fun o=>(b,o)
theorem mem_others {h:Heap} {L k a b:Addr} {o:Obj} (e:h.get? b=some o) (n1:b≠L) (n2:b≠k) (n3:b≠a):(b,o)∈others h L k a :=
 List.mem_filterMap.mpr ⟨b,List.mem_range.mpr (Heap.lt_size e),by rw [if_neg (by simp [n1,n2,n3]),e];rfl⟩
theorem of_others {h:Heap} {L k a:Addr} {p:Addr×Obj} (hp:p∈others h L k a):h.get? p.1=some p.2∧p.1≠L∧p.1≠k∧p.1≠a:=by
 obtain ⟨b,_,e⟩:=List.mem_filterMap.mp hp
 by_cases hb:b=L∨b=k∨b=a
 ·rw [if_pos hb] at e;cases e
 ·rw [if_neg hb] at e
  cases q:h.get? b with
  | none=>rw [q] at e;cases e
  | some o =>
   rw [q] at e
   cases e
   exact⟨q,fun z=>hb (.inl z),fun z=>hb (.inr (.inl z)),fun z=>hb (.inr (.inr z))⟩
theorem sort_end {a kS:Addr} {e1 e:Nat} {kA:Array Value} {b:Bool} {vs:List Value} {xs:List V} {kz:List Int} {P:PySem.Fin→Shared→Prop} {E:Value→Shared→Prop}
  (I:Inv X ((pins++[(a,seqObj "list" #[] e1)])++[(kS,seqObj "list" kA e)]) σ H s)
  (ha:X.s₀.heap.get? a=none∧(∀ x c,X.env.cells.lookup x=some c→c≠a)∧∀ p∈X.pn++pins,p.1≠a)
  (hkS:X.s₀.heap.get? kS=none∧(∀ x c,X.env.cells.lookup x=some c→c≠kS)∧∀ p∈X.pn++(pins++[(a,seqObj "list" #[] e1)]),p.1≠kS)
  (hk:IntsAre kA.toList kz) (hv:Vals xs vs) (hlen:kz.length=vs.length) (h64:vs.length<64)
  (hP:∀ h' tk ys,Inv X pins σ (upd H a (.lst ys)) { s with heap:=h',toks:=tk }→SortedBy b kz xs ys→P (.done (.ret .none)) { s with heap:=h',toks:=tk }) :
  wpAny (model X.prog X.w) X.A.in1.in1 (ksk_end a b vs.toArray e1 (.ref kS) kA) P E s:=by
 obtain ⟨k1,k2,k3,k4,_⟩:=I.pin (kS,seqObj "list" kA e) (List.mem_append_right _ (List.mem_append_right _ (List.mem_singleton.mpr rfl)))
 obtain ⟨a1,a2,a3,a4,_⟩:=I.pin (a,seqObj "list" #[] e1) (List.mem_append_right _ (List.mem_append_left _ (List.mem_append_right _ (List.mem_singleton.mpr rfl))))
 have hka:kS≠a:=fun z=>hkS.2.2 (a,seqObj "list" #[] e1) (List.mem_append_right _ (List.mem_append_right _ (List.mem_singleton.mpr rfl))) z.symm
 have I1:Inv X pins σ H s:=I.unpinned.unpinned
 obtain ⟨m,hn,_⟩:=id I1.loc
 have em:∀ b:Addr,({}:Heap).get? b=none:=fun b=>Heap.get?_none_of_le (Nat.zero_le _)
 refine ksk_end_ (h₀:=({}:Heap)) (L:=X.env.locals) (m:=m) (news:=others s.heap X.env.locals kS a) (e:=e) ⟨hn,fun b o q=>(by rw [em b] at q;cases q),Nat.zero_le _⟩ (fun p hp=>?_) hka (fun p hp=>(of_others hp).2.2.1) (fun p hp=>(of_others hp).2.2.2) hk hlen h64 (fun h' tk out c F' N' ko=>?_)
 ·rcases List.mem_append.mp hp with z|z
  ·exact⟨(of_others z).1,(of_others z).2.1,em _⟩
  ·rcases List.mem_cons.mp z with rfl|z
   ·exact⟨k1,k3,em _⟩
   ·rw [List.mem_singleton.mp z]
    exact⟨a1,a3,em _⟩
 ·obtain ⟨ys,ry,so⟩:=sorted_of hv ko
  have kp:∀ b o,s.heap.get? b=some o→b≠X.env.locals→b≠kS→b≠a→h'.get? b=some o:=fun b o q n1 n2 n3=>(N' (b,o) (.tail _ (mem_others q n1 n2 n3))).1
  have na:h'.get? a=some (seqObj "list" out c):=(N' (a,seqObj "list" out c) (.head _)).1
  have nm:∀ {b:Addr},b∉[a,kS]→b≠a∧b≠kS:=fun nb=>⟨fun z=>nb (by rw [z];exact .head _),fun z=>nb (by rw [z];exact .tail _ (.head _))⟩
  refine hP h' tk ys (Inv.step2 (ch:=[a,kS]) I1 (fun b hb=>?_) (fun b o nL _ nb q _=>kp b o q nL (nm nb).2 (nm nb).1) (fun b o nL _ nb q _=>⟨o.slots,kp b o q nL (nm nb).2 (nm nb).1⟩)
   (fun b o nb _ q=>by rw [upd_ne (nm nb).1];exact q) (fun b o nb q=>?_) (fun b ys q=>by rw [upd_ne (ne_of_none q a2)];exact q) (fun b o u q=>by rw [upd_ne (ne_of_none q a2)];exact q) (fun b ps q=>⟨#[],by rw [upd_ne (ne_of_none q a2)];simpa using q⟩)
   (fun m0 h0=>ns_uniq hn h0 ▸ F'.ns) (fun b o q=>?_)) so
  ·rcases List.mem_cons.mp hb with rfl|hb
   ·exact⟨ha.1,a3,ha.2.1,ha.2.2⟩
   ·have eb:b=kS:=List.mem_singleton.mp hb
    subst eb
    exact⟨hkS.1,k3,hkS.2.1,fun p hp=>hkS.2.2 p ((List.mem_append.mp hp).elim (fun z=>List.mem_append_left _ z) fun z=>List.mem_append_right _ (List.mem_append_left _ z))⟩
  ·by_cases nL:b=X.env.locals
   ·subst nL
    obtain ⟨oL,_,_,hoL,_⟩:=F'.ns
    exact⟨oL,hoL⟩
   ·exact⟨o,kp b o q nL (nm nb).2 (nm nb).1⟩
  ·by_cases hb:b=a
   ·subst hb
    rw [upd_same] at q
    cases q
    refine⟨?_,out.toList,c,ry,by simpa using na⟩
    have:=so.length (hlen.trans hv.length.symm)
    rw [this,hv.length,sizeLine_eq]
    lia
   ·rw [upd_ne hb] at q
    have tr:∀ d u,H d=some u→d≠X.env.locals∧d≠kS∧d≠a:=fun d u z=>⟨fun w=>(by rw [w,I1.free] at z;cases z),fun w=>(by rw [w,k2] at z;cases z),fun w=>(by rw [w,a2] at z;cases z)⟩
    refine (I1.hok b o q).stay (fun d u hd z=>?_) (fun d z=>by rw [upd_ne (ne_of_none z a2)];exact z) fun d xs z=>by rw [upd_ne (ne_of_none z a2)];exact z
    have td:d≠X.env.locals∧d≠kS∧d≠a:=by
     rcases hd with rfl|hd
     ·exact tr _ _ q
     ·exact tr _ _ hd
    exact kp d u z td.1 td.2.1 td.2.2
end
end L2
namespace L2
open PySem PySem.Spec PyProof.Rows
mutual
inductive Tell (K:PySem.W.Frag) (H:Hp):V→PyData→Prop where
 | non:Tell K H .non .none
 | bl (b:Bool):Tell K H (.bl b) (.bool b)
 | int (i:Int):Tell K H (.int i) (.int i)
 | str (x:Str):Tell K H (.str x) (.str x)
 | tup {a:Addr} {xs:List V} {ds:List PyData} (h:SqT K H a xs) (t:Tells K H xs ds):Tell K H (.ref a) (.tuple ds)
 | lst {a:Addr} {xs:List V} {ds:List PyData} (h:SqL K H a xs) (t:Tells K H xs ds):Tell K H (.ref a) (.list ds)
inductive Tells (K:PySem.W.Frag) (H:Hp):List V→List PyData→Prop where
 | nil:Tells K H [] []
 | cons {x:V} {d:PyData} {xs:List V} {ds:List PyData} (h:Tell K H x d) (t:Tells K H xs ds):Tells K H (x::xs) (d::ds)
end
section
variable {X:Cx} {pins:List (Addr×Obj)} {σ:St} {H:Hp} {s:Shared}
mutual
theorem Tell.reads (I:Inv X pins σ H s):∀ {v:V} {d:PyData} {u:Value},Tell X.K H v d→RelV v u→∃ as,Reads s.heap u d as
 | _,_,u,.non,r=>by cases (show u=Value.none from r);exact⟨_,.none⟩
 | _,_,u,.bl b,r=>by cases (show u=Value.bool b from r);exact⟨_,.bool b⟩
 | _,_,u,.int i,r=>by
  obtain ⟨t,q⟩:=(show ∃ t,u=Value.int i t from r)
  cases q
  exact⟨_,.int i t⟩
 | _,_,u,.str x,r=>by
  obtain ⟨t,q⟩:=(show ∃ t,u=Value.str x t from r)
  cases q
  exact⟨_,.str x t⟩
 | _,_,u,.tup (a:=a) h t,r=>by
  cases (show u=Value.ref a from r)
  obtain ⟨its,rv,p,_⟩:=I.tuple h
  obtain ⟨o,h1,h2,n,h3⟩:=p
  obtain ⟨as,ra⟩:=Tells.reads I t rv
  exact⟨_,reads_tuple_at h1 h2 h3 (by simpa using ra)⟩
 | _,_,u,.lst (a:=a) h t,r=>by
  cases (show u=Value.ref a from r)
  obtain ⟨its,rv,p,_⟩:=I.list h
  obtain ⟨o,n,h1,h2,h3⟩:=p
  obtain ⟨as,ra⟩:=Tells.reads I t rv
  exact⟨_,reads_list_at h1 h2 h3.2 (by simpa using ra)⟩
theorem Tells.reads (I:Inv X pins σ H s):∀ {vs:List V} {ds:List PyData} {us:List Value},Tells X.K H vs ds→Vals vs us→∃ as,ReadsAll s.heap us ds as
 | _,_,_,.nil,.nil=>⟨_,.nil⟩
 | _,_,_,.cons h t,.cons r rs=>by
  obtain ⟨as,ra⟩:=Tell.reads I h r
  obtain ⟨bs,rb⟩:=Tells.reads I t rs
  exact⟨_,.cons ra rb⟩
end
noncomputable def rEqD (K:PySem.W.Frag) (neg:Bool):R2:=fun x y H Q=>∃ d e,Tell K H x d∧Tell K H y e∧SeqAt.shaped d=true∧SeqAt.shaped e=true∧Q (.bl (if neg then !PyData.eqv d e else PyData.eqv d e)) H
theorem op_eqD (hu:X.A.units+64<cLine):OpR X (compareOp .Eq) (rEqD X.K false):=by
 intro pins s σ H x y v u Q I rx ry h
 obtain ⟨d,e,hd,he,sd,se,q⟩:=h
 obtain ⟨as,ra⟩:=hd.reads I rx
 obtain ⟨bs,rb⟩:=he.reads I ry
 exact eq_dataH ra rb sd se hu ⟨.bl (PyData.eqv d e),H,I,rfl,q⟩
variable {K:PySem.W.Frag}
theorem kop_eqD (K:PySem.W.Frag) (hK:X.K=K) (hu:X.A.units+64<cLine):OpR X (compareOp .Eq) (rEqD K false):=hK ▸ op_eqD hu
end
section
variable {K:PySem.W.Frag} {H:Hp} {Q:VK}
theorem r_eqD {x y:V} {d e:PyData} (hd:Tell K H x d) (he:Tell K H y e) (sd:SeqAt.shaped d=true) (se:SeqAt.shaped e=true) (h:Q (.bl (PyData.eqv d e)) H):rEqD K false x y H Q:=⟨d,e,hd,he,sd,se,h⟩
noncomputable def Rows (K:PySem.W.Frag) (H:Hp) (xs:List V) (rs:List (List Int)):Prop:=Tells K H xs (rs.map fun r=>.tuple (r.map PyData.int))
theorem Tells.ints:∀ (r:List Int),Tells K H (r.map V.int) (r.map PyData.int)
 | []=>.nil
 | i::r=>.cons (.int i) (Tells.ints r)
theorem Tell.row {a:Addr} {r:List Int} (h:SqT K H a (r.map V.int)):Tell K H (.ref a) (.tuple (r.map PyData.int)):=.tup h (Tells.ints r)
end
end L2
namespace L2
open PySem PySem.Spec PyProof.Rows
section
variable {K:PySem.W.Frag} {g:TG} {D:Ends} {σ:St} {H:Hp}
theorem f_inv {J:It} {tb:TS} (n:Nat) (Pv:Nat→St→Hp→Prop) (h0:Pv 0 σ H) (hgo:∀ i σ H2,i<n→Pv i σ H2→J.go i H2) (hstop:∀ σ H2,Pv n σ H2→J.stop n H2)
  (hs:∀ i x σ H2 H3,i<n→Pv i σ H2→J.yld i H2 x H3→g x σ H3 fun σ2 H4=>tb { D with nx:=Pv (i+1),ct:=Pv (i+1),bk:=D.nx } σ2 H4) (hd:∀ σ H2,Pv n σ H2→D.nx σ H2):ForGoal g tb D J σ H:=by
 refine⟨fun i m σ2 H2=>m=n - i∧i≤n∧Pv i σ2 H2,⟨n,by simp,Nat.zero_le _,h0⟩,?_⟩
 rintro i m σ2 H2 ⟨rfl,hi,p⟩
 by_cases hlt:i<n
 ·exact .inr ⟨hgo i σ2 H2 hlt p,Pv (i+1),fun σ' H' p'=>⟨n - (i+1),by lia,rfl,hlt,p'⟩,fun x H' y=>hs i x σ2 H2 H' hlt p y⟩
 ·have e:i=n:=by lia
  subst e
  exact .inl ⟨hstop σ2 H2 p,hd σ2 H2 p⟩
theorem f_invR {lo:Int} {n:Nat} {tb:TS} (Pv:Nat→St→Hp→Prop) (h0:Pv 0 σ H) (hs:∀ i σ H2,i<n→Pv i σ H2→g (.int (lo+i)) σ H2 fun σ2 H4=>tb { D with nx:=Pv (i+1),ct:=Pv (i+1),bk:=D.nx } σ2 H4) (hd:∀ σ H2,Pv n σ H2→D.nx σ H2):ForGoal g tb D (Itr lo n) σ H:=by
 refine f_inv n Pv h0 (fun i σ H2 hi _=>hi) (fun σ H2 _=>Nat.le_refl _) (fun i x σ H2 H3 hi p y=>?_) hd
 obtain ⟨rfl,rfl⟩:=y
 exact hs i σ _ hi p
theorem f_invL {a:Addr} {xs:List V} {tb:TS} (Pv:Nat→St→Hp→Prop) (h0:Pv 0 σ H) (ha:∀ i σ H2,Pv i σ H2→SqL K H2 a xs) (hs:∀ i x σ H2,xs[i]?=some x→Pv i σ H2→g x σ H2 fun σ2 H4=>tb { D with nx:=Pv (i+1),ct:=Pv (i+1),bk:=D.nx } σ2 H4) (hd:∀ σ H2,Pv xs.length σ H2→D.nx σ H2):ForGoal g tb D (Itl K a) σ H:=by
 refine f_inv xs.length Pv h0 (fun i σ H2 hi p=>⟨xs,xs[i],ha i σ H2 p,List.getElem?_eq_getElem hi⟩) (fun σ H2 p=>⟨xs,ha _ σ H2 p,Nat.le_refl _⟩) (fun i x σ H2 H3 hi p y=>?_) hd
 obtain ⟨rfl,e⟩:=y
 exact hs i x σ _ (e xs (ha i σ _ p)) p
end
end L2
namespace L2
open PySem PySem.Spec PyProof.Rows
noncomputable def rSum (K:PySem.W.Frag):List V→Hp→VK→Prop:=fun xs H Q=>∃ (a:Addr) (ns:List Int),xs=[.ref a]∧SqL K H a (ns.map V.int)∧Q (.int ns.sum) H
noncomputable def rMaxL (K:PySem.W.Frag):List V→Hp→VK→Prop:=fun xs H Q=>∃ (a:Addr) (ns:List Int),xs=[.ref a]∧SqL K H a (ns.map V.int)∧ns≠[]∧∀ m,m∈ns→(∀ x∈ns,x≤m)→Q (.int m) H
noncomputable def CDivNB (i j:Int):Prop:=j≠0∧j.natAbs.log2<9000
section
variable {X:Cx}
theorem op_fdivNB:OpR X (binaryOp .FloorDiv) (rI CDivNB fun i j=>.int (i.fdiv j)):=opI fun _ _ _ _ _ _ _ hc q=>floordiv_int hc.1 q (.inl (PyProof.noPylong_of_log2 hc.2))
theorem call_sumL (hc:X.calm=true):CallR X (.builtin "sum") (rSum X.K):=by
 intro pins s σ H xs us Q I r h
 obtain ⟨a,ns,rfl,hs,q⟩:=h
 obtain ⟨u,rfl,ru⟩:=vals1 r
 cases ru
 obtain ⟨its,rv,p,_⟩:=I.list hs
 have hl:s.heap.IsList a its.toArray:=by
  obtain ⟨o,n,h1,h2,h3⟩:=p
  exact⟨o,h1,h2,n,h3.2⟩
 have hh:X.A.handled=none:=I.ok.hd hc
 have hi:IntsAre its ns:=intsAre_of rv
 obtain ⟨zs,hx⟩:=hi.allInts.items
 have hn:numsOf its.toArray.toList=ns:=by rw [show its.toArray.toList=its from rfl,hi.numsOf]
 rw [hx] at hl hn
 rw [nums_intItems] at hn
 refine sum_intListG hh hl fun h' tk t' hk=>?_
 rw [preSum_eq,List.take_of_length_le (by simp),hn]
 exact⟨.int ns.sum,H,I.kept (t':=tk) hk,⟨t',rfl⟩,q⟩
theorem call_maxL (hc:X.calm=true):CallR X (.builtin "max") (rMaxL X.K):=by
 intro pins s σ H xs us Q I r h
 obtain ⟨a,ns,rfl,hs,hne,q⟩:=h
 obtain ⟨u,rfl,ru⟩:=vals1 r
 cases ru
 obtain ⟨its,rv,p,_⟩:=I.list hs
 have hl:s.heap.IsList a its.toArray:=by
  obtain ⟨o,n,h1,h2,h3⟩:=p
  exact⟨o,h1,h2,n,h3.2⟩
 have hh:X.A.handled=none:=I.ok.hd hc
 have hi:IntsAre its ns:=intsAre_of rv
 obtain ⟨zs,hx⟩:=hi.allInts.items
 have hn:numsOf its.toArray.toList=ns:=by rw [show its.toArray.toList=its from rfl,hi.numsOf]
 rw [hx] at hl hn
 rw [nums_intItems] at hn
 have hsz:0<zs.size:=by
  rcases Nat.eq_zero_or_pos zs.size with z|z
  ·exfalso;apply hne;rw [← hn];apply List.eq_nil_of_length_eq_zero;rw [List.length_map,Array.length_toList,z]
  ·exact z
 refine max_intList hh hl hsz fun v h' tk hv hk=>?_
 obtain ⟨t,rfl⟩:=intItems_at hv
 obtain ⟨h1,h2⟩:=argBest_gt (numAt zs) (zs.size - 1)
 refine⟨.int _,H,I.kept (t':=tk) hk,⟨t,rfl⟩,q _ ?_ fun b hb=>?_⟩
 ·rw [← hn,numAt_eq];exact getD_mem (by rw [List.length_map,Array.length_toList];lia)
 ·rw [← hn] at hb
  obtain ⟨j,hj,rfl⟩:=mem_getD hb
  rw [List.length_map,Array.length_toList] at hj
  rw [← numAt_eq];exact h2 j (by lia)
theorem kN_sum (K:PySem.W.Frag) (hK:X.K=K) (hc:X.calm=true):CallR X (.builtin "sum") (rSum K):=hK ▸ call_sumL hc
theorem kN_maxL (K:PySem.W.Frag) (hK:X.K=K) (hc:X.calm=true):CallR X (.builtin "max") (rMaxL K):=hK ▸ call_maxL hc
end
section
variable {K:PySem.W.Frag} {H:Hp} {Q:VK} {σ:St} {ix:List (Option Nat)}
theorem r_sum {a:Addr} {ns:List Int} (e:SqL K H a (ns.map V.int)) (h:Q (.int ns.sum) H):rSum K [.ref a] H Q:=⟨a,ns,rfl,e,h⟩
theorem r_maxL {a:Addr} {ns:List Int} (e:SqL K H a (ns.map V.int)) (n:ns≠[]) (h:∀ m,m∈ns→(∀ x∈ns,x≤m)→Q (.int m) H):rMaxL K [.ref a] H Q:=⟨a,ns,rfl,e,n,h⟩
theorem rd_zipM {k1 k2:Bool} {a b:Addr} {r q:List Int} (hpk:pick ix σ=[none,none]) (ha:Sq k1 K H a (r.map V.int)) (hb:Sq k2 K H b (q.map V.int)) (hlen:r.length=q.length) (hn:r.length≤1000) (hm:∀ i,i<r.length→CMulB (r.getD i 0) (q.getD i 0))
  (hQ:∀ l H',H l=none→Same H H'→H' l=some (.lst ((List.zipWith (·*·) r q).map V.int))→Q (.ref l) H') :
  CompGoal ix (gTup K 2 (gCons (gName 0) (gCons (gName 1) gNil))) (fun _ H Q=>Q true H) (tOp (rI CMulB fun i j=>.int (i*j)) (tVar 0) (tVar 1)) σ Q (Itz K k1 k2 a b) H:=by
 refine rd_compZ (k1:=k1) (k2:=k2) [] (fun i=>.int (r.getD i 0*q.getD i 0)) hpk ha hb (by simpa using hlen) (by rw [List.length_map];lia) (fun i x y H' Qc ex ey hs kc=>?_) fun l H' hl hs hl'=>hQ l H' hl hs ?_
 ·obtain ⟨rfl,hi⟩:=int_get (r:=r) ex
  obtain ⟨rfl,_⟩:=int_get (r:=q) ey
  exact⟨_,rfl,_,rfl,_,_,rfl,rfl,hm i hi,kc _ (Same.refl _)⟩
 ·rw [hl']
  congr 2
  apply List.ext_getElem (by simp [hlen])
  intro i h1 h2
  have h3:i<r.length:=by simpa using h1
  have h4:i<q.length:=by lia
  simp [List.getD,h3,h4]
end
end L2
namespace L2
open PySem
structure En (k:Bool) (n a:Nat) (i:Nat) (h:Heap):Prop where
 ob:∃ last:Value,IsEnum h (n+1) n i last
 src:ItAt k h n a i
section
variable {prog:Program} {w:World} {A:Around} {E:Value→Shared→Prop} {s:Shared}
theorem en_next {k:Bool} {n a:Nat} {i:Nat} {xs:Array Value} {x:Value} {Q:Value→Shared→Prop} (Z:En k n a i s.heap) (ha:a<n) (hs:SrcOf k s.heap a xs) (hx:xs[i]?=some x)
  (hQ:∀ h' t,IsEnumOut h' (n+1) n ((i:Int)+1) x s.heap.objs.size→ItAt k h' n a (i+1)→IsT h' s.heap.objs.size #[.int i t,x]→h'.objs.size=s.heap.objs.size+1→Off [n,n+1] s.heap h'→Q (.ref s.heap.objs.size) { s with heap:=h',toks:=s.toks+1 }) :
  wpAny (model prog w) A (Builtin.«enumerate.__next__» ⟨[.ref (n+1)],[]⟩) (fun fin s'=>∃ v,fin=.done (.ret v)∧Q v s') E s:=by
 obtain ⟨⟨last,ob⟩,src⟩:=Z
 obtain ⟨hp,gg,dd,tt,oo⟩:=s
 have n1:(n+1:Addr)≠n:=nne (by lia)
 show wpAny _ _ (field (.ref (n+1)) 2 >>= _) _ _ _
 refine wpAny_bind (wpAny_field ob rfl (x:=.ref n) rfl (wpAny_bind (sub_item src hs hx fun g1 src1 q1=>?_)))
 replace q1:Heap.SameBut n hp g1:=q1
 have ob1:IsEnum g1 (n+1) n i last:=(q1.2 _ n1).trans ob
 show wpAny _ _ (field (.ref (n+1)) 3 >>= _) _ _ ⟨g1,gg,dd,tt,oo⟩
 refine wpAny_bind (wpAny_field ob1 rfl (x:=rawInt i) rfl ?_)
 show wpAny _ _ (field (.ref (n+1)) 4 >>= _) _ _ ⟨g1,gg,dd,tt,oo⟩
 refine wpAny_bind (wpAny_field ob1 rfl (x:=.none) rfl ?_)
 show wpAny _ _ (mkInt i >>= _) _ _ ⟨g1,gg,dd,tt,oo⟩
 refine wpAny_bind (wpAny_mkInt ?_)
 show wpAny _ _ (setField (.ref (n+1)) 3 (rawInt ((i:Int)+1)) >>= _) _ _ ⟨g1,gg,dd,tt+1,oo⟩
 refine wpAny_bind (wpAny_setField_rec ob1 (by simp) fun g2 ob2 q2=>?_)
 replace q2:Heap.SameBut (n+1) g1 g2:=q2
 replace ob2:IsEnum g2 (n+1) n ((i:Int)+1) last:=ob2
 show wpAny _ _ (setField (.ref (n+1)) 4 .none >>= _) _ _ ⟨g2,gg,dd,tt+1,oo⟩
 refine wpAny_bind (wpAny_setField_rec ob2 (by simp) fun g3 ob3 q3=>?_)
 replace q3:Heap.SameBut (n+1) g2 g3:=q3
 replace ob3:IsEnum g3 (n+1) n ((i:Int)+1) last:=ob3
 show wpAny _ _ (newTuple [.int i tt,x] >>= _) _ _ ⟨g3,gg,dd,tt+1,oo⟩
 refine wpAny_bind (wpAny_newTuple ?_)
 have z3:g3.objs.size=hp.objs.size:=by rw [q3.1,q2.1,q1.1]
 have elt:n+1<hp.objs.size:=Heap.lt_size ob
 obtain ⟨g4,e4⟩:∃ g4,g4=g3.push { cls:=.type "tuple",data:=.seq #[.int i tt,x] }:=⟨_,rfl⟩
 have ob4:IsEnum g4 (n+1) n ((i:Int)+1) last:=by rw [e4];exact Heap.get?_push_of_some _ ob3
 have t4:IsT g4 hp.objs.size #[.int i tt,x]:=by rw [e4,← z3];exact Heap.get?_push_size _ rfl
 have z4:g4.objs.size=hp.objs.size+1:=by rw [e4,Heap.size_push,z3]
 have o4:Off [n,n+1] hp g4:=by
  rw [e4]
  exact (((Off.of q1 (by simp)).trans (Off.of q2 (by simp))).trans (Off.of q3 (by simp))).trans (Off.push _)
 have src4:ItAt k g4 n a (i+1):=src1.keep fun o e=>by
  rw [e4]
  exact Heap.get?_push_of_some _ ((q3.2 _ n1.symm).trans ((q2.2 _ n1.symm).trans e))
 show wpAny _ _ (Builtin.SmallTypes.ownedTupleIsFree (.ref (n+1)) >>= _) _ _ ⟨_,gg,dd,tt+1,oo⟩
 rw [z3,← e4]
 clear e4 ob3 q3 ob2 q2 ob1 q1 src1 z3
 refine wpAny_bind ?_
 unfold Builtin.SmallTypes.ownedTupleIsFree
 refine wpAny_bind (wpAny_field ob4 rfl (x:=.none) rfl (wpAny_pure ?_))
 rw [if_pos rfl]
 refine wpAny_bind (wpAny_rule (wpAny_bind (wpAny_field ob4 rfl (x:=last) rfl (wpAny_bind (wpAny_setField_rec ob4 (by simp) fun g5 ob5 q5=>?_)))))
 replace q5:Heap.SameBut (n+1) g4 g5:=q5
 replace ob5:IsEnum g5 (n+1) n ((i:Int)+1) x:=ob5
 show wpAny _ _ (Builtin.SmallTypes.ownedTupleHandOut (.ref (n+1)) (.ref hp.objs.size) >>= _) _ _ ⟨g5,gg,dd,tt+1,oo⟩
 refine wpAny_bind ?_
 unfold Builtin.SmallTypes.ownedTupleHandOut
 refine wpAny_bind (wpAny_setField_rec ob5 (by simp) fun g6 ob6 q6=>?_)
 replace q6:Heap.SameBut (n+1) g5 g6:=q6
 replace ob6:IsEnumOut g6 (n+1) n ((i:Int)+1) x hp.objs.size:=ob6
 refine wpAny_setField_rec ob6 (by simp) fun g7 ob7 q7=>?_
 replace q7:Heap.SameBut (n+1) g6 g7:=q7
 replace ob7:IsEnumOut g7 (n+1) n ((i:Int)+1) x hp.objs.size:=ob7
 have up:∀ c o,c≠n+1→g4.get? c=some o→g7.get? c=some o:=fun c o hc e=>(q7.2 _ hc).trans ((q6.2 _ hc).trans ((q5.2 _ hc).trans e))
 refine wpAny_bind (wpAny_letGo (wpAny_pure ⟨_,rfl,hQ g7 tt ob7 (src4.keep fun o e=>up _ o n1.symm e) (up _ _ (Nat.ne_of_gt elt) t4) (by rw [q7.1,q6.1,q5.1,z4]) fun c o hc e=>?_⟩))
 exact up c o (fun z=>hc (by simp [z])) (o4 c o hc e)
theorem pyNext_en {k:Bool} {n a:Nat} {i:Nat} {xs:Array Value} {x:Value} {Q:Option Value→Shared→Prop} (Z:En k n a i s.heap) (ha:a<n) (hs:SrcOf k s.heap a xs) (hx:xs[i]?=some x)
  (hQ:∀ h' t,IsEnumOut h' (n+1) n ((i:Int)+1) x s.heap.objs.size→ItAt k h' n a (i+1)→IsT h' s.heap.objs.size #[.int i t,x]→h'.objs.size=s.heap.objs.size+1→Off [n,n+1] s.heap h'→Q (some (.ref s.heap.objs.size)) { s with heap:=h',toks:=s.toks+1 }) :
  wpAny (model prog w) A (pyNext (.ref (n+1))) Q E s:=by
 have ty:s.TypeIs (.ref (n+1)) "enumerate":=by obtain ⟨last,ob⟩:=Z.ob;exact⟨_,ob,rfl⟩
 unfold pyNext
 exact wpAny_bind (wpAny_attempt (wpAny_callSpecial?_slot (name:=Str.ofString "__next__") ty F.slot_enumerate_next (wpAny_call_entry F.slot_enumerate_next ty F.entry_enumerate_next
  (en_next Z ha hs hx fun h' t b1 b2 b3 b4 b5=>wpAny_pure (hQ h' t b1 b2 b3 b4 b5)) (F.args_enumerate_next_1 _))))
theorem pyNext_en_end {k:Bool} {n a:Nat} {i:Nat} {xs:Array Value} {Q:Option Value→Shared→Prop} (hh:A.handled=none) (Z:En k n a i s.heap) (hs:SrcOf k s.heap a xs) (hx:xs[i]?=none)
  (hQ:∀ h',Off [n,n+1] s.heap h'→Q none { s with heap:=h' }):wpAny (model prog w) A (pyNext (.ref (n+1))) Q E s:=by
 obtain ⟨⟨last,ob⟩,src⟩:=Z
 have ty:s.TypeIs (.ref (n+1)) "enumerate":=⟨_,ob,rfl⟩
 unfold pyNext
 refine wpAny_bind (wpAny_attempt (wpAny_callSpecial?_slot (name:=Str.ofString "__next__") ty F.slot_enumerate_next (wpAny_call_entry F.slot_enumerate_next ty F.entry_enumerate_next ?_ (F.args_enumerate_next_1 _))))
 show wpAny _ _ (field (.ref (n+1)) 2 >>= _) _ _ _
 refine wpAny_bind (wpAny_field ob rfl (x:=.ref n) rfl (wpAny_bind (sub_end hh src hs hx fun h' e off ⟨o,ho,hc⟩=>?_)))
 exact wpAny_bind (wpAny_isInstance (T:="StopIteration") (b:=true) ⟨o,ho,hc⟩ isSubtype_stop (wpAny_pure (hQ _ fun c u hc e=>off c u (fun z=>hc (by simp [z])) e)))
noncomputable abbrev eh2 (k:Bool) (h:Heap) (a:Addr):Heap:=(h.push (itObj k a)).push { cls:=.type "enumerate",data:=.fields #[.none,.bool false,.ref h.objs.size,rawInt 0,.none,.none] }
end
end L2
namespace L2
open PySem
open AutoSeq1 (wpAny_loadPart')
theorem en_made (k:Bool) (a:Addr) (xs:Array Value) :
  Meets (Builtin.«enumerate.__new__» ⟨[.type "enumerate",.ref a],[]⟩) (fun _ R s=>SrcOf k s.heap a xs∧R (.ok (.ret (.ref (s.heap.objs.size+1)))) { s with heap:=eh2 k s.heap a }) :=
 .of_wp fun prog w A R s h=>by
  obtain ⟨hp,gg,dd,tt,oo⟩:=s
  obtain ⟨src,r⟩:=h
  have sub:=sub_enumerate
  have S:SrcOf k (Shared.heap ⟨hp,gg,dd,tt,oo⟩) a xs:=src
  obtain ⟨ob,e⟩:∃ ob,hp.get? a=some ob:=by
   cases k
   ·obtain ⟨ob,e,_⟩:=src;exact⟨ob,e⟩
   ·obtain ⟨ob,e,_⟩:=src;exact⟨ob,e⟩
  obtain ⟨oc,od,ot,os⟩:=ob
  have last:(hp.push (itObj k a)).objs.size=hp.objs.size+1:=Heap.size_push ..
  have r':R (.ok (.ret (.ref (hp.push (itObj k a)).objs.size))) ⟨eh2 k hp a,gg,dd,tt,oo⟩:=by rw [last];exact r
  wp_walk using wpAny_loadPart' e
  refine wpAny_stack_any fun st=>wpAny_pure ?_
  split
  ·rename_i c _ _ _ _ _
   cases (c == Value.type "enumerate") <;> (wp_walk using wpAny_loadPart' e,src_iter S;exact⟨_,rfl,r'⟩)
  ·wp_walk using wpAny_loadPart' e,src_iter S
   exact⟨_,rfl,r'⟩
end L2
namespace L2
open PySem PySem.Spec PyProof.Rows
noncomputable def Itn (K : PySem.W.Frag) (k : Bool) (a : Addr) : It :=
  ⟨fun i H => ∃ xs x, Sq k K H a xs ∧ xs[i]?=some x,
   fun i H v H' => ∃ p x, v=.ref p ∧ H p=none ∧ (∀ xs, Sq k K H a xs → xs[i]?=some x) ∧ H'=upd H p (.tup [.int i, x]),
   fun i H => ∃ xs, Sq k K H a xs ∧ xs.length ≤ i⟩
theorem turn_en {P:Program} {w:World} {K:PySem.W.Frag} {es:List Expr} {kk:Nat} {pos:Pos} {k:Bool} (n a:Nat) (ha:a<n) :
  Turn P w K (.Tuple es kk pos) (Itn K k a) [n+1,n] (n+1) (fun i h=>En k n a i h) where
 mem:=by simp
 obj:=fun i h st c hc=>by
  obtain ⟨⟨last,ob⟩,src⟩:=st
  simp only [List.mem_cons,List.not_mem_nil,or_false] at hc
  rcases hc with rfl|rfl
  ·exact⟨_,ob,fun v z=>nomatch z⟩
  ·exact src.obj
 keep:=fun i h h' st k=>by
  obtain ⟨⟨last,ob⟩,src⟩:=st
  exact⟨⟨last,k _ (by simp) _ ob⟩,src.keep fun o e=>k _ (by simp) o e⟩
 item:=by
  intro X hP hw hK hc i pins s σ H E I hf st hg
  subst hP hw hK
  obtain ⟨xs,x,qx,ex⟩:=hg
  obtain ⟨is1,r1,s1,_⟩:=I.sq qx
  obtain ⟨u,hu,ru⟩:=r1.get ex
  refine pyNext_en st ha s1 (x:=u) (by simpa using hu) fun h' t ob src hT hsz off=>⟨_,rfl,?_⟩
  have hTn:H s.heap.objs.size=none:=I.hok.fresh (Nat.le_refl _)
  have zlt:n+1<s.heap.objs.size:=by obtain ⟨last,b⟩:=st.ob;exact Heap.lt_size b
  refine wpAny_letOwnedTupleGo_enum ob fun h2 ob2 hs2=>?_
  have off2:Off [n+1,n] s.heap h2:=fun c o hc e=>(hs2.2 c fun z=>hc (by simp [z])).trans (off c o (fun z=>hc (by simp only [List.mem_cons,List.not_mem_nil,or_false] at z ⊢;exact z.symm)) e)
  have hT2:IsT h2 s.heap.objs.size #[.int i t,u]:=(hs2.2 _ (Nat.ne_of_gt zlt)).trans hT
  refine⟨.ref s.heap.objs.size,upd H s.heap.objs.size (.tup [.int i,x]),?_,rfl,⟨_,x,rfl,hTn,fun zs hzs=>by rw [I.sq_inj hzs qx];exact ex,rfl⟩,?_,fun c hc=>?_⟩
  ·refine Inv.off (s:=s) (h':=h2) (t':=s.toks+1) (ch:=[n+1,n]) I hf off2 (I.hok.offNew (fun c hc=>(hf c hc).1) off2 (Nat.le_refl _) ?_) (fun c o _ e hn=>?_) fun c o e=>?_
   ·exact⟨by show 2≤sizeLine;decide,[.int i t,u],.cons ⟨t,rfl⟩ (.cons ru .nil),⟨_,hT2,rfl,_,rfl⟩⟩
   ·rw [upd_ne (Nat.ne_of_lt (Heap.lt_size e))];exact hn
   ·rw [upd_ne (ne_of_none e hTn)];exact e
  ·exact⟨⟨_,ob2⟩,src.keep fun o e=>(hs2.2 _ (nne (by lia))).trans e⟩
  ·have cn:c≠s.heap.objs.size:=by
    simp only [List.mem_cons,List.not_mem_nil,or_false] at hc
    rcases hc with rfl|rfl <;> exact nne (by lia)
   rw [upd_ne cn];exact (hf c hc).1
 done:=by
  intro X hP hw hK hc i pins s σ H E I hf st hg
  subst hP hw hK
  obtain ⟨xs,qx,hend⟩:=hg
  obtain ⟨is1,r1,s1,_⟩:=I.sq qx
  have e1:=r1.length
  refine pyNext_en_end (I.ok.hd hc) st s1 (by simp;lia) fun h' off=>⟨rfl,?_⟩
  have off2:Off [n+1,n] s.heap h':=fun c o hc e=>off c o (fun z=>hc (by simp only [List.mem_cons,List.not_mem_nil,or_false] at z ⊢;exact z.symm)) e
  exact Inv.off (s:=s) (t':=s.toks) I hf off2 (I.hok.off (fun c hc=>(hf c hc).1) off2) (fun _ _ _ _ q=>q) fun _ _ q=>q
 self:=fun _ _ _ _ _ st h=>by
  obtain ⟨last,ob⟩:=st.ob
  exact wpAny_pyIter_enum ob h
section
variable {X:Cx}
noncomputable def iEnum (K:PySem.W.Frag) (k:Bool) (ta:TA):TI:=fun σ H R=>ta σ H fun vs H1=>∃ a,vs=[.ref a]∧(∃ xs,Sq k K H1 a xs)∧R (Itn K k a) H1
theorem pi_enum (k:Bool) {es:List Expr} {kk:Nat} {tpos:Pos} {a:Expr} {ta:TA} {p pos:Pos} (hg:Gl X "enumerate") (hm:X.mg "enumerate"=none) (ha:PA X [a] ta) (hs:starEach [a] X.env=[(false,eval a X.env)]:=by rfl) :
  PI X (.Tuple es kk tpos) (.Call (.Name "enumerate" p) [a] [] pos) (iEnum X.K k ta):=by
 intro pins s σ H R I h
 refine Call_ (ld_blt I hg hm boot_enumerate (PyProof.Rows.callWith_type1 (thn (ha pos pins s σ H _ I h) fun us s1 ⟨vs,H1,I1,r1,q1⟩=>?_) (by rw [hs];rfl) (by rfl)))
 obtain ⟨a',e,⟨xs,qx⟩,q⟩:=q1
 subst e
 obtain ⟨u,rfl,ru⟩:=vals1 r1
 cases ru
 obtain ⟨is1,r1,s1',_⟩:=I1.sq qx
 refine callType_new PySem.F.called_enumerate (by decide) (PySem.F.typeCall_enumerate_1 _) (PySem.F.newCall_enumerate_1 _) (fun obj=>PySem.F.args_object_init_2 obj _) PySem.F.entry_enumerate_new (en_made k a' is1.toArray) ⟨s1',?_⟩
 have z1:(s1.heap.push (itObj k a')).objs.size=s1.heap.objs.size+1:=Heap.size_push ..
 have g2:(eh2 k s1.heap a').get? (s1.heap.objs.size+1)=some { cls:=.type "enumerate",data:=.fields #[.none,.bool false,.ref s1.heap.objs.size,rawInt 0,.none,.none] }:=by rw [← z1];exact Heap.get?_push_size _ rfl
 have g1:(eh2 k s1.heap a').get? s1.heap.objs.size=some (itObj k a'):=Heap.get?_push_of_some _ (Heap.get?_push_size _ (by cases k <;> rfl))
 have old:∀ c o,s1.heap.get? c=some o→(eh2 k s1.heap a').get? c=some o:=fun c o x=>Heap.get?_push_of_some _ (Heap.get?_push_of_some _ x)
 have Z:En k s1.heap.objs.size a' 0 (eh2 k s1.heap a'):=⟨⟨_,g2⟩,itObj_at g1⟩
 show _∧_
 refine⟨⟨_,g2,rfl⟩,wpAny_pyIter_enum g2 ?_⟩
 refine⟨_,_,_,_,H1,rfl,I1.kept (t':=s1.toks) old,turn_en s1.heap.objs.size a' s1'.lt,Z,fun c hc=>?_,q⟩
 have hcl:s1.heap.objs.size≤c:=by
  simp only [List.mem_cons,List.not_mem_nil,or_false] at hc
  rcases hc with rfl|rfl <;> first|exact Nat.le_add_right _ _|exact Nat.le_refl _
 exact I1.fpOk hcl (I1.hok.fresh hcl)
theorem kpi_enum (K:PySem.W.Frag) (hK:X.K=K) (k:Bool) {es:List Expr} {kk:Nat} {tpos:Pos} {a:Expr} {ta:TA} {p pos:Pos} (hg:Gl X "enumerate") (hm:X.mg "enumerate"=none) (ha:PA X [a] ta) (hs:starEach [a] X.env=[(false,eval a X.env)]:=by rfl) :
  PI X (.Tuple es kk tpos) (.Call (.Name "enumerate" p) [a] [] pos) (iEnum K k ta):=hK ▸ pi_enum k hg hm ha hs
end
section
variable {K:PySem.W.Frag} {H:Hp} {σ:St} {D:Ends}
noncomputable def rItN (K:PySem.W.Frag) (k:Bool):List V→Hp→(It→Hp→Prop)→Prop:=fun vs H R=>∃ a,vs=[.ref a]∧(∃ xs,Sq k K H a xs)∧R (Itn K k a) H
theorem r_ienum {k:Bool} {ts:TA} {R:It→Hp→Prop} (h:ts σ H fun vs H1=>rItN K k vs H1 R):iEnum K k ts σ H R:=h
theorem r_isn {k:Bool} {a:Addr} {xs:List V} {R:It→Hp→Prop} (e:Sq k K H a xs) (h:R (Itn K k a) H):rItN K k [.ref a] H R:=⟨a,rfl,⟨_,e⟩,h⟩
end
end L2
namespace L2
open PySem PySem.Spec PyProof.Rows
inductive RowsL (K:PySem.W.Frag) (H:Hp):List V→List (List Int)→Prop where
 | nil:RowsL K H [] []
 | cons {a:Addr} {r:List Int} {xs:List V} {rs:List (List Int)} (h:SqT K H a (r.map V.int)) (t:RowsL K H xs rs):RowsL K H (.ref a::xs) (r::rs)
namespace RowsL
variable {K:PySem.W.Frag} {H H':Hp}
theorem length:∀ {xs:List V} {rs:List (List Int)},RowsL K H xs rs→rs.length=xs.length
 | _,_,.nil=>rfl
 | _,_,.cons _ t=>by rw [List.length_cons,List.length_cons,t.length]
theorem get:∀ {xs:List V} {rs:List (List Int)} {i:Nat} {x:V},RowsL K H xs rs→xs[i]?=some x→∃ a r,x=.ref a∧SqT K H a (r.map V.int)∧rs[i]?=some r
 | _,_,_,_,.nil,h=>by simp at h
 | _,_,0,_,.cons (a:=a) (r:=r) h _,e=>by
  simp at e
  exact⟨a,r,e.symm,h,rfl⟩
 | _,_,i+1,_,.cons _ t,e=>by
  obtain ⟨a,r,h1,h2,h3⟩:=get (i:=i) t (by simpa using e)
  exact⟨a,r,h1,h2,by simpa using h3⟩
theorem same:∀ {xs:List V} {rs:List (List Int)},RowsL K H xs rs→Same H H'→RowsL K H' xs rs
 | _,_,.nil,_=>.nil
 | _,_,.cons h t,s=>.cons (s.at h) (t.same s)
theorem append:∀ {xs ys:List V} {rs qs:List (List Int)},RowsL K H xs rs→RowsL K H ys qs→RowsL K H (xs++ys) (rs++qs)
 | _,_,_,_,.nil,u=>u
 | _,_,_,_,.cons h t,u=>.cons h (t.append u)
theorem snoc {xs:List V} {rs:List (List Int)} {a:Addr} {r:List Int} (t:RowsL K H xs rs) (h:SqT K H a (r.map V.int)):RowsL K H (xs++[.ref a]) (rs++[r]):=t.append (.cons h .nil)
theorem off {l:Addr} {ys zs:List V}:∀ {xs:List V} {rs:List (List Int)},RowsL K H xs rs→H l=some (.lst ys)→RowsL K (upd H l (.lst zs)) xs rs
 | _,_,.nil,_=>.nil
 | _,_,.cons h t,e=>.cons ((rm_sqT h e).imp (fun q=>q.imp (fun q=>by rw [upd_ne (fun z=>by rw [z,rm_at] at q;cases q)];exact rm_same _ _ q) fun ⟨o,q⟩=>⟨o,by rw [upd_ne (fun z=>by rw [z,rm_at] at q;cases q)];exact rm_same _ _ q⟩) id) (t.off e)
theorem tells:∀ {xs:List V} {rs:List (List Int)},RowsL K H xs rs→Tells K H xs (rs.map fun r=>.tuple (r.map PyData.int))
 | _,_,.nil=>.nil
 | _,_,.cons h t=>.cons (Tell.row h) t.tells
end RowsL
theorem upd_sqT {K:PySem.W.Frag} {H:Hp} {l a:Addr} {xs ys zs:List V} (h:SqT K H a xs) (e:H l=some (.lst ys)):SqT K (upd H l (.lst zs)) a xs :=
 (rm_sqT h e).imp (fun q=>q.imp (fun q=>by rw [upd_ne (fun z=>by rw [z,rm_at] at q;cases q)];exact rm_same _ _ q) fun ⟨o,q⟩=>⟨o,by rw [upd_ne (fun z=>by rw [z,rm_at] at q;cases q)];exact rm_same _ _ q⟩) id
section
variable {K:PySem.W.Frag} {H:Hp} {σ:St} {Q:VK} {ix:List (Option Nat)}
theorem comp_rows {J:It} {g:TG} {tt:TT} {te:TE} (t:Nat) (fr:St) (n:Nat) (rs:Nat→List (List Int)) (hpk:pick ix σ=List.replicate t none++fr) (h0:rs 0=[]) (hn:∀ i,(rs i).length≤1000)
  (hstop:∀ H',Same H H'→J.stop n H') (hgo:∀ i H',i<n→Same H H'→J.go i H')
  (step:∀ i x H' H2 own,own.length=t→i<n→Same H H'→J.yld i H' x H2→∀ (Qy:St→VK) (Qn:St→Hp→Prop),
   (∀ own2 a r H5,own2.length=t→Same H' H5→SqT K H5 a (r.map V.int)→rs (i+1)=rs i++[r]→Qy (own2++fr) (.ref a) H5)→(∀ own2 H4,own2.length=t→Same H' H4→rs (i+1)=rs i→Qn (own2++fr) H4) →
   g x (own++fr) H2 fun σ2 H3=>tt σ2 H3 fun b H4=>if b=true then te σ2 H4 (Qy σ2) else Qn σ2 H4)
  (hQ:∀ l H' ys,H l=none→Same H H'→H' l=some (.lst ys)→RowsL K H' ys (rs n)→Q (.ref l) H'):CompGoal ix g tt te σ Q J H:=by
 intro l hl
 refine⟨fun i m σ1 ys H'=>m=n - i∧i≤n∧(∃ own:St,own.length=t∧σ1=own++fr)∧Same H H'∧H' l=some (.lst ys)∧RowsL K H' ys (rs i),⟨n,by simp,Nat.zero_le _,⟨_,List.length_replicate,hpk⟩,Same.upd_new hl,upd_same,by rw [h0];exact .nil⟩,?_⟩
 rintro i m σ1 ys H' ⟨rfl,hi,⟨own,ho,rfl⟩,hs,hl',hr⟩
 refine⟨hl',?_⟩
 by_cases hlt:i<n
 ·refine .inr ⟨hgo i H' hlt hs,n - (i+1),by lia,fun x H2 hy=>step i x H' H2 own ho hlt hs hy _ _ (fun own2 a r H5 ho2 s5 ha er=>?_) fun own2 H4 ho2 s4 er=>?_⟩
  ·have l5:=s5 _ _ hl'
   refine⟨l5,Nat.lt_of_le_of_lt (by rw [← hr.length];exact hn i) (small1000 (Nat.le_refl 1000)),rfl,hlt,⟨own2,ho2,rfl⟩,fun b o e=>?_,upd_same,?_⟩
   ·rw [upd_ne (ne_of_none e hl)]
    exact s5 _ _ (hs _ _ e)
   ·rw [er]
    exact ((hr.same s5).off l5).snoc (upd_sqT ha l5)
  ·exact⟨rfl,hlt,⟨own2,ho2,rfl⟩,hs.trans s4,s4 _ _ hl',by rw [er];exact hr.same s4⟩
 ·obtain rfl:i=n:=by lia
  exact .inl ⟨hstop H' hs,hQ l H' ys hl hs hl' hr⟩
end
end L2
namespace L2
open PySem PySem.Spec PyProof.Rows PySem.W
noncomputable def ExcM (h:Heap) (H:Hp) (h0:Heap) (ps:List (Addr×Obj)) (L a C:Addr):Prop:=∃ oe vs T oT ts,h.get? a=some oe∧oe.cls=.ref C∧oe.dict=none∧oe.data=.fields vs∧1<vs.size∧vs[1]?=some (.ref T)∧T≠a∧h.get? T=some oT∧oT.data=.fields ts∧ts[3]?=some (rawInt L) ∧
 H a=none∧(h0.get? a=none∧∀ p∈ps,p.1≠a)∧H T=none∧h0.get? T=none∧∀ p∈ps,p.1≠T
noncomputable def XM (X:Cx) (EX:EXT):Value→Shared→Prop:=fun e s'=>∃ a C σ' H',e=.ref a∧Inv X.nox [] σ' H' s'∧ExcM s'.heap H' X.s₀.heap X.pn X.env.locals a C∧EX C σ' H'
noncomputable def XP (X:Cx) (EX:EXT):Value→Shared→Prop:=fun e s'=>XW X EX e s'∨XM X EX e s'
end L2
set_option maxRecDepth 100000
namespace L2
open PySem PySem.Spec PyProof.Rows
section
variable {K:PySem.W.Frag} {H:Hp} {Q:VK} {σ:St}
theorem cutV_hi {xs:List V} {j:Nat}:cutV xs none (some (j:Int))=xs.take j:=by
 unfold cutV
 rw [HT.sIx_none,HT.sIx_nat,Nat.sub_zero,List.drop_zero]
 by_cases h:j≤xs.length
 ·rw [Nat.min_eq_left h]
 ·rw [Nat.min_eq_right (by lia),List.take_of_length_le (by lia),List.take_of_length_le (by lia)]
theorem eqv_ints:∀ (r q:List Int),PyData.eqvAll (r.map PyData.int) (q.map PyData.int)=decide (r=q)
 | [],[]=>rfl
 | [],_::_=>rfl
 | _::_,[]=>rfl
 | x::r,y::q=>by
  have h:=eqv_ints r q
  simp only [List.map_cons,PyData.eqvAll,h,PyData.eqv]
  by_cases e:x=y
  ·subst e;by_cases e2:r=q <;> simp [e2]
  ·simp [e]
theorem eqv_row (r q:List Int):PyData.eqv (.tuple (r.map PyData.int)) (.tuple (q.map PyData.int))=decide (r=q):=by
 rw [← eqv_ints r q]
 simp [PyData.eqv]
theorem eqv_rows:∀ (rs qs:List (List Int)),PyData.eqvAll (rs.map fun r=>.tuple (r.map PyData.int)) (qs.map fun r=>.tuple (r.map PyData.int))=decide (rs=qs)
 | [],[]=>rfl
 | [],_::_=>rfl
 | _::_,[]=>rfl
 | x::r,y::q=>by
  have h:=eqv_rows r q
  simp only [List.map_cons,PyData.eqvAll,h,eqv_row]
  by_cases e:x=y
  ·subst e;by_cases e2:r=q <;> simp [e2]
  ·simp [e]
theorem eqv_listR (rs qs:List (List Int)):PyData.eqv (.list (rs.map fun r=>.tuple (r.map PyData.int))) (.list (qs.map fun r=>.tuple (r.map PyData.int)))=decide (rs=qs):=by
 rw [← eqv_rows rs qs]
 simp [PyData.eqv]
theorem lay_ints:∀ r:List Int,PyData.canLayAll0 (r.map PyData.int)=true
 | []=>rfl
 | _::r=>by simp only [List.map_cons,PyData.canLayAll0,lay_ints r,PyData.canLay0,Bool.and_self]
theorem lay_row (r:List Int):PyData.canLay0 (.tuple (r.map PyData.int))=true:=by simp only [PyData.canLay0,lay_ints]
theorem lay_rows:∀ rs:List (List Int),PyData.canLayAll0 (rs.map fun r=>.tuple (r.map PyData.int))=true
 | []=>rfl
 | r::rs=>by simp only [List.map_cons,PyData.canLayAll0,lay_rows rs,lay_row,Bool.and_self]
theorem deep_ints:∀ r:List Int,PyData.depthAll (r.map PyData.int)≤1
 | []=>by simp [PyData.depthAll]
 | _::r=>by
  have:=deep_ints r
  simp only [List.map_cons,PyData.depthAll,PyData.depth]
  lia
theorem deep_row (r:List Int):PyData.depth (.tuple (r.map PyData.int))≤2:=by
 have:=deep_ints r
 simp only [PyData.depth]
 lia
theorem deep_rows:∀ rs:List (List Int),PyData.depthAll (rs.map fun r=>.tuple (r.map PyData.int))≤2
 | []=>by simp [PyData.depthAll]
 | r::rs=>by
  have:=deep_rows rs
  have:=deep_row r
  simp only [List.map_cons,PyData.depthAll]
  lia
theorem shaped_row (r:List Int):SeqAt.shaped (.tuple (r.map PyData.int))=true:=by
 unfold SeqAt.shaped
 rw [lay_row,decide_eq_true (Nat.le_trans (deep_row r) (by decide))];rfl
theorem shaped_rows (rs:List (List Int)):SeqAt.shaped (.list (rs.map fun r=>.tuple (r.map PyData.int)))=true:=by
 unfold SeqAt.shaped
 have h:PyData.canLay0 (.list (rs.map fun r=>PyData.tuple (r.map PyData.int)))=true:=by simp only [PyData.canLay0,lay_rows]
 have d:PyData.depth (.list (rs.map fun r=>PyData.tuple (r.map PyData.int)))≤64:=by
  have:=deep_rows rs
  simp only [PyData.depth]
  lia
 rw [h,decide_eq_true d];rfl
end
end L2
set_option maxRecDepth 100000
set_option maxRecDepth 100000
set_option maxRecDepth 100000
namespace L2
open PySem PySem.Spec PyProof.Rows
section
variable {K:PySem.W.Frag} {H H':Hp}
theorem rows_of_pairs:∀ {zs:List (List Int×V)},(∀ p∈zs,∃ a,p.2=.ref a∧SqT K H a (p.1.map V.int))→RowsL K H (zs.map Prod.snd) (zs.map Prod.fst)
 | [],_=>.nil
 | p::zs,h=>by
  obtain ⟨a,e,q⟩:=h p (List.mem_cons_self ..)
  rw [List.map_cons,List.map_cons,e]
  exact .cons q (rows_of_pairs fun z hz=>h z (List.mem_cons_of_mem _ hz))
theorem RowsL.pair:∀ {xs:List V} {rs:List (List Int)},RowsL K H xs rs→∀ p∈rs.zip xs,∃ a,p.2=.ref a∧SqT K H a (p.1.map V.int)
 | _,_,.nil=>fun p hp=>by cases hp
 | _,_,.cons h t=>fun p hp=>by
  rcases List.mem_cons.mp hp with rfl|hp
  ·exact⟨_,rfl,h⟩
  ·exact t.pair p hp
theorem sorted_rows {xs ys:List V} {rs:List (List Int)} (f:List Int→Int) (hr:RowsL K H xs rs) (so:SortedBy false (rs.map f) xs ys) (s:Same H H'):∃ qs,RowsL K H' ys qs∧qs.Perm rs∧qs.Pairwise fun a b=>f a≤f b:=by
 obtain ⟨ps,hp,rfl,hw⟩:=so
 have ez:(rs.map f).zip xs=(rs.zip xs).map fun p=>(f p.1,p.2):=by rw [List.zip_map_left];rfl
 obtain ⟨zs,pz,rfl⟩:=Mth.perm_of_map hp ez
 refine⟨zs.map Prod.fst,?_,?_,?_⟩
 ·rw [List.map_map]
  exact (rows_of_pairs (zs:=zs) fun p h=>hr.pair p (pz.mem_iff.mp h)).same s
 ·have:=pz.map Prod.fst
  rw [List.map_fst_zip (by rw [hr.length];exact Nat.le_refl _)] at this
  exact this
 ·rw [List.pairwise_map] at hw ⊢
  exact hw.imp fun h=>h
end
noncomputable def rk (r:List Int):List Key:=r.map Sum.inl
end L2
set_option maxRecDepth 100000
set_option maxRecDepth 100000
namespace L2
open PySem PySem.Spec PyProof.Rows
inductive KeysL (K:PySem.W.Frag) (H:Hp):List V→List (List Int×Int)→Prop where
 | nil:KeysL K H [] []
 | cons {a w:Addr} {r:List Int} {m:Int} {xs:List V} {ks:List (List Int×Int)} (h:SqT K H a [.ref w,.int m]) (hw:SqT K H w (r.map V.int)) (t:KeysL K H xs ks):KeysL K H (.ref a::xs) ((r,m)::ks)
namespace KeysL
variable {K:PySem.W.Frag} {H H':Hp}
theorem length:∀ {xs:List V} {ks:List (List Int×Int)},KeysL K H xs ks→ks.length=xs.length
 | _,_,.nil=>rfl
 | _,_,.cons _ _ t=>by rw [List.length_cons,List.length_cons,t.length]
theorem get:∀ {xs:List V} {ks:List (List Int×Int)} {i:Nat} {x:V},KeysL K H xs ks→xs[i]?=some x→∃ a w k,x=.ref a∧SqT K H a [.ref w,.int k.2]∧SqT K H w (k.1.map V.int)∧ks[i]?=some k
 | _,_,_,_,.nil,h=>by simp at h
 | _,_,0,_,.cons (a:=a) (w:=w) (r:=r) (m:=m) h hw _,e=>by
  simp at e
  exact⟨a,w,(r,m),e.symm,h,hw,rfl⟩
 | _,_,i+1,_,.cons _ _ t,e=>by
  obtain ⟨a,w,k,h1,h2,h3,h4⟩:=get (i:=i) t (by simpa using e)
  exact⟨a,w,k,h1,h2,h3,by simpa using h4⟩
theorem same:∀ {xs:List V} {ks:List (List Int×Int)},KeysL K H xs ks→Same H H'→KeysL K H' xs ks
 | _,_,.nil,_=>.nil
 | _,_,.cons h hw t,s=>.cons (s.at h) (s.at hw) (t.same s)
theorem append:∀ {xs ys:List V} {ks js:List (List Int×Int)},KeysL K H xs ks→KeysL K H ys js→KeysL K H (xs++ys) (ks++js)
 | _,_,_,_,.nil,u=>u
 | _,_,_,_,.cons h hw t,u=>.cons h hw (t.append u)
theorem snoc {xs:List V} {ks:List (List Int×Int)} {a w:Addr} {r:List Int} {m:Int} (t:KeysL K H xs ks) (h:SqT K H a [.ref w,.int m]) (hw:SqT K H w (r.map V.int)):KeysL K H (xs++[.ref a]) (ks++[(r,m)]):=t.append (.cons h hw .nil)
theorem off {l:Addr} {ys zs:List V}:∀ {xs:List V} {ks:List (List Int×Int)},KeysL K H xs ks→H l=some (.lst ys)→KeysL K (upd H l (.lst zs)) xs ks
 | _,_,.nil,_=>.nil
 | _,_,.cons h hw t,e=>.cons (upd_sqT h e) (upd_sqT hw e) (t.off e)
end KeysL
theorem range_map {α β:Type} (ks:List α) (d:α) (g:α→β):(List.range ks.length).map (fun i=>g (ks.getD i d))=ks.map g:=by
 apply List.ext_getElem
 ·simp
 ·intro i h1 h2
  have h:i<ks.length:=by simpa using h1
  simp [List.getD,List.getElem?_eq_getElem h]
theorem rd_compL {K:PySem.W.Frag} {a:Addr} {xs:List V} {H1:Hp} {ix:List (Option Nat)} {σ:St} {te:TE} {Q:VK} (fr:St) (f:Nat→V) (hpk:pick ix σ=none::fr) (ha:SqL K H1 a xs) (hn:xs.length≤1000000)
  (step:∀ (i:Nat) x H' (Qc:VK),xs[i]?=some x→Same H1 H'→(∀ H5,Same H' H5→Qc (f i) H5)→te (some x::fr) H' Qc)
  (hQ:∀ l H',H1 l=none→Same H1 H'→H' l=some (.lst ((List.range xs.length).map f))→Q (.ref l) H'):CompGoal ix (gName 0) (fun _ H Q=>Q true H) te σ Q (Itl K a) H1:=by
 refine rd_comp1 fr xs.length f hpk hn (fun H' s=>⟨xs,s.seq ha,Nat.le_refl _⟩) (fun i H' hi s=>⟨xs,xs[i],s.seq ha,List.getElem?_eq_getElem hi⟩) (fun i x H' H2 Qc hi s hy kc=>?_) hQ
 obtain ⟨rfl,e⟩:=hy
 exact step i x _ Qc (e xs (s.seq ha)) s kc
end L2
set_option maxRecDepth 100000
namespace L2
open PySem PySem.Spec PyProof.Rows
section
variable {X:Cx} {pins:List (Addr×Obj)} {σ:St} {H:Hp} {s:Shared}
theorem sort_restC {a kS f:Addr} {e1:Nat} {b:Bool} {vs:List Value} {xs:List V} {kz:List Int} {P:PySem.Fin→Shared→Prop} {E:Value→Shared→Prop}
  (KC:∀ (pins':List (Addr×Obj)) (H':Hp) (s':Shared) (i:Nat) (x:V) (u:Value) (n:Int),(∀ p∈pins,p∈pins')→xs[i]?=some x→kz[i]?=some n→Same H H'→RelV x u→Inv X pins' σ H' s'→wpAny (model X.prog X.w) X.A.in1.in1 (call (.ref f) [u]) (EP X pins' σ fun v H''=>v=.int n∧Same H' H'') (fun _ _=>False) s')
  (I:Inv X ((pins++[(a,seqObj "list" #[] e1)])++[(kS,seqObj "list" #[] 0)]) σ H s) (h0:X.s₀.heap.get? kS=none) (hc:∀ x c,X.env.cells.lookup x=some c→c≠kS) (hp:∀ p∈X.pn++(pins++[(a,seqObj "list" #[] e1)]),p.1≠kS)
  (hv:Vals xs vs) (hlen:kz.length=vs.length) (h64:vs.length<64)
  (done:∀ H' s' kA e,Inv X ((pins++[(a,seqObj "list" #[] e1)])++[(kS,seqObj "list" kA e)]) σ H' s'→Same H H'→IntsAre kA.toList kz→wpAny (model X.prog X.w) X.A.in1.in1 (ksk_end a b vs.toArray e1 (.ref kS) kA) P E s') :
  wpAny (model X.prog X.w) X.A.in1.in1 (ksk_rest a (.ref f) b vs.toArray e1 (.ref kS)) P E s:=by
 have lens:xs.length=vs.length:=hv.length
 let Wk:Nat→Shared→Prop:=fun i s'=>∃ H' kA e,Inv X ((pins++[(a,seqObj "list" #[] e1)])++[(kS,seqObj "list" kA e)]) σ H' s'∧Same H H'∧IntsAre kA.toList (kz.take i)
 have start:Wk 0 s:=⟨H,#[],0,I,Same.refl _,by rw [List.take_zero];exact .nil⟩
 have last:∀ s',Wk (0+vs.length) s'→wpAny (model X.prog X.w) X.A.in1.in1 (do let keys ← Builtin.List.listItems (.ref kS);ksk_end a b vs.toArray e1 (.ref kS) keys) P E s':=by
  rintro s' ⟨H',kA,e,I',sm,hk⟩
  rw [Nat.zero_add,List.take_of_length_le (Nat.le_of_eq hlen)] at hk
  exact wpAny_bind (listItems_at (top_pin I') rfl (done H' s' kA e I' sm hk))
 rw [ksk_rest]
 refine wpAny_bind (wpAny_rule ?_)
 rw [List.forIn_toArray]
 refine wpAny_bind (ksk_fold Wk vs 0 s start (fun j u s' hu w=>?_) last)
 rw [Nat.zero_add] at w ⊢
 obtain ⟨H',kA,e,I',sm,hk⟩:=w
 have hj:=(List.getElem?_eq_some_iff.mp hu).1
 have few:kA.size+1≤64:=by
  have q:=hk.length
  rw [Array.length_toList,List.length_take] at q
  lia
 obtain ⟨u',eu,ru⟩:=hv.get (List.getElem?_eq_getElem (lens.symm ▸ hj:j<xs.length))
 cases hu.symm.trans eu
 have hn:kz[j]?=some (kz[j]'(hlen.symm ▸ hj)):=List.getElem?_eq_getElem _
 refine wpAny_bind (wpAny_attempt (wpAny_mono (KC _ H' s' j _ _ _ (fun p hp=>List.mem_append_left _ (List.mem_append_left _ hp)) (List.getElem?_eq_getElem _) hn sm ru I') ?_ fun _ _ no=>no.elim))
 rintro _ s2 ⟨y,H2,I2,ry,rfl,sm2⟩
 obtain ⟨t2,rfl⟩:=ry
 have at2:=top_pin I2
 refine wpAny_bind (listUpdate_at at2 rfl ?_ (by rw [sizeLine_eq];lia) (by rw [Array.size_push,sizeLine_eq];lia))
 exact wpAny_pure ⟨rfl,H2,_,_,I2.wrote h0 hc hp (Heap.SameBut.update _ _ _) (get?_update_seq at2 _) (fun _ z=>nomatch z),sm.trans sm2,took hk hn⟩
theorem sort_treeC {a f:Addr} {n:Nat} {b:Bool} {vs:List Value} {xs:List V} {kz:List Int} {P:PySem.Fin→Shared→Prop} {E:Value→Shared→Prop}
  (KC:∀ (pins':List (Addr×Obj)) (H':Hp) (s':Shared) (i:Nat) (x:V) (u:Value) (n:Int),(∀ p∈pins,p∈pins')→xs[i]?=some x→kz[i]?=some n→Same H H'→RelV x u→Inv X pins' σ H' s'→wpAny (model X.prog X.w) X.A.in1.in1 (call (.ref f) [u]) (EP X pins' σ fun v H''=>v=.int n∧Same H' H'') (fun _ _=>False) s') (I:Inv X pins σ H s) (ho:s.heap.get? a=some (seqObj "list" vs.toArray n)) (hfp:FpOk X pins H a) (hs0:X.s₀.heap.objs.size≤a)
  (hv:Vals xs vs) (hlen:kz.length=vs.length) (h64:vs.length<64)
  (hP:∀ s' H' ys,Same H H'→H' a=none→Inv X pins σ (upd H' a (.lst ys)) s'→SortedBy b kz xs ys→P (.done (.ret .none)) s') :
  wpAny (model X.prog X.w) X.A.in1.in1 (ksk_tree a (.ref f) b) P E s:=by
 obtain ⟨g0,g1,g2,_,g4,g5⟩:=hfp
 have a0:X.s₀.heap.get? a=none:=Heap.get?_none_of_le hs0
 have s1:=Heap.SameBut.update s.heap a (Obj.mapSeq fun _=>(#[]:Array Value))
 obtain ⟨e1,ho1⟩:∃ e1,(s.heap.update a (Obj.mapSeq fun _=>(#[]:Array Value))).get? a=some (seqObj "list" #[] e1):=⟨_,get?_update_seq ho fun _=>#[]⟩
 have I0:Inv X (pins++[(a,seqObj "list" vs.toArray n)]) σ H s:=I.pins_of fun p hp=>(List.mem_append.mp hp).elim (fun z=>I.pin p (List.mem_append_right _ z)) fun z=>by
  rw [List.mem_singleton.mp z]
  exact⟨ho,g0,g1,g2,fun v z=>nomatch z⟩
 have I1:Inv X (pins++[(a,seqObj "list" #[] e1)]) σ H { s with heap:=s.heap.update a (Obj.mapSeq fun _=>(#[]:Array Value)),toks:=s.toks }:=I0.wrote a0 g4 g5 s1 ho1 fun v z=>nomatch z
 unfold ksk_tree
 refine wpAny_bind (listItems_at ho rfl ?_)
 refine wpAny_bind (listUpdate_at ho rfl ?_ (by rw [List.size_toArray,sizeLine_eq];lia) (Nat.zero_le _))
 refine wpAny_bind (seqEpoch_at ho1 rfl ?_)
 refine wpAny_bind (wpAny_newTuple ?_ (by show vs.length≤_;rw [sizeLine_eq];lia))
 refine wpAny_bind (wpAny_newList ?_ (Nat.zero_le _))
 refine wpAny_holding ?_
 generalize hh1:s.heap.update a (Obj.mapSeq fun _=>(#[]:Array Value))=h1 at I1
 have lk:h1.objs.size≤(h1.push (seqObj "tuple" vs.toArray 0)).objs.size:=by rw [size_push'];exact Nat.le_succ _
 have I2:Inv X (pins++[(a,seqObj "list" #[] e1)]) σ H { s with heap:=(h1.push (seqObj "tuple" vs.toArray 0)).push (seqObj "list" #[] 0),toks:=s.toks } :=
  I1.kept (t':=s.toks) fun b o q=>Heap.get?_push_of_some _ (Heap.get?_push_of_some _ q)
 have hkn:H (h1.push (seqObj "tuple" vs.toArray 0)).objs.size=none:=I1.hok.fresh lk
 obtain ⟨_,q1,q2,_,q4,q5⟩:FpOk X (pins++[(a,seqObj "list" #[] e1)]) H (h1.push (seqObj "tuple" vs.toArray 0)).objs.size:=I1.fpOk lk hkn
 have k0:X.s₀.heap.get? (h1.push (seqObj "tuple" vs.toArray 0)).objs.size=none:=Heap.get?_none_of_le (Nat.le_trans I1.sz lk)
 have I3:Inv X ((pins++[(a,seqObj "list" #[] e1)])++[((h1.push (seqObj "tuple" vs.toArray 0)).objs.size,seqObj "list" #[] 0)]) σ H { s with heap:=(h1.push (seqObj "tuple" vs.toArray 0)).push (seqObj "list" #[] 0),toks:=s.toks } :=
  I2.pins_of fun p hp=>(List.mem_append.mp hp).elim (fun z=>I2.pin p (List.mem_append_right _ z)) fun z=>by
   rw [List.mem_singleton.mp z]
   exact⟨Heap.get?_push_size _ rfl,hkn,q1,q2,fun v z=>nomatch z⟩
 refine sort_restC KC I3 k0 q4 q5 hv hlen h64 fun H' s' kA e I' sm hk=>?_
 obtain ⟨_,an,_⟩:=I'.pin (a,seqObj "list" #[] e1) (List.mem_append_right _ (List.mem_append_left _ (List.mem_append_right _ (List.mem_singleton.mpr rfl))))
 exact sort_end I' ⟨a0,g4,g5⟩ ⟨k0,q4,q5⟩ hk hv hlen h64 fun h' tk ys J so=>hP _ H' ys sm an J so
theorem call_sortedKC {l f:Addr} {xs:List V} {kz:List Int} {Q:VK}
  (KC:∀ (pins':List (Addr×Obj)) (H':Hp) (s':Shared) (i:Nat) (x:V) (u:Value) (n:Int),(∀ p∈pins,p∈pins')→xs[i]?=some x→kz[i]?=some n→Same H H'→RelV x u→Inv X pins' σ H' s'→wpAny (model X.prog X.w) X.A.in1.in1 (call (.ref f) [u]) (EP X pins' σ fun v H''=>v=.int n∧Same H' H'') (fun _ _=>False) s') (I:Inv X pins σ H s) (hs:SqL X.K H l xs) (hlen:kz.length=xs.length) (h64:xs.length<64)
  (hQ:∀ p H' ys,Same H H'→H' p=some (.lst ys)→SortedBy false kz xs ys→Q (.ref p) H') :
  wpAny (model X.prog X.w) X.A (call (.builtin "sorted") [.ref l] [(Str.ofString "key",.ref f)]) (EP X pins σ Q) X.xe s:=by
 obtain ⟨vs,hv,pl,_⟩:=I.list hs
 have hl:s.heap.IsList l vs.toArray:=by
  obtain ⟨o,n,h1,h2,h3⟩:=pl
  exact⟨o,h1,h2,n,h3.2⟩
 have hvl:vs.length<64:=by rw [← hv.length];exact h64
 have few:vs.length≤sizeLine:=by rw [sizeLine_eq];lia
 refine call_function_entry_kw kind_sorted plain_sorted entry_sorted (ksk_s1 _ _) ?_
 rw [Builtin.«sorted»]
 refine wpAny_bind (m:=checkCount "sorted" 1 1 _) (wpAny_pure (wpAny_bind (collect_list hl ?_ few)))
 generalize hc:(s.heap.push (seqObj "list" #[] 0)).update s.heap.objs.size (Obj.mapSeq (·++vs.toArray))=hcol
 have ecol:hcol.objs.size=s.heap.objs.size+1:=by rw [← hc,Heap.size_update,size_push']
 have kcol:∀ b o,s.heap.get? b=some o→hcol.get? b=some o:=fun b o q=>by
  rw [← hc,(Heap.SameBut.update _ _ _).2 b (Nat.ne_of_lt (Heap.lt_size q))]
  exact Heap.get?_push_of_some _ q
 have low:s.heap.objs.size≤hcol.objs.size:=by lia
 have I2:Inv X pins σ H { s with heap:=hcol.push (seqObj "list" vs.toArray 0),toks:=s.toks }:=I.kept fun b o q=>Heap.get?_push_of_some _ (kcol b o q)
 have own:(hcol.push (seqObj "list" vs.toArray 0)).get? hcol.objs.size=some (seqObj "list" vs.toArray 0):=Heap.get?_push_size _ rfl
 refine wpAny_bind (wpAny_newList ?_ few)
 refine wpAny_bind (wpAny_holding (wpAny_call_entry_kw (s:={ s with heap:=hcol.push (seqObj "list" vs.toArray 0) }) slot_list_sort ⟨_,own,rfl⟩ entry_list_sort ?_ (ksk_l1 _ _)))
 show wpAny (model X.prog X.w) X.A.in1.in1 (Builtin.«list.sort» ⟨[.ref hcol.objs.size],[(Str.ofString "key",.ref f)]⟩) _ _ _
 rw [ksk_t1]
 refine sort_treeC KC I2 own (I.fpOk low (I.hok.fresh low)) (Nat.le_trans I.sz low) hv (hlen.trans hv.length) hvl fun s' H' ys sm hn J so=>⟨_,rfl,?_⟩
 exact wpAny_pure ⟨_,rfl,.ref hcol.objs.size,_,J,rfl,hQ _ _ ys (sm.trans (Same.upd_new hn)) upd_same so⟩
end
end L2
set_option maxRecDepth 100000
namespace L2
open PySem PySem.Spec PyProof.Rows PySem.W
noncomputable abbrev lamCx (X:Cx) (A:Around) (N:List Str) (qual:Str) (scope:Scope) (f:Addr) (cd:Value) (s:Shared) (H:Hp):Cx :=
 { X with A:=A.deeper (envX qual scope s.heap.objs.size f cd (clOf X.env.cells scope.names [])),N:=N,s₀:=s,H₀:=H,env:=envX qual scope s.heap.objs.size f cd (clOf X.env.cells scope.names []),outer:=X.stack,stack:=envX qual scope s.heap.objs.size f cd (clOf X.env.cells scope.names [])::X.stack,ex:=[],fn:=fun _=>false,calm:=true,pn:=[],xe:=fun _ _=>False }
section
variable {X:Cx} {pins:List (Addr×Obj)} {σ:St} {H:Hp} {s:Shared}
theorem lam_call {A:Around} {f c':Addr} {qual p:Str} {fns:List Str} {ixs:List (Option Nat)} {params:Arguments} {body:Expr} {scope:Scope} {pm ctv:Value} {x:V} {u:Value} {te:TE} {Q:VK}
  (I:Inv X pins σ H s) (hd:A.handled=none) (hfrm:A.frames=some X.stack) (hroom:A.depth<recursionLimit)
  (ho:s.heap.get? f=some (kla_obj "<lambda>" qual params body scope (clOf X.env.cells scope.names []) pm c' ctv)) (hcd:s.heap.CodeRec (.ref c') qual)
  (hbind:bindArgs (kla_fn "<lambda>" qual params body scope (clOf X.env.cells scope.names []) pm (.ref c') ctv) ⟨[u],[]⟩=pure [(p,u)])
  (hloc:scope.names.lookup p=some .local) (hco:scope.isCoroutine=false) (hgen:scope.isGenerator=false) (hk:scope.kind=.function) (hcell:∀ y∈scope.names,y.2≠.cell)
  (hfr0:(scope.names.all fun y=>!(y.2 == NameKind.free) || (X.env.cells.lookup y.1).isSome)=true) (hix:IxOk X scope fns ixs)
  (he:PE (lamCx X A (p::fns) qual scope f (.ref c') s H) body te) (r:RelV x u) (h:te (some x::pick ixs σ) H Q) :
  wpAny (model X.prog X.w) A (call (.ref f) [u]) (EP X pins σ Q) (fun _ _=>False) s:=by
 have hfr:∀ y∈scope.names,y.2=.free→(X.env.cells.lookup y.1).isSome=true:=fun y hy e=>by
  have z:=List.all_eq_true.mp hfr0 y hy
  rw [e] at z
  simpa using z
 have clsub:∀ x c,(clOf X.env.cells scope.names []).lookup x=some c→X.env.cells.lookup x=some c:=clOf_sub (fun x c q=>by simp at q)
 have clhas:∀ x,scope.names.lookup x=some .free→∃ c,(clOf X.env.cells scope.names []).lookup x=some c:=fun x hx=>by
  have hm:=PySem.mem_of_lookup hx
  exact Option.isSome_iff_exists.mp (clOf_has (.inr ⟨hm,hfr _ hm rfl⟩))
 refine wpAny_call (codeAny_mono (show codeAny _ _ _ (CR CX0 X.stack X.prog X.w H s Q E0) s from ?_) fun r s' hq=>?_)
 ·refine kla_callFunE hroom ho rfl hco hgen rfl hcd ?_
  rw [hbind]
  refine wpAny_pure (wpAny_newFunctionEnv hcell (fun y hy=>by rw [List.mem_singleton.mp hy];exact hloc) (fun h₁ hns hsb=>⟨I.nolimit.fresh _ hsb,?_⟩) hk)
  show codeAny _ _ (.expr body (envX qual scope s.heap.objs.size f (.ref c') (clOf X.env.cells scope.names []))) _ _
  have old:∀ b o,s.heap.get? b=some o→h₁.get? b=some o:=fun b o e=>hsb.extBut b o (Nat.ne_of_lt (Heap.lt_size e)) (Heap.get?_push_of_some _ e)
  have J:Inv (lamCx X A (p::fns) qual scope f (.ref c') s H) [] (some x::pick ixs σ) H { s with heap:=h₁,toks:=s.toks+[(p,u)].length }:=by
   refine⟨⟨I.ok.mod,hk,rfl,rfl,Nat.le_refl _,fun x y c q1 q2=>I.ok.inj x y c (clsub x c q1) (clsub y c q2),fun x hx=>?_,fun x c hf _=>absurd hf Bool.false_ne_true,fun _=>hd,Around.frames_deeper hfrm,.inr ⟨rfl,rfl⟩,fun b hb=>(nomatch hb),I.bs,Nat.le_trans I.ok.bsz I.sz,fun b _ _ hb=>(nomatch hb),fun b hb=>(nomatch hb),I.stack,I.stkFree⟩,
    rfl,I.bare,Un.kept old,⟨_,hns,fun i y v h1 h2 h3=>?_⟩,fun x c q=>?_,I.hok.fresh (Nat.le_refl _),fun x c q=>I.freeC x c (clsub x c q),fun p hp=>(nomatch hp),I.hok.kept old,?_⟩
   ·rcases hx with hx|hx
    ·exact absurd rfl (hcell _ (PySem.mem_of_lookup hx))
    ·exact clhas x hx
   ·match i with
    | 0 =>
     have e1:p=y:=by simpa using h1
     have e2:x=v:=by simpa using h2
     subst e1
     subst e2
     exact⟨u,r,.inl ⟨hloc,by simp⟩⟩
    | i+1 =>
     obtain ⟨j,e1,e2⟩:=pick_get (show (pick ixs σ)[i]?=some (some v) by simpa using h2)
     obtain ⟨a1,a2,a3,a4⟩:=hix.get (show fns[i]?=some y by simpa using h1) e1
     obtain ⟨mX,hnX,hlX⟩:=I.loc
     obtain ⟨u',ru,l⟩:=hlX j y v a1 e2 a2
     refine⟨u',ru,?_⟩
     rcases l with ⟨l1,_⟩|⟨_,c,lc,z⟩
     ·have l1':X.env.scope.names.lookup y=some .local:=l1
      rw [l1'] at a3
      exact absurd a3 (by decide)
     ·obtain ⟨c',hc'⟩:=clhas y a4
      have ec:=clsub y c' hc'
      rw [lc] at ec
      have ec':c=c':=Option.some.inj ec
      subst ec'
      exact .inr ⟨.inr a4,c,hc',z.keeps old⟩
   ·obtain ⟨v,z⟩:=I.cell x c (clsub x c q)
    exact⟨v,z.keeps old⟩
   ·show (some x::pick ixs σ).length=(p::fns).length
    unfold pick
    rw [List.length_cons,List.length_map,List.length_cons,hix.len]
  refine kla_codeExpr (wpAny_mono (he [] _ _ H Q J h) (fun v s' hv=>?_) fun _ _ no=>no.elim)
  obtain ⟨y,H',J',rv,q⟩:=hv
  exact⟨y,H',J'.os,J'.bare,J'.base,J'.hok,rv,q⟩
 ·cases r with
  | error e=>exact hq
  | ok fl =>
   cases fl with
   | ret u=>exact I.after hq
   | next=>exact False.elim hq
   | brk=>exact False.elim hq
   | cont=>exact False.elim hq
end
end L2
set_option maxRecDepth 100000
namespace L2
open PySem PySem.Spec PyProof.Rows PySem.W
noncomputable def SameT (P:Addr) (H H':Hp):Prop:=∀ b o,b≠P→H b=some o→H' b=some o
noncomputable def codeO (c:Addr) (q:Str):HO:=.ext fun h=>h.CodeRec (.ref c) q
noncomputable def TabH (P:Addr) (lp:Pos) (q:Str) (H:Hp):Prop:=∃ ps:Array Value,H P=some (.tbl ps)∧TriplesOk ps.toList∧(codeAmong lp ps.toList=none∨∃ c,codeAmong lp ps.toList=some (.ref c)∧H c=some (codeO c q))
theorem SameT.trans {P:Addr} {H H1 H2:Hp} (a:SameT P H H1) (b:SameT P H1 H2):SameT P H H2:=fun x o n e=>b x o n (a x o n e)
theorem SameT.of {P:Addr} {H H1:Hp} (a:Same H H1):SameT P H H1:=fun x o _ e=>a x o e
theorem TabH.same {P:Addr} {lp:Pos} {q:Str} {H H':Hp} (t:TabH P lp q H) (s:Same H H'):TabH P lp q H':=by
 obtain ⟨ps,h1,h2,h3⟩:=t
 refine⟨ps,s _ _ h1,h2,h3.imp id fun ⟨c,e,z⟩=>⟨c,e,s _ _ z⟩⟩
noncomputable def lamO (f c:Addr) (qual:Str) (params:Arguments) (body:Expr) (scope:Scope) (cl:List (Str×Addr)):HO :=
 .ext fun h=>∃ pm ctv,h.get? f=some (kla_obj "<lambda>" qual params body scope cl pm c ctv)
section
variable {X:Cx} {pins:List (Addr×Obj)} {σ:St} {H:Hp} {s:Shared}
theorem lam_make {c P:Addr} {params:Arguments} {body:Expr} {scope:Scope} {lp:Pos} {Q:VK} (I:Inv X pins σ H s) (T:TabH P lp (X.env.qual ++ "<lambda>") H)
  (hcode:X.env.code=.ref c) (C:CodeHd X.base c P) (hB:X.base.BuiltinsAt X.mg P) (hdef:defaultsOf params X.env=([],[]))
  (hfr0:(scope.names.all fun y=>!(y.2 == NameKind.free) || (X.env.cells.lookup y.1).isSome)=true)
  (h:∀ f c' H',SameT P H H'→TabH P lp (X.env.qual ++ "<lambda>") H'→H' f=some (lamO f c' (X.env.qual ++ "<lambda>") params body scope (clOf X.env.cells scope.names []))→H' c'=some (codeO c' (X.env.qual ++ "<lambda>"))→Q (.ref f) H') :
  wpAny (model X.prog X.w) X.A (eval (.Lambda params body scope lp) X.env) (EP X pins σ Q) X.xe s:=by
 have hfr':∀ p∈scope.names,p.2=.free→∃ c,X.env.cells.lookup p.1=some c:=fun y hy e=>by
  have z:=List.all_eq_true.mp hfr0 y hy
  rw [e] at z
  exact Option.isSome_iff_exists.mp (by simpa using z)
 have hcl:=closure_eq hfr'
 obtain ⟨ps,hP,ht,hc⟩:=T
 have oP:s.heap.get? P=some (tabObj ps):=I.hok P _ hP
 have hgs:s.heap.Ns mainGlobals X.mg:=I.mod.glob.keeps I.bk
 have hB':s.heap.BuiltinsAt X.mg P:=by
  obtain ⟨bm,ob,b1,b2,b3,b4,b5,b6⟩:=hB
  exact⟨bm,ob,b1,b2,b3,b4,I.bk _ _ b5,b6⟩
 have ext1:∀ {h2:Heap} {f c':Addr} {pm ctv:Value} {sc:Scope} {q:Str} {cl:List (Str×Addr)},h2.get? f=some (kla_obj "<lambda>" q params body sc cl pm c' ctv)→∀ {H2:Hp},ObjOk X.prog X.w H2 h2 f (lamO f c' q params body sc cl):=fun {h2 f c' pm ctv sc q cl} e {H2} =>
  ⟨⟨pm,ctv,e⟩,⟨_,e⟩,fun h1 h3 ⟨pm,ctv,z⟩ k=>⟨pm,ctv,k _ z⟩⟩
 refine kla_eval hdef ?_
 rcases hc with hn|⟨c',hc,hcc⟩
 ·have hgP:mainGlobals≠P:=fun q=>by
   obtain ⟨o,es,ep,e,hd,_⟩:=hgs
   rw [q,oP] at e;cases e;cases hd
  refine kla_makeFunction (mg:=X.mg) hcl I.ok.glob hgs hcode (C.keeps I.bk) oP ht hn hgP hB' fun c' ctv h' tk hx hge hlt hrec htb=>?_
  obtain ⟨ob,eob⟩:∃ ob:Obj,ob=kla_obj "<lambda>" (X.env.qual ++ "<lambda>") params body scope (clOf X.env.cells scope.names []) ((X.mg "__name__").getD .none) c' ctv:=⟨_,rfl⟩
  have hnf:ob.isFreed=false:=by rw [eob];rfl
  have hof:=Heap.get?_push_size h' hnf
  rw [← eob]
  have big:s.heap.objs.size≤h'.objs.size:=Nat.le_trans hge (Nat.le_of_lt hlt)
  have ncP:c'≠P:=Nat.ne_of_gt (Nat.lt_of_lt_of_le (Heap.lt_size oP) hge)
  have nfP:h'.objs.size≠P:=Nat.ne_of_gt (Nat.lt_of_lt_of_le (Heap.lt_size oP) big)
  have ncf:c'≠h'.objs.size:=Nat.ne_of_lt hlt
  have old:∀ b o,b≠P→s.heap.get? b=some o→(h'.push ob).get? b=some o:=fun b o n e=>Heap.get?_push_of_some _ (hx b o n e)
  have fc:H c'=none:=I.hok.fresh hge
  have ff:H h'.objs.size=none:=I.hok.fresh big
  have sP:SameT P H (upd (upd (upd H P (.tbl (ps++#[rawInt lp.line,rawInt lp.col,.ref c']))) c' (codeO c' (X.env.qual ++ "<lambda>"))) h'.objs.size (lamO h'.objs.size c' (X.env.qual ++ "<lambda>") params body scope (clOf X.env.cells scope.names []))):=fun b o n e=>by
   rw [upd_ne (ne_of_none e ff),upd_ne (ne_of_none e fc),upd_ne n]
   exact e
  generalize hH':upd (upd (upd H P (.tbl (ps++#[rawInt lp.line,rawInt lp.col,.ref c']))) c' (codeO c' (X.env.qual ++ "<lambda>"))) h'.objs.size (lamO h'.objs.size c' (X.env.qual ++ "<lambda>") params body scope (clOf X.env.cells scope.names []))=H' at sP
  have eP:H' P=some (.tbl (ps++#[rawInt lp.line,rawInt lp.col,.ref c'])):=by rw [← hH',upd_ne (Ne.symm nfP),upd_ne (Ne.symm ncP),upd_same]
  have ec:H' c'=some (codeO c' (X.env.qual ++ "<lambda>")):=by rw [← hH',upd_ne ncf,upd_same]
  have ef:H' h'.objs.size=some (lamO h'.objs.size c' (X.env.qual ++ "<lambda>") params body scope (clOf X.env.cells scope.names [])):=by rw [← hH',upd_same]
  have no:∀ b,H b=none→b≠h'.objs.size→b≠c'→H' b=none:=fun b n n1 n2=>by
   rw [← hH',upd_ne n1,upd_ne n2,upd_ne (fun z=>by rw [z,hP] at n;cases n)]
   exact n
  have un:Un X.fs [] H H' s.heap (h'.push ob):=by
   refine⟨fun b o e n _ _=>old b o (fun z=>by rw [z,hP] at n;cases n) e,fun b o e n _ _=>⟨o.slots,old b o (fun z=>by rw [z,hP] at n;cases n) e⟩,fun b o e n _=>no b n (fun z=>?_) (fun z=>?_),fun b o e _=>?_,fun b xs e=>sP b _ (fun z=>by rw [z,hP] at e;cases e) e,fun b o u e=>sP b _ (fun z=>by rw [z,hP] at e;cases e) e,fun b qs e=>?_⟩
   ·exact absurd z (Nat.ne_of_lt (Nat.lt_of_lt_of_le (Heap.lt_size e) big))
   ·exact absurd z (Nat.ne_of_lt (Nat.lt_of_lt_of_le (Heap.lt_size e) hge))
   ·by_cases hb:b=P
    ·subst hb
     exact⟨_,Heap.get?_push_of_some _ htb⟩
    ·exact⟨o,old b o hb e⟩
   ·by_cases hb:b=P
    ·subst hb
     rw [hP] at e
     cases e
     exact⟨_,eP⟩
    ·exact⟨#[],by rw [sP b _ hb e];simp⟩
  have hok:HOk X.prog X.w H' (h'.push ob):=fun b o e=>by
   by_cases h1:b=h'.objs.size
   ·subst h1
    rw [ef] at e
    cases e
    exact ext1 (by rw [hof,eob])
   ·by_cases h2:b=c'
    ·subst h2
     rw [ec] at e
     cases e
     obtain ⟨c2,oc,vs,t,e2,hoc,hd,hv⟩:=hrec
     cases e2
     exact⟨⟨_,oc,vs,t,rfl,Heap.get?_push_of_some _ hoc,hd,hv⟩,⟨oc,Heap.get?_push_of_some _ hoc⟩,fun h1 h2 ⟨c3,o3,v3,t3,z1,z2,z3,z4⟩ k=>⟨c3,o3,v3,t3,z1,by cases z1;exact k _ z2,z3,z4⟩⟩
    ·by_cases h3:b=P
     ·subst h3
      rw [eP] at e
      cases e
      exact Heap.get?_push_of_some _ htb
     ·have e0:H b=some o:=by rw [← hH',upd_ne h1,upd_ne h2,upd_ne h3] at e;exact e
      refine (I.hok b o e0).stay (fun d u hd z=>old d u (fun w=>?_) z) (fun d z=>sP d _ (fun w=>by rw [w,hP] at z;cases z) z) fun d xs z=>sP d _ (fun w=>by rw [w,hP] at z;cases z) z
      rcases hd with rfl|hd
      ·exact h3 w
      ·rw [w,hP] at hd;cases hd
  refine⟨.ref h'.objs.size,H',I.un un hok,rfl,h _ c' H' sP ⟨_,eP,?_,.inr ⟨c',?_,ec⟩⟩ ef ec⟩
  ·rw [Array.toList_append]
   exact TriplesOk_snoc _ _ _ _ ht
  ·rw [Array.toList_append]
   exact codeAmong_snoc _ ht hn
 ·refine kla_makeFunctionHit (mg:=X.mg) hcl I.ok.glob hgs hcode (C.keeps I.bk) oP ht hc hB' fun ctv h' tk hk hsz=>?_
  obtain ⟨ob,eob⟩:∃ ob:Obj,ob=kla_obj "<lambda>" (X.env.qual ++ "<lambda>") params body scope (clOf X.env.cells scope.names []) ((X.mg "__name__").getD .none) c' ctv:=⟨_,rfl⟩
  have hnf:ob.isFreed=false:=by rw [eob];rfl
  have hof:=Heap.get?_push_size h' hnf
  have ff:H h'.objs.size=none:=I.hok.fresh hsz
  have sm:Same H (upd H h'.objs.size (lamO h'.objs.size c' (X.env.qual ++ "<lambda>") params body scope (clOf X.env.cells scope.names []))):=Same.upd_new ff
  refine⟨.ref h'.objs.size,upd H h'.objs.size (lamO h'.objs.size c' (X.env.qual ++ "<lambda>") params body scope (clOf X.env.cells scope.names [])),I.laid (fun b u e=>Heap.get?_push_of_some _ (hk b u e)) hsz (ext1 (by rw [eob] at hof;exact hof)),rfl,h _ c' _ (SameT.of sm) (TabH.same ⟨ps,hP,ht,.inr ⟨c',hc,hcc⟩⟩ sm) upd_same (sm _ _ hcc)⟩
end
end L2
set_option maxRecDepth 100000
namespace L2
open PySem PySem.Spec PyProof.Rows PySem.W
section
variable {K:PySem.W.Frag} {H H':Hp} {P a:Addr} {lp:Pos} {q:Str} {xs:List V}
theorem TabH.at (t:TabH P lp q H):∃ ps,H P=some (.tbl ps):=let ⟨ps,h,_⟩:=t;⟨ps,h⟩
theorem SameT.at (s:SameT P H H') (t:TabH P lp q H) (h:SqT K H a xs):SqT K H' a xs:=by
 obtain ⟨ps,hP⟩:=t.at
 exact h.imp (fun z=>z.imp (fun e=>s _ _ (fun w=>by rw [w,hP] at e;cases e) e) fun ⟨o,e⟩=>⟨o,s _ _ (fun w=>by rw [w,hP] at e;cases e) e⟩) id
theorem SameT.seq (s:SameT P H H') (t:TabH P lp q H) (h:SqL K H a xs):SqL K H' a xs:=by
 obtain ⟨ps,hP⟩:=t.at
 exact h.imp (fun z=>z.imp (fun e=>s _ _ (fun w=>by rw [w,hP] at e;cases e) e) fun ⟨o,e⟩=>⟨o,s _ _ (fun w=>by rw [w,hP] at e;cases e) e⟩) id
theorem SameT.lst (s:SameT P H H') (t:TabH P lp q H) (h:H a=some (.lst xs)):H' a=some (.lst xs):=by
 obtain ⟨ps,hP⟩:=t.at
 exact s _ _ (fun w=>by rw [w,hP] at h;cases h) h
end
noncomputable def rSortL (K:PySem.W.Frag) (P:Addr) (lp:Pos) (q:Str) (ixs:List (Option Nat)) (te:TE) (σ:St):V→Hp→VK→Prop:=fun x H Q=>∃ (l:Addr) (xs:List V) (kz:List Int),x=.ref l∧SqL K H l xs∧kz.length=xs.length∧xs.length<64∧TabH P lp q H ∧
 (∀ (i:Nat) (x:V) (n:Int),xs[i]?=some x→kz[i]?=some n→∀ H',SameT P H H'→te (some x::pick ixs σ) H' (fun v H''=>v=.int n∧Same H' H'')) ∧
 ∀ p H' ys,SameT P H H'→TabH P lp q H'→H' p=some (.lst ys)→SortedBy false kz xs ys→Q (.ref p) H'
noncomputable def tSortL (K:PySem.W.Frag) (P:Addr) (lp:Pos) (q:Str) (ixs:List (Option Nat)) (te:TE) (t:TE):TE:=fun σ H Q=>t σ H fun x H1=>rSortL K P lp q ixs te σ x H1 Q
section
variable {X:Cx} {k:Nat} {q y:Str} {fns:List Str} {ixs:List (Option Nat)} {params:Arguments} {body:Expr} {scope:Scope} {p lp kpos pos:Pos} {e:Expr} {t te:TE} {c P:Addr}
theorem pe_sortL (hq:X.env.qual ++ "<lambda>"=q) (hr:Room (k+2) X.A) (ha:PE X e t) (hcode:X.env.code=.ref c) (C:CodeHd X.base c P) (hB:X.base.BuiltinsAt X.mg P)
  (hbind:∀ (cl:List (Str×Addr)) (pm ctv:Value) (c':Addr) (u:Value),bindArgs (kla_fn "<lambda>" q params body scope cl pm (.ref c') ctv) ⟨[u],[]⟩=pure [(y,u)])
  (he:∀ f c' s H,PE (lamCx X X.A.in1.in1 (y::fns) q scope f (.ref c') s H) body te)
  (hloc:scope.names.lookup y=some .local) (hco:scope.isCoroutine=false) (hgen:scope.isGenerator=false) (hk:scope.kind=.function) (hcell:∀ y∈scope.names,y.2≠.cell)
  (hfr0:(scope.names.all fun y=>!(y.2 == NameKind.free) || (X.env.cells.lookup y.1).isSome)=true) (hix:IxOk X scope fns ixs) (hdef:defaultsOf params X.env=([],[]))
  (hg:Gl X (Str.ofString "sorted")) (hm:X.mg "sorted"=none) (hv:bootBuiltins "sorted"=some (.builtin "sorted"))
  (hst:starEach [e] X.env=(false,eval e X.env)::starEach [] X.env:=by rfl) :
  PE X (.Call (.Name "sorted" p) [e] [⟨some (Str.ofString "key"),.Lambda params body scope lp,kpos⟩] pos) (tSortL X.K P lp q ixs te t):=by
 subst hq
 intro pins s σ H Q I h
 refine wpAny_Call_Name_kw (ld_blt I hg hm hv ?_ (by decide) (by decide))
 have hpa:PA X [e] (tCons t tNil):=pa_cons ha pa_nil hst
 have hlam:PE X (.Lambda params body scope lp) (fun _ H Q=>TabH P lp (X.env.qual ++ "<lambda>") H∧∀ f c' H',SameT P H H'→TabH P lp (X.env.qual ++ "<lambda>") H'→H' f=some (lamO f c' (X.env.qual ++ "<lambda>") params body scope (clOf X.env.cells scope.names []))→H' c'=some (codeO c' (X.env.qual ++ "<lambda>"))→Q (.ref f) H') :=
  fun pins s σ H Q I h=>lam_make I h.1 hcode C hB hdef hfr0 h.2
 have hpk:PK X [⟨some (Str.ofString "key"),.Lambda params body scope lp,kpos⟩] (tCons _ tNil):=pk_cons hlam pk_nil
 refine callWith_kw (thn (hpa pos pins s σ H (fun vs H1=>∃ x,vs=[x]∧rSortL X.K P lp (X.env.qual ++ "<lambda>") ixs te σ x H1 Q) I ?_) fun us s1 ⟨vs,H1,I1,r,x,ev,q⟩=>?_) (by rw [hst];rfl) (by rw [hst];rfl) rfl rfl
 ·show t σ H fun x H1=>∃ z,[x]=[z]∧rSortL X.K P lp (X.env.qual ++ "<lambda>") ixs te σ z H1 Q
  have e:(fun (x:V) (H1:Hp)=>∃ z,[x]=[z]∧rSortL X.K P lp (X.env.qual ++ "<lambda>") ixs te σ z H1 Q)=fun x H1=>rSortL X.K P lp (X.env.qual ++ "<lambda>") ixs te σ x H1 Q:=by
   funext x H1
   apply propext
   exact⟨fun ⟨z,e,q⟩=>by cases e;exact q,fun q=>⟨x,rfl,q⟩⟩
  rw [e]
  exact h
 ·subst ev
  obtain ⟨u,rfl,ru⟩:=vals1 r
  obtain ⟨l,xs,kz,rfl,hs,h1,h2,tb,turn,hQ⟩:=q
  refine thn (hpk pos pins s1 σ H1 (fun zs H2=>∃ f c',zs=[V.ref f]∧SameT P H1 H2∧TabH P lp (X.env.qual ++ "<lambda>") H2∧H2 f=some (lamO f c' (X.env.qual ++ "<lambda>") params body scope (clOf X.env.cells scope.names []))∧H2 c'=some (codeO c' (X.env.qual ++ "<lambda>"))) I1 ⟨tb,fun f c' H' a1 a2 a3 a4=>⟨f,c',rfl,a1,a2,a3,a4⟩⟩) fun ws s2 ⟨zs,H2,I2,rz,f,c',ez,sT,tT,ef,ec⟩=>?_
  subst ez
  obtain ⟨w,rfl,rw_⟩:=vals1 rz
  cases rw_
  cases ru
  refine call_sortedKC (kz:=kz) (xs:=xs) (fun pins' H' s' i x u n _ hx hn sm rx I'=>?_) I2 (sT.seq tb hs) h1 h2 fun p H' ys sm hp so=>hQ p H' ys (sT.trans (SameT.of sm)) (tT.same sm) hp so
  obtain ⟨⟨pm,ctv,eo⟩,_⟩:=I'.hok f _ (sm _ _ ef)
  obtain ⟨eco,_⟩:=I'.hok c' _ (sm _ _ ec)
  exact lam_call I' (Room.in1 (Room.in1 hr)).hd I'.ok.frames (by have:=(Room.in1 (Room.in1 hr)).dp;lia) eo eco (hbind _ _ _ _ _) hloc hco hgen hk hcell hfr0 hix (he _ _ _ _) rx (turn i x n hx hn H' (sT.trans (SameT.of sm)))
variable {K:PySem.W.Frag}
theorem kpe_sortL (K:PySem.W.Frag) (hK:X.K=K) (hq:X.env.qual ++ "<lambda>"=q) (hr:Room (k+2) X.A) (ha:PE X e t) (hcode:X.env.code=.ref c) (C:CodeHd X.base c P) (hB:X.base.BuiltinsAt X.mg P)
  (hbind:∀ (cl:List (Str×Addr)) (pm ctv:Value) (c':Addr) (u:Value),bindArgs (kla_fn "<lambda>" q params body scope cl pm (.ref c') ctv) ⟨[u],[]⟩=pure [(y,u)])
  (he:∀ f c' s H,PE (lamCx X X.A.in1.in1 (y::fns) q scope f (.ref c') s H) body te)
  (hloc:scope.names.lookup y=some .local) (hco:scope.isCoroutine=false) (hgen:scope.isGenerator=false) (hk:scope.kind=.function) (hcell:∀ y∈scope.names,y.2≠.cell)
  (hfr0:(scope.names.all fun y=>!(y.2 == NameKind.free) || (X.env.cells.lookup y.1).isSome)=true) (hix:IxOk X scope fns ixs) (hdef:defaultsOf params X.env=([],[]))
  (hg:Gl X (Str.ofString "sorted")) (hm:X.mg "sorted"=none) (hv:bootBuiltins "sorted"=some (.builtin "sorted"))
  (hst:starEach [e] X.env=(false,eval e X.env)::starEach [] X.env:=by rfl) :
  PE X (.Call (.Name "sorted" p) [e] [⟨some (Str.ofString "key"),.Lambda params body scope lp,kpos⟩] pos) (tSortL K P lp q ixs te t):=by
 subst hK
 exact pe_sortL hq hr ha hcode C hB hbind he hloc hco hgen hk hcell hfr0 hix hdef hg hm hv hst
end
section
variable {K:PySem.W.Frag} {H:Hp} {Q:VK} {σ:St} {P:Addr} {lp:Pos} {q:Str} {ixs:List (Option Nat)} {te:TE}
theorem r_sortL {t:TE} (h:t σ H fun x H1=>rSortL K P lp q ixs te σ x H1 Q):tSortL K P lp q ixs te t σ H Q:=h
theorem rd_sortL {l:Addr} {xs:List V} (kz:List Int) (tb:TabH P lp q H) (hs:SqL K H l xs) (h1:kz.length=xs.length) (h2:xs.length<64)
  (turn:∀ (i:Nat) (x:V) (n:Int),xs[i]?=some x→kz[i]?=some n→∀ H',SameT P H H'→te (some x::pick ixs σ) H' (fun v H''=>v=.int n∧Same H' H''))
  (k:∀ p H' ys,SameT P H H'→TabH P lp q H'→H' p=some (.lst ys)→SortedBy false kz xs ys→Q (.ref p) H'):rSortL K P lp q ixs te σ (.ref l) H Q:=⟨l,xs,kz,rfl,hs,h1,h2,tb,turn,k⟩
end
end L2
set_option maxRecDepth 100000
namespace L2
open PySem PySem.Spec PyProof.Rows PySem.W
noncomputable def Tabs0 (tabs:List (Addr×Addr)) (H:Hp):Prop:=∀ q∈tabs,H q.2=some (.tbl #[])
noncomputable def DefT (K:PySem.W.Frag) (mg:Str→Option Value) (x:Str) (st:Stmt) (ps:List Str) (c:Addr):Prop :=
 ∃ (f:Addr) (fd:FuncData) (oc:Value) (od:Option Addr) (kV doc pm:Value) (an:Option Addr) (ct:Value) (osl:Array (Option Value)),fd=PySem.W.fnOf x x (defArgs st) (defBody st) (defScope st) .none kV doc pm an (.ref c) ct∧K.lookup f=some ⟨oc,od,.func fd,osl⟩∧PySem.W.codeIn K (.ref c) x=true∧PySem.W.keepIn K (.ref f)=true∧mg x=some (.ref f)∧Binds K fd ps []
section
variable {Pr:Program} {w:World} {K:PySem.W.Frag} {mg:Str→Option Value} {base:Heap}
theorem DefT.ok {x:Str} {st:Stmt} {N ps:List Str} {k:Nat} {sp:Sp} {c:Addr} (D:DefT K mg x st ps c) (S:FnScope N ps (defScope st)) (len:∀ vs H Q E,sp vs H Q E→vs.length=ps.length)
  (hbody:∀ (f:Addr) (A:Around) (outer:List Env) (s:Shared) (H:Hp) (vs:List V) (Q:VK) (E:XK),Room k (A.deeper (envOfC x (defScope st) s.heap.objs.size f (.ref c)))→sp vs H Q E →
   ∃ t,PSs (cxOf CX0 Pr w K mg base N x (defScope st) f (.ref c) A outer s H E).nox (defBody st) t∧t { nx:=fun _ H'=>Q .non H',rt:=Q } (start N vs) H):Ok Pr w K mg base (k+1) x ps sp:=by
 obtain ⟨f,fd,oc,od,kV,doc,pm,an,ct,osl,rfl,lk,hcd,hkp,hm,hb⟩:=D
 refine⟨f,_,fn_of lk hcd S len fun A outer s H vs Q E hr hsp=>?_,hm,hkp,hb⟩
 obtain ⟨t,h,q⟩:=hbody f A outer s H vs Q E hr hsp
 exact⟨t,h.nox,q⟩
end
end L2
set_option maxRecDepth 100000
namespace L2
open PySem PySem.Spec PyProof.Rows PySem.W
noncomputable def tabP (K:PySem.W.Frag) (y:Str):Addr:=((PySem.W.tabIn K y).getD (0,0)).2
theorem tabP_of {K:PySem.W.Frag} {y:Str} {c P:Addr} (h:PySem.W.tabIn K y=some (c,P)):tabP K y=P:=by unfold tabP;rw [h];rfl
noncomputable def spLawT (y:Str) (lp:Pos) (q:Str) (K:PySem.W.Frag):Sp:=fun vs H Q _=>∃ (a:Addr) (ns:List Int),vs=[.ref a]∧SqL K H a (ns.map V.int)∧ns.length≤63∧TabH (tabP K y) lp q H∧∀ H',Q (.bl true) H'
end L2
set_option maxRecDepth 100000
namespace L2
open PySem PySem.Spec PyProof.Rows
noncomputable def Itd (hi:Int) (n:Nat):It:=⟨fun i _=>i<n,fun i H x H'=>H'=H∧x=.int (hi - i),fun i _=>n≤i⟩
theorem turn_down {P:Program} {w:World} {K:PySem.W.Frag} {tg:Expr} (it:Addr) (hi:Int) (n:Nat):Turn P w K tg (Itd hi n) [it] it (fun i h=>IsRangeIter h it (hi+(i:Nat)*(-1)) ((n:Int) - (i:Nat)) (-1)) where
 mem:=by simp
 obj:=fun i h st b hb=>by
  obtain rfl:b=it:=by simpa using hb
  exact⟨_,st,fun v z=>nomatch (show Data.fields _=Data.cell v from z)⟩
 keep:=fun i h h' st k=>k it (by simp) _ st
 item:=by
  intro X hP hw hK hc i pins s σ H E I hf st hg
  subst hP hw hK
  obtain ⟨f0,f1,f2,f3,f4,f5⟩:=hf it (by simp)
  have WD:=Walks.range (prog:=X.prog) (w:=X.w) (I.ok.hd hc) it hi (-1) n
  refine WD.item i s _ _ hg st fun v h' tk hv st' kk=>?_
  obtain ⟨t,rfl⟩:=hv
  have ID:Inv X pins σ H { s with heap:=h',toks:=tk }:=I.turned (fun b o hb e=>kk b o (by simpa using hb) e) f0 f1 f3 f4 f5
  refine⟨_,rfl,go_of (s:={ s with heap:=h',toks:=tk }) (n:="range_iterator") st' rfl rfl (by decide) ⟨.int (hi - i),H,ID,⟨t,?_⟩,⟨rfl,rfl⟩,st',fun b hb=>(hf b hb).1⟩⟩
  rw [show hi+(i:Int)*(-1)=hi - i by lia]
 done:=by
  intro X hP hw hK hc i pins s σ H E I hf st hg
  subst hP hw hK
  obtain ⟨f0,f1,f2,f3,f4,f5⟩:=hf it (by simp)
  exact wpAny_pyNext_range_end (I.ok.hd hc) st (by have hni:n≤i:=hg;lia) fun h' eb=>⟨rfl,I.turned (t':=s.toks) (fun b o hb e=>eb b o hb e) f0 f1 f3 f4 f5⟩
 self:=fun _ _ _ _ _ st h=>wpAny_pyIter_rangeiter st h
theorem size_down (a b:Int):Builtin.Range.rangeSize a b (-1)=if b<a then a - b else 0:=by
 unfold Builtin.Range.rangeSize
 simp only [show ¬ ((-1:Int) > 0) by decide,if_false,Int.neg_neg,Int.ediv_one]
 split <;> lia
theorem small_down {a b:Int} (ha:-1000000≤a∧a≤1000000) (hb:-1000000≤b∧b≤1000000):Builtin.Range.small a b (-1)=true:=by
 unfold Builtin.Range.small
 rw [size_down]
 simp only [Builtin.Range.rangeFitsLong,Bool.and_eq_true,Bool.or_eq_true,decide_eq_true_eq,beq_iff_eq,show ¬ ((-1:Int) > 0) by decide,if_false]
 split <;> lia
section
variable {X:Cx} {tg:Expr}
noncomputable def rItD:List V→Hp→(It→Hp→Prop)→Prop:=fun vs H R=>∃ i j:Int,vs=[.int i,.int j,.int (-1)]∧(-1000000≤i∧i≤1000000)∧(-1000000≤j∧j≤1000000)∧R (Itd i (i - j).toNat) H
noncomputable def iRng3 (ta:TA):TI:=fun σ H R=>ta σ H fun vs H1=>rItD vs H1 R
theorem pi_range3 {a b c:Expr} {ta:TA} {p pos:Pos} (hg:Gl X "range") (hm:X.mg "range"=none) (ha:PA X [a,b,c] ta) (hs:starEach [a,b,c] X.env=[(false,eval a X.env),(false,eval b X.env),(false,eval c X.env)]:=by rfl) (hs2:starEach [b,c] X.env=[(false,eval b X.env),(false,eval c X.env)]:=by rfl) :
  PI X tg (.Call (.Name "range" p) [a,b,c] [] pos) (iRng3 ta):=by
 intro pins s σ H R I h
 refine Call_ (ld_blt I hg hm boot_range (PyProof.Rows.callWith_type1 (thn (ha pos pins s σ H _ I h) fun us s1 ⟨vs,H1,I1,r1,q1⟩=>?_) (by rw [hs,hs2]) (by rw [hs2];rfl)))
 obtain ⟨i,j,e,hi,hj,q⟩:=q1
 subst e
 cases r1 with
 | cons r rr =>
  cases rr with
  | cons r' rr =>
   cases rr with
   | cons r'' rr =>
    cases rr
    obtain ⟨t,rfl⟩:=r
    obtain ⟨t',rfl⟩:=r'
    obtain ⟨t'',rfl⟩:=r''
    refine call_range_3 (by decide) ?_ (Or.inl (PyProof.noPylong_of_log2 (by decide +kernel)))
    refine wpAny_pyIter_range (IsRange.new ..) (small_down hi hj) ?_
    have ID:Inv X pins σ H1 { s1 with heap:=s1.heap.push { cls:=.type "range",data:=.fields #[.int i t,.int j t',.int (-1) t''] },toks:=s1.toks }:=I1.kept fun b o e=>Heap.get?_push_of_some _ e
    refine⟨(s1.heap.push { cls:=.type "range",data:=.fields #[.int i t,.int j t',.int (-1) t''] }).objs.size,[(s1.heap.push { cls:=.type "range",data:=.fields #[.int i t,.int j t',.int (-1) t''] }).objs.size],_,_,H1,rfl,
     ID.kept (t':=s1.toks) fun b o e=>Heap.get?_push_of_some _ e,turn_down _ i (i - j).toNat,?_,fun b hb=>?_,q⟩
    ·have e1:i+((0:Nat):Int)*(-1)=i:=by simp
     have e2:(((i - j).toNat:Nat):Int) - ((0:Nat):Int)=Builtin.Range.rangeSize i j (-1):=by rw [size_down];split <;> lia
     show IsRangeIter _ _ (i+((0:Nat):Int)*(-1)) ((((i - j).toNat:Nat):Int) - ((0:Nat):Int)) (-1)
     rw [e1,e2]
     exact Heap.get?_push_size _ rfl
    ·obtain rfl:b=(s1.heap.push { cls:=.type "range",data:=.fields #[.int i t,.int j t',.int (-1) t''] }).objs.size:=by simpa using hb
     exact ID.fpOk (Nat.le_refl _) (ID.hok.fresh (Nat.le_refl _))
end
section
variable {H:Hp} {σ:St} {R:It→Hp→Prop}
theorem r_irng3 {ts:TA} (h:ts σ H fun vs H1=>rItD vs H1 R):iRng3 ts σ H R:=h
theorem r_isr3 {i j:Int} (h1:-1000000≤i∧i≤1000000) (h2:-1000000≤j∧j≤1000000) (h:R (Itd i (i - j).toNat) H):rItD [.int i,.int j,.int (-1)] H R:=⟨i,j,rfl,h1,h2,h⟩
variable {g:TG} {D:Ends}
theorem f_invD {hi:Int} {n:Nat} {tb:TS} (Pv:Nat→St→Hp→Prop) (h0:Pv 0 σ H) (hs:∀ i σ H2,i<n→Pv i σ H2→g (.int (hi - i)) σ H2 fun σ2 H4=>tb { D with nx:=Pv (i+1),ct:=Pv (i+1),bk:=D.nx } σ2 H4) (hd:∀ σ H2,Pv n σ H2→D.nx σ H2):ForGoal g tb D (Itd hi n) σ H:=by
 refine f_inv n Pv h0 (fun i σ H2 hi _=>hi) (fun σ H2 _=>Nat.le_refl _) (fun i x σ H2 H3 hi p y=>?_) hd
 obtain ⟨rfl,rfl⟩:=y
 exact hs i σ _ hi p
end
end L2
set_option maxRecDepth 100000
namespace L2
open PySem PySem.Spec PyProof.Rows
theorem take_filter {α:Type} {rs:List α} {f:α→Bool} {i:Nat} {r:α} (h:rs[i]?=some r):(rs.take (i+1)).filter f=(rs.take i).filter f++(if f r then [r] else []):=by
 rw [List.take_add_one,h,List.filter_append]
 cases e:f r <;> simp [e]
theorem take_map' {α β:Type} {rs:List α} {g:α→β} {i:Nat} {r:α} (h:rs[i]?=some r):(rs.take (i+1)).map g=(rs.take i).map g++[g r]:=by
 rw [List.take_add_one,h,List.map_append]
 rfl
section
variable {K:PySem.W.Frag} {H:Hp} {σ:St} {Q:VK} {ix:List (Option Nat)} {l:Addr} {xs:List V} {rs:List (List Int)}
theorem rd_filterRows {tt:TT} {te:TE} (fr:St) (f:List Int→Bool) (hpk:pick ix σ=none::fr) (hl:SqL K H l xs) (hr:RowsL K H xs rs) (hn:rs.length≤1000)
  (test:∀ (a:Addr) (r:List Int) (H':Hp) (Qt:Bool→Hp→Prop),r∈rs→Same H H'→SqT K H' a (r.map V.int)→(∀ H5,Same H' H5→Qt (f r) H5)→tt (some (.ref a)::fr) H' Qt)
  (elt:∀ (a:Addr) (H':Hp) (Qc:VK),Same H H'→Qc (.ref a) H'→te (some (.ref a)::fr) H' Qc)
  (hQ:∀ l2 H' ys,H l2=none→Same H H'→H' l2=some (.lst ys)→RowsL K H' ys (rs.filter f)→Q (.ref l2) H'):CompGoal ix (gName 0) tt te σ Q (Itl K l) H:=by
 have hlen:=hr.length
 refine comp_rows (K:=K) 1 fr rs.length (fun i=>(rs.take i).filter f) hpk rfl (fun i=>Nat.le_trans (List.length_filter_le _ _) (Nat.le_trans (List.length_take_le' _ _) hn)) (fun H' s=>⟨xs,s.seq hl,by lia⟩) (fun i H' hi s=>⟨xs,xs[i]'(by lia),s.seq hl,List.getElem?_eq_getElem (by lia)⟩) (fun i x H' H2 own ho hi s hy Qy Qn ky kn=>?_) (fun l2 H' ys a b c d=>hQ l2 H' ys a b c (by rw [List.take_length] at d;exact d))
 obtain ⟨o1,rfl⟩:∃ o1,own=[o1]:=by match own,ho with|[o1],_=>exact⟨o1,rfl⟩
 obtain ⟨rfl,e⟩:=hy
 obtain ⟨a,r,rfl,ha,hi2⟩:=hr.get (e xs (s.seq hl))
 have hmem:r∈rs:=by
  obtain ⟨h1,h2⟩:=List.getElem?_eq_some_iff.mp hi2
  rw [← h2]
  exact List.getElem_mem h1
 have et:=take_filter (f:=f) hi2
 dsimp only [gName]
 refine test a r _ _ hmem s (s.at ha) fun H5 s5=>?_
 cases ef:f r with
 | true =>
  rw [ef] at et
  rw [if_pos rfl]
  exact elt a H5 _ (s.trans s5) (ky [some (.ref a)] a r H5 rfl s5 ((s.trans s5).at ha) et)
 | false =>
  rw [ef] at et
  rw [if_neg (by decide)]
  exact kn [some (.ref a)] H5 rfl s5 (by rw [et];simp)
theorem rd_mapRows {te:TE} (fr:St) (g:List Int→List Int) (hpk:pick ix σ=none::fr) (hl:SqL K H l xs) (hr:RowsL K H xs rs) (hn:rs.length≤1000)
  (elt:∀ (a:Addr) (r:List Int) (H':Hp) (Qc:VK),r∈rs→Same H H'→SqT K H' a (r.map V.int)→(∀ p H5,Same H' H5→SqT K H5 p ((g r).map V.int)→Qc (.ref p) H5)→te (some (.ref a)::fr) H' Qc)
  (hQ:∀ l2 H' ys,H l2=none→Same H H'→H' l2=some (.lst ys)→RowsL K H' ys (rs.map g)→Q (.ref l2) H'):CompGoal ix (gName 0) (fun _ H Q=>Q true H) te σ Q (Itl K l) H:=by
 have hlen:=hr.length
 refine comp_rows (K:=K) 1 fr rs.length (fun i=>(rs.take i).map g) hpk rfl (fun i=>by rw [List.length_map];exact Nat.le_trans (List.length_take_le' _ _) hn) (fun H' s=>⟨xs,s.seq hl,by lia⟩) (fun i H' hi s=>⟨xs,xs[i]'(by lia),s.seq hl,List.getElem?_eq_getElem (by lia)⟩) (fun i x H' H2 own ho hi s hy Qy Qn ky kn=>?_) (fun l2 H' ys a b c d=>hQ l2 H' ys a b c (by rw [List.take_length] at d;exact d))
 obtain ⟨o1,rfl⟩:∃ o1,own=[o1]:=by match own,ho with|[o1],_=>exact⟨o1,rfl⟩
 obtain ⟨rfl,e⟩:=hy
 obtain ⟨a,r,rfl,ha,hi2⟩:=hr.get (e xs (s.seq hl))
 have hmem:r∈rs:=by
  obtain ⟨h1,h2⟩:=List.getElem?_eq_some_iff.mp hi2
  rw [← h2]
  exact List.getElem_mem h1
 dsimp only [gName]
 rw [if_pos rfl]
 exact elt a r _ _ hmem s (s.at ha) fun p H5 s5 hp=>ky [some (.ref a)] p (g r) H5 rfl s5 hp (take_map' hi2)
end
end L2
namespace L2
open PySem PySem.Spec PyProof.Rows PySem.W
theorem RowsL.sameT {K:PySem.W.Frag} {H H':Hp} {P:Addr} {lp:Pos} {q:Str} (s:SameT P H H') (t:TabH P lp q H):∀ {xs:List V} {rs:List (List Int)},RowsL K H xs rs→RowsL K H' xs rs
 | _,_,.nil=>.nil
 | _,_,.cons h u=>.cons (s.at t h) (RowsL.sameT s t u)
theorem RowsL.uncons {K:PySem.W.Frag} {H:Hp} {xs:List V} {r:List Int} {rs:List (List Int)} (h:RowsL K H xs (r::rs)):∃ a ys,xs=.ref a::ys∧SqT K H a (r.map V.int)∧RowsL K H ys rs:=by
 cases h with
 | cons h t=>exact⟨_,_,rfl,h,t⟩
end L2
namespace L2
open PySem PySem.Spec PyProof.Rows
theorem f_invN {K:PySem.W.Frag} {D:Ends} {σ:St} {H:Hp} {k:Bool} {a:Addr} {xs:List V} {m n:Nat} {tb:TS} (Pv:Nat→St→Hp→Prop) (h0:Pv 0 σ H) (ha:∀ i σ H2,Pv i σ H2→Sq k K H2 a xs)
  (hs:∀ (i:Nat) x σ H2 H3,xs[i]?=some x→Pv i σ H2→Same H2 H3→tb { D with nx:=Pv (i+1),ct:=Pv (i+1),bk:=D.nx } ((σ.set m (some (.int i))).set n (some x)) H3)
  (hd:∀ σ H2,Pv xs.length σ H2→D.nx σ H2):ForGoal (gTup K 2 (gCons (gName m) (gCons (gName n) gNil))) tb D (Itn K k a) σ H:=by
 refine f_inv xs.length Pv h0 (fun i σ H2 hi p=>⟨_,xs[i],ha i σ H2 p,List.getElem?_eq_getElem hi⟩) (fun σ H2 p=>⟨_,ha _ σ H2 p,Nat.le_refl _⟩) (fun i x σ H2 H3 hi p y=>?_) hd
 obtain ⟨q,x',rfl,hp,e1,rfl⟩:=y
 have g1:=e1 _ (ha i σ _ p)
 refine⟨q,_,rfl,SqT.of upd_same,rfl,_,_,rfl,_,_,rfl,rfl,?_⟩
 exact hs i x' σ _ _ g1 p (Same.upd_new hp)
theorem SameT.new {P a:Addr} {lp:Pos} {q:Str} {H H':Hp} (s:SameT P H H') (t:TabH P lp q H') (n:H' a=none):H a=none:=by
 match e:H a with
 | none=>rfl
 | some o =>
  by_cases z:a=P
  ·obtain ⟨ps,h,_⟩:=t
   rw [z,h] at n
   cases n
  ·rw [s a o z e] at n
   cases n
theorem Same.new {a:Addr} {H H':Hp} (s:Same H H') (n:H' a=none):H a=none:=by
 match e:H a with
 | none=>rfl
 | some o =>
  rw [s a o e] at n
  cases n
end L2
namespace L2
open PySem PySem.Spec PyProof.Rows
section
variable {K:PySem.W.Frag} {H:Hp} {σ:St} {Q:VK} {ix:List (Option Nat)}
theorem comp_gen {J:It} {g:TG} {tt:TT} {te:TE} (t:Nat) (fr:St) (n:Nat) (Pv:Addr→Nat→List V→Hp→Prop) (hpk:pick ix σ=List.replicate t none++fr)
  (h0:∀ l H',H l=none→Same H H'→H' l=some (.lst [])→Pv l 0 [] H') (hn:∀ l i ys H',Pv l i ys H'→ys.length≤1000)
  (hstop:∀ H',Same H H'→J.stop n H') (hgo:∀ i H',i<n→Same H H'→J.go i H')
  (step:∀ l i x H' H2 own ys,own.length=t→i<n→H l=none→Same H H'→H' l=some (.lst ys)→Pv l i ys H'→J.yld i H' x H2→∀ (Qy:St→VK) (Qn:St→Hp→Prop),
   (∀ own2 v H5,own2.length=t→Same H' H5→Pv l (i+1) (ys++[v]) (upd H5 l (.lst (ys++[v])))→Qy (own2++fr) v H5)→(∀ own2 H4,own2.length=t→Same H' H4→Pv l (i+1) ys H4→Qn (own2++fr) H4) →
   g x (own++fr) H2 fun σ2 H3=>tt σ2 H3 fun b H4=>if b=true then te σ2 H4 (Qy σ2) else Qn σ2 H4)
  (hQ:∀ l H' ys,H l=none→Same H H'→H' l=some (.lst ys)→Pv l n ys H'→Q (.ref l) H'):CompGoal ix g tt te σ Q J H:=by
 intro l hl
 refine⟨fun i m σ1 ys H'=>m=n - i∧i≤n∧(∃ own:St,own.length=t∧σ1=own++fr)∧Same H H'∧H' l=some (.lst ys)∧Pv l i ys H',⟨n,by simp,Nat.zero_le _,⟨_,List.length_replicate,hpk⟩,Same.upd_new hl,upd_same,h0 l _ hl (Same.upd_new hl) upd_same⟩,?_⟩
 rintro i m σ1 ys H' ⟨rfl,hi,⟨own,ho,rfl⟩,hs,hl',hp⟩
 refine⟨hl',?_⟩
 by_cases hlt:i<n
 ·refine .inr ⟨hgo i H' hlt hs,n - (i+1),by lia,fun x H2 hy=>step l i x H' H2 own ys ho hlt hl hs hl' hp hy _ _ (fun own2 v H5 ho2 s5 hp5=>?_) fun own2 H4 ho2 s4 hp4=>?_⟩
  ·have l5:=s5 _ _ hl'
   refine⟨l5,Nat.lt_of_le_of_lt (hn l i ys H' hp) (small1000 (Nat.le_refl 1000)),rfl,hlt,⟨own2,ho2,rfl⟩,fun b o e=>?_,upd_same,hp5⟩
   rw [upd_ne (ne_of_none e hl)]
   exact s5 _ _ (hs _ _ e)
  ·exact⟨rfl,hlt,⟨own2,ho2,rfl⟩,hs.trans s4,s4 _ _ hl',hp4⟩
 ·obtain rfl:i=n:=by lia
  exact .inl ⟨hstop H' hs,hQ l H' ys hl hs hl' hp⟩
end
inductive LstsL (H:Hp):List V→List (List Int)→Prop where
 | nil:LstsL H [] []
 | cons {a:Addr} {r:List Int} {xs:List V} {rs:List (List Int)} (h:H a=some (.lst (r.map V.int))) (t:LstsL H xs rs):LstsL H (.ref a::xs) (r::rs)
section
variable {K:PySem.W.Frag} {H:Hp} {σ:St} {Q:VK} {ix:List (Option Nat)} {l:Addr} {xs:List V} {rs:List (List Int)}
theorem rd_filterN {tt:TT} {te:TE} {r:List Int} (fr:St) (f:Nat→Bool) (hpk:pick ix σ=none::none::fr) (hl:SqT K H l (r.map V.int)) (hn:r.length≤1000)
  (tst:∀ (i:Nat) (H':Hp) (Qt:Bool→Hp→Prop),i<r.length→Same H H'→Qt (f i) H'→tt (some (.int i)::some (.int (r.getD i 0))::fr) H' Qt)
  (elt:∀ (i:Nat) (H':Hp) (Qc:VK),Same H H'→Qc (.int i) H'→te (some (.int i)::some (.int (r.getD i 0))::fr) H' Qc)
  (hQ:∀ l2 H',H l2=none→Same H H'→H' l2=some (.lst ((((List.range r.length).filter f).map fun (i:Nat)=>(i:Int)).map V.int))→Q (.ref l2) H'):CompGoal ix (gTup K 2 (gCons (gName 0) (gCons (gName 1) gNil))) tt te σ Q (Itn K true l) H:=by
 refine comp_gen 2 fr r.length (fun l i ys H'=>ys=(((List.range i).filter f).map fun (i:Nat)=>(i:Int)).map V.int∧i≤r.length) hpk (fun l H' _ _ _=>⟨rfl,Nat.zero_le _⟩) (fun l i ys H' h=>by rw [h.1,List.length_map,List.length_map];exact Nat.le_trans (List.length_filter_le _ _) (by rw [List.length_range];lia)) (fun H' s=>⟨_,sqt_sq (s.at hl),by simp⟩) (fun i H' hi s=>⟨_,_,sqt_sq (s.at hl),int_at hi⟩) (fun l' i x H' H2 own ys ho hi hl0 s hl' hp hy Qy Qn ky kn=>?_) (fun l2 H' ys a b c d=>hQ l2 H' a b (by rw [c,d.1]))
 obtain ⟨o1,o2,rfl⟩:∃ o1 o2,own=[o1,o2]:=by match own,ho with|[o1,o2],_=>exact⟨o1,o2,rfl⟩
 obtain ⟨q,x',rfl,hq,e1,rfl⟩:=hy
 obtain ⟨rfl,_⟩:=int_get (e1 _ (sqt_sq (s.at hl)))
 have s2:=Same.upd_new (o:=.tup [.int (i:Nat),.int (r.getD i 0)]) hq
 refine⟨q,_,rfl,SqT.of upd_same,rfl,_,_,rfl,_,_,rfl,rfl,?_⟩
 refine tst i _ _ hi (s.trans s2) ?_
 cases ef:f i with
 | true =>
  rw [if_pos rfl]
  refine elt i _ _ (s.trans s2) (ky [some (.int i),some (.int (r.getD i 0))] _ _ rfl s2 ⟨?_,hi⟩)
  rw [List.range_succ,List.filter_append,hp.1]
  simp [ef]
 | false =>
  rw [if_neg (by decide)]
  refine kn [some (.int i),some (.int (r.getD i 0))] _ rfl s2 ⟨?_,hi⟩
  rw [List.range_succ,List.filter_append,hp.1]
  simp [ef]
end
end L2
namespace HT
open PySem PySem.Spec PyProof.Rows
section
variable {prog:Program} {w:World} {A:Around} {E:Value→Shared→Prop} {s:Shared}
theorem getItem_tuple_all {t sl:Addr} {items:Array Value} {vl vu:Value} {lo hi:Option Int} {Q:Value→Shared→Prop} (ht:IsTup s.heap t items) (hsl:s.heap.IsSliceOf sl vl vu .none) (pl:IsPart vl lo) (pu:IsPart vu hi)
  (hw:sIx items.size 0 lo=0∧sIx items.size items.size hi=items.size) (h:Q (.ref t) s):wpAny (model prog w) A (getItem (.ref t) (.ref sl)) Q E s:=by
 obtain ⟨os,hos,hcs,hds⟩:=id hsl
 have hTs:s.TypeIs (.ref sl) "slice":=⟨os,hos,hcs⟩
 unfold getItem
 try with_reducible refine wpAny_holding ?_
 first|refine wpAny_bind (wpAny_pure ?_)|skip
 refine wpAny_bind (wpAny_sequenceKey ht.typeIs (by decide) ?_)
 refine wpAny_bind (wpAny_callSpecial?_slot (name:=Str.ofString "__getitem__") ht.typeIs PyProof.Rows.slot_tuple_getitem
  (wpAny_call_entry PyProof.Rows.slot_tuple_getitem ht.typeIs entry_tuple_getitem ?_ (args_tuple_getitem _ _)))
 show wpAny _ _ (Builtin.Tuple.tupleItemsOf (.ref t) >>= _) _ _ s
 refine wpAny_bind (tupleItemsOf_ ht ?_)
 refine wpAny_bind (wpAny_typeOf hTs ?_)
 rw [if_pos (by decide)]
 refine wpAny_bind (sliceApplied_gen hsl pl pu ?_)
 have hyes:(((sIx items.size 0 lo:Nat):Int) == 0 && (1:Int) == 1 && (sIx items.size items.size hi - sIx items.size 0 lo) == items.size)=true:=by
  rw [hw.1,hw.2]
  simp
 show wpAny _ _ (if (((sIx items.size 0 lo:Nat):Int) == 0 && (1:Int) == 1 && (sIx items.size items.size hi - sIx items.size 0 lo) == items.size)=true then _ else _) _ _ s
 rw [if_pos hyes]
 refine wpAny_bind ?_
 unfold Builtin.Tuple.tupleIsExact
 refine wpAny_bind (wpAny_typeOf ht.typeIs (wpAny_pure ?_))
 rw [if_pos (by decide)]
 refine wpAny_bind (wpAny_rule ?_)
 first
  | exact wpAny_pure ⟨_,rfl,wpAny_pure h⟩
  | exact wpAny_bind (wpAny_pure (wpAny_pure ⟨_,rfl,wpAny_pure h⟩))
end
end HT
namespace L2
open PySem PySem.Spec PyProof.Rows
section
variable {X:Cx} {K:PySem.W.Frag} {H:Hp} {Q:VK}
noncomputable def rSlV (K:PySem.W.Frag):V→Option Int→Option Int→Hp→VK→Prop:=fun x lo hi H Q=>∃ a xs,x=.ref a∧SqT K H a xs∧((HT.sIx xs.length 0 lo=0∧HT.sIx xs.length xs.length hi=xs.length∧Q (.ref a) H)∨rSlT K x lo hi H Q)
theorem sl_tupV:SlR X (rSlV X.K):=by
 intro pins s σ H x v vl vu lo hi sl Q I rx hs pl pu h
 obtain ⟨a,xs,rfl,hx,⟨h1,h2,q⟩|h⟩:=h
 ·cases rx
  obtain ⟨its,r,ht,hz⟩:=I.tuple hx
  have hlen:its.toArray.size=xs.length:=by rw [List.size_toArray];exact r.length.symm
  refine⟨"tuple",_,PyProof.Rows.slot_tuple_getitem.lookup,ht.typeIs,?_⟩
  exact HT.getItem_tuple_all ht hs pl pu (by rw [hlen];exact⟨h1,h2⟩) ⟨.ref a,H,I,rfl,q⟩
 ·exact sl_tup pins s σ H _ v vl vu lo hi sl Q I rx hs pl pu h
theorem ksl_tupV (K:PySem.W.Frag) (hK:X.K=K):SlR X (rSlV K):=hK ▸ sl_tupV
theorem r_slV {a:Addr} {xs:List V} {lo hi:Option Int} (e:SqT K H a xs) (h:∀ p H2,Same H H2→SqT K H2 p (cutV xs lo hi)→Q (.ref p) H2):rSlV K (.ref a) lo hi H Q:=by
 refine⟨a,xs,rfl,e,?_⟩
 by_cases c:HT.sIx xs.length 0 lo=0∧HT.sIx xs.length xs.length hi=xs.length
 ·refine .inl ⟨c.1,c.2,h a H (Same.refl _) ?_⟩
  have:cutV xs lo hi=xs:=by
   unfold cutV
   rw [c.1,c.2,Nat.sub_zero,List.drop_zero,List.take_length]
  rw [this]
  exact e
 ·exact .inr ⟨a,xs,rfl,e,c,fun p hp=>h p _ (Same.upd_new hp) (SqT.of upd_same)⟩
end
end L2
namespace L2
open PySem PySem.Spec PyProof.Rows
section
variable {K:PySem.W.Frag} {H:Hp} {σ:St} {Q:VK} {ix:List (Option Nat)}
theorem r_gtup2 {a:Addr} {x y:V} {m n:Nat} {R:St→Hp→Prop} (h:SqT K H a [x,y]) (k:R ((σ.set m (some x)).set n (some y)) H):gTup K 2 (gCons (gName m) (gCons (gName n) gNil)) (.ref a) σ H R:=⟨a,_,rfl,h,rfl,_,_,rfl,_,_,rfl,rfl,k⟩
end
end L2
namespace L2
open PySem PySem.Spec PyProof.Rows
section
variable {K:PySem.W.Frag} {H:Hp} {σ:St} {Q:VK} {ix:List (Option Nat)}
theorem rd_zipT {k1 k2:Bool} {a b:Addr} {r q:List Int} (hpk:pick ix σ=[none,none]) (ha:Sq k1 K H a (r.map V.int)) (hb:Sq k2 K H b (q.map V.int)) (hlen:q.length≤r.length) (hn:r.length≤1000) (hm:∀ i,i<q.length→CMulB (r.getD i 0) (q.getD i 0))
  (hQ:∀ l H',H l=none→Same H H'→H' l=some (.lst ((List.zipWith (·*·) r q).map V.int))→Q (.ref l) H') :
  CompGoal ix (gTup K 2 (gCons (gName 0) (gCons (gName 1) gNil))) (fun _ H Q=>Q true H) (tOp (rI CMulB fun i j=>.int (i*j)) (tVar 0) (tVar 1)) σ Q (Itz K k1 k2 a b) H:=by
 have lz:(List.zipWith (·*·) r q).length=q.length:=by rw [List.length_zipWith];lia
 refine comp_gen 2 [] q.length (fun l i ys H'=>ys=((List.zipWith (·*·) r q).take i).map V.int∧i≤q.length) hpk (fun l H' _ _ _=>⟨rfl,Nat.zero_le _⟩) (fun l i ys H' h=>by rw [h.1,List.length_map,List.length_take];lia) (fun H' s=>⟨_,_,s.sq ha,s.sq hb,.inr (by simp)⟩) (fun i H' hi s=>⟨_,_,_,_,s.sq ha,s.sq hb,int_at (by lia),int_at hi⟩) (fun l' i x H' H2 own ys ho hi hl0 s hl' hp hy Qy Qn ky kn=>?_) (fun l2 H' ys a b c d=>hQ l2 H' a b (by rw [c,d.1,List.take_of_length_le (by lia)]))
 obtain ⟨o1,o2,rfl⟩:∃ o1 o2,own=[o1,o2]:=by match own,ho with|[o1,o2],_=>exact⟨o1,o2,rfl⟩
 obtain ⟨p,x',y',rfl,hq,e1,e2,rfl⟩:=hy
 obtain ⟨rfl,_⟩:=int_get (e1 _ (s.sq ha))
 obtain ⟨rfl,_⟩:=int_get (e2 _ (s.sq hb))
 have s2:=Same.upd_new (o:=.tup [.int (r.getD i 0),.int (q.getD i 0)]) hq
 refine⟨p,_,rfl,SqT.of upd_same,rfl,_,_,rfl,_,_,rfl,rfl,?_⟩
 show ite (true=true) _ _
 rw [if_pos rfl]
 refine⟨_,rfl,_,rfl,_,_,rfl,rfl,hm i hi,?_⟩
 refine ky [some (.int (r.getD i 0)),some (.int (q.getD i 0))] _ _ rfl s2 ⟨?_,hi⟩
 rw [hp.1,List.take_add_one,List.map_append]
 congr 1
 have:(List.zipWith (·*·) r q)[i]?=some (r.getD i 0*q.getD i 0):=by
  rw [List.getElem?_zipWith,List.getElem?_eq_getElem (show i<r.length by lia),List.getElem?_eq_getElem hi,List.getD,List.getD,List.getElem?_eq_getElem (show i<r.length by lia),List.getElem?_eq_getElem hi]
  rfl
 rw [this]
 rfl
theorem rd_rangeRowsX {n:Nat} {te:TE} (fr:St) (f:Nat→List Int) (hpk:pick ix σ=none::fr) (hn:n≤1000)
  (elt:∀ (i:Nat) (H':Hp) (Qc:VK),i<n→Same H H'→(∀ p H5,Same H' H5→SqT K H5 p ((f i).map V.int)→Qc (.ref p) H5)→te (some (.int (i:Int))::fr) H' Qc)
  (hQ:∀ l H' ys,H l=none→Same H H'→H' l=some (.lst ys)→RowsL K H' ys ((List.range n).map f)→Q (.ref l) H'):CompGoal ix (gName 0) (fun _ H Q=>Q true H) te σ Q (Itr 0 n) H:=by
 refine comp_gen 1 fr n (fun l i ys H'=>RowsL K H' ys ((List.range i).map f)∧i≤n) hpk (fun l H' _ _ _=>⟨.nil,Nat.zero_le _⟩) (fun l i ys H' h=>by rw [← h.1.length];simp;lia) (fun H' s=>Nat.le_refl _) (fun i H' hi s=>hi) (fun l i x H' H2 own ys ho hi hl0 s hl' hp hy Qy Qn ky kn=>?_) (fun l H' ys a b c d=>hQ l H' ys a b c d.1)
 obtain ⟨o1,rfl⟩:∃ o1,own=[o1]:=by match own,ho with|[o1],_=>exact⟨o1,rfl⟩
 obtain ⟨rfl,rfl⟩:=hy
 dsimp only [gName]
 rw [if_pos rfl,Int.zero_add]
 refine elt i _ _ hi s fun p H5 s5 hp5=>ky [some (.int i)] _ H5 rfl s5 ⟨?_,hi⟩
 rw [List.range_succ,List.map_append]
 exact ((hp.1.same s5).off (s5 _ _ hl')).snoc (upd_sqT hp5 (s5 _ _ hl'))
end
end L2
namespace L2
open PySem PySem.Spec PyProof.Rows
section
variable {K:PySem.W.Frag} {H:Hp} {σ:St} {Q:VK} {ix:List (Option Nat)}
theorem rd_rangeKeys {n:Nat} {te:TE} (fr:St) (P:Nat→List Int×Int→Prop) (hpk:pick ix σ=none::fr) (hn:n≤1000)
  (elt:∀ (i:Nat) (H':Hp) (Qc:VK),i<n→Same H H'→(∀ p w k H5,Same H' H5→SqT K H5 p [.ref w,.int k.2]→SqT K H5 w (k.1.map V.int)→P i k→Qc (.ref p) H5)→te (some (.int (i:Int))::fr) H' Qc)
  (hQ:∀ l H' ys ks,H l=none→Same H H'→H' l=some (.lst ys)→KeysL K H' ys ks→ks.length=n→(∀ i k,ks[i]?=some k→P i k)→Q (.ref l) H'):CompGoal ix (gName 0) (fun _ H Q=>Q true H) te σ Q (Itr 0 n) H:=by
 refine comp_gen 1 fr n (fun l i ys H'=>∃ ks,KeysL K H' ys ks∧ks.length=i∧i≤n∧∀ j k,ks[j]?=some k→P j k) hpk (fun l H' _ _ _=>⟨[],.nil,rfl,Nat.zero_le _,fun j k h=>by simp at h⟩) (fun l i ys H' h=>by obtain ⟨ks,h1,h2,h3,_⟩:=h;rw [← h1.length];lia) (fun H' s=>Nat.le_refl _) (fun i H' hi s=>hi) (fun l i x H' H2 own ys ho hi hl0 s hl' hp hy Qy Qn ky kn=>?_) (fun l H' ys a b c d=>by obtain ⟨ks,h1,h2,_,h4⟩:=d;exact hQ l H' ys ks a b c h1 h2 h4)
 obtain ⟨ks,h1,h2,h3,h4⟩:=hp
 obtain ⟨o1,rfl⟩:∃ o1,own=[o1]:=by match own,ho with|[o1],_=>exact⟨o1,rfl⟩
 obtain ⟨rfl,rfl⟩:=hy
 dsimp only [gName]
 rw [if_pos rfl,Int.zero_add]
 refine elt i _ _ hi s fun p w k H5 s5 hp hw hk=>ky [some (.int i)] _ H5 rfl s5 ⟨ks++[k],((h1.same s5).off (s5 _ _ hl')).snoc (upd_sqT hp (s5 _ _ hl')) (upd_sqT hw (s5 _ _ hl')),by simp [h2],hi,fun j q hj=>?_⟩
 rw [List.getElem?_append] at hj
 split at hj
 ·exact h4 j q hj
 ·rename_i hge
  have:j=ks.length:=by
   have:=(List.getElem?_eq_some_iff.mp hj).1
   simp at this
   lia
  subst this
  simp at hj
  rw [← hj,h2]
  exact hk
theorem rd_filterKeys {tt:TT} {te:TE} {l:Addr} {xs:List V} {ks:List (List Int×Int)} (fr:St) (f:List Int×Int→Bool) (hpk:pick ix σ=none::fr) (hl:SqL K H l xs) (hk:KeysL K H xs ks) (hn:ks.length≤1000)
  (tst:∀ (a w:Addr) (k:List Int×Int) (H':Hp) (Qt:Bool→Hp→Prop),k∈ks→Same H H'→SqT K H' a [.ref w,.int k.2]→SqT K H' w (k.1.map V.int)→(∀ H5,Same H' H5→Qt (f k) H5)→tt (some (.ref a)::fr) H' Qt)
  (elt:∀ (a:Addr) (H':Hp) (Qc:VK),Same H H'→Qc (.ref a) H'→te (some (.ref a)::fr) H' Qc)
  (hQ:∀ l2 H' ys,H l2=none→Same H H'→H' l2=some (.lst ys)→KeysL K H' ys (ks.filter f)→Q (.ref l2) H'):CompGoal ix (gName 0) tt te σ Q (Itl K l) H:=by
 have hlen:=hk.length
 refine comp_gen 1 fr ks.length (fun l i ys H'=>KeysL K H' ys ((ks.take i).filter f)) hpk (fun l H' _ _ _=>.nil) (fun l i ys H' h=>by rw [← h.length];exact Nat.le_trans (List.length_filter_le _ _) (Nat.le_trans (List.length_take_le' _ _) hn)) (fun H' s=>⟨xs,s.seq hl,by lia⟩) (fun i H' hi s=>⟨xs,xs[i]'(by lia),s.seq hl,List.getElem?_eq_getElem (by lia)⟩) (fun l' i x H' H2 own ys ho hi hl0 s hl' hp hy Qy Qn ky kn=>?_) (fun l2 H' ys a b c d=>hQ l2 H' ys a b c (by rw [List.take_length] at d;exact d))
 obtain ⟨o1,rfl⟩:∃ o1,own=[o1]:=by match own,ho with|[o1],_=>exact⟨o1,rfl⟩
 obtain ⟨rfl,e⟩:=hy
 obtain ⟨a,w,k,rfl,h1,h2,h3⟩:=hk.get (e xs (s.seq hl))
 have hmem:k∈ks:=List.mem_of_getElem? h3
 have et:ks.take (i+1)=ks.take i++[k]:=by rw [List.take_add_one,h3];rfl
 refine tst a w k _ _ hmem s (s.at h1) (s.at h2) fun H5 s5=>?_
 cases ef:f k with
 | true =>
  rw [if_pos rfl]
  refine elt a _ _ (s.trans s5) (ky [some (.ref a)] _ H5 rfl s5 ?_)
  rw [et,List.filter_append]
  simp only [List.filter_cons,ef,List.filter_nil,if_true]
  exact ((hp.same s5).off (s5 _ _ hl')).snoc (upd_sqT ((s.trans s5).at h1) (s5 _ _ hl')) (upd_sqT ((s.trans s5).at h2) (s5 _ _ hl'))
 | false =>
  rw [if_neg (by decide)]
  refine kn [some (.ref a)] _ rfl s5 ?_
  rw [et,List.filter_append]
  simp only [List.filter_cons,ef,List.filter_nil]
  simpa using hp.same s5
end
end L2
set_option maxRecDepth 100000
namespace L2
open PySem PySem.Spec PyProof.Rows PySem.W
theorem law_callS {Pr:Program} {w:World} {K:PySem.W.Frag} {mg mb:Str→Option Value} {CX:CXT} {k:Nat} {fa a:Addr} {fd:FuncData} {x:Str} {sp:Sp} {s₁:Shared} {vs:List Value} {ns:List Int} {tabs:List (Addr×Addr)}
  (hT:TabsAt tabs s₁.heap) (hKt:∀ q∈tabs,K.lookup q.2=none)
  (hbm:∃ bm ob,mg "__builtins__"=some (.ref bm)∧bm≠builtinsNs∧s₁.heap.get? bm=some ob∧ob.cls=.type "module"∧ob.dict=some builtinsNs∧ob.data=.plain)
  (hse:s₁.heap.NoSeer) (KX:K.In s₁.heap) (hns:s₁.heap.Ns mainGlobals mg) (hb:s₁.heap.Ns builtinsNs mb) (hbb:∀ x:Str,x≠"__name__"→mb x=bootBuiltins x) (hlim:s₁.heap.NoLimit) (hg:s₁.gens=#[])
  (ha:s₁.heap.get? a=some { cls:=.type "list",data:=.seq vs.toArray }) (hi:IntsAre vs ns) (hl:ns.length≤sizeLine) (hr:Room k callerA)
  (F:∀ base:Heap,K.In base→base.Ns mainGlobals mg→(∀ q∈tabs,CodeHd base q.1 q.2∧base.BuiltinsAt mg q.2)→base.NoSeer→FnOk Pr w K mg base CX k fa fd [x] sp) (hbind:∀ (s:Shared) (u:Value),BindsTo s fd ⟨[u],[]⟩ [(x,u)])
  (hsp:∀ H:Hp,Tabs0 tabs H→SqL K H a (ns.map V.int)→sp [.ref a] H (fun v _=>v=.bl true) fun _ _ _=>False)
  (hCX:∀ H e s',CX [] H s₁ (fun _ _ _=>False) e s'→False) :
  codeAny (model Pr w) callerA (.call (.ref fa) ⟨[.ref a],[]⟩) (fun r s'=>r=.ok (.ret (.bool true))∧OldK s₁.heap s'.heap∧s'.os=s₁.os∧AllBare s'.gens) s₁:=by
 have rv:=vals_ints hi
 have lenV:=hi.length
 have naT:∀ q∈tabs,q.2≠a:=fun q hq z=>by
  have e:=(hT q hq).2
  rw [z,ha] at e
  cases e
 have core:∀ H:Hp,(∀ b u,H b=some u→(b=a∧K.lookup a=none∧∃ xs,u=.frz { cls:=.type "list",data:=.seq vs.toArray } (.lst xs))∨∃ q∈tabs,q.2=b∧u=.tbl #[])→Tabs0 tabs H→SqL K H a (ns.map V.int)→HOk Pr w H s₁.heap →
   codeAny (model Pr w) callerA (.call (.ref fa) ⟨[.ref a],[]⟩) (fun r s'=>r=.ok (.ret (.bool true))∧OldK s₁.heap s'.heap∧s'.os=s₁.os∧AllBare s'.gens) s₁:=by
  intro H hA h0 hS hok
  have base_of:∀ {b:Addr} {o:Obj},s₁.heap.get? b=some o→H b=none→(hidT s₁.heap H).get? b=some o:=fun e n=>hidT_get e n
  have noD:∀ {b:Addr} {o:Obj},s₁.heap.get? b=some o→(∀ v n,o.data≠.seq v n)→(∀ v,o.data=.fields v→o.cls≠.none)→H b=none:=fun {b o} e d d2=>by
   cases q:H b with
   | none=>rfl
   | some u =>
    rcases hA b u q with ⟨rfl,_⟩|⟨t,ht,rfl,_⟩
    ·rw [ha] at e
     cases e
     exact absurd rfl (d _ _)
    ·rw [(hT t ht).2] at e
     cases e
     exact absurd rfl (d2 _ rfl)
  have noA:∀ {b:Addr} {o:Obj} {es:Array DictEntry} {ep:Nat},s₁.heap.get? b=some o→o.data=.dict es ep→H b=none:=fun e d=>noD e (fun v n z=>by rw [d] at z;cases z) fun v z=>by rw [d] at z;cases z
  have nsK:∀ {b:Addr} {m:Str→Option Value},s₁.heap.Ns b m→(hidT s₁.heap H).Ns b m:=fun {b m} ⟨o,es,ep,e,d,r⟩=>⟨o,es,ep,base_of e (noA e d),d,r⟩
  have hKb:K.In (hidT s₁.heap H):=fun b o e=>base_of (KX b o e) (by
   cases q:H b with
   | none=>rfl
   | some u =>
    rcases hA b u q with ⟨rfl,z,_⟩|⟨t,ht,rfl,_⟩
    ·rw [z] at e;cases e
    ·rw [hKt t ht] at e;cases e)
  have hM:Mod K mg (hidT s₁.heap H):=⟨hKb,nsK hns,⟨mb,nsK hb,hbb⟩,let ⟨mc,h1,h2⟩:=hlim;⟨mc,nsK h1,h2⟩⟩
  have hTb:∀ q∈tabs,CodeHd (hidT s₁.heap H) q.1 q.2∧(hidT s₁.heap H).BuiltinsAt mg q.2:=fun q hq=>by
   refine⟨?_,?_⟩
   ·obtain ⟨o,vs',file,tf,flags,tg,inF,text,tt,e1,e2,e3,r⟩:=(hT q hq).1
    exact⟨o,vs',file,tf,flags,tg,inF,text,tt,base_of e1 (noD e1 (fun v n z=>by rw [e3] at z;cases z) fun v _ z=>by rw [e2] at z;cases z),e2,e3,r⟩
   ·obtain ⟨bm,ob,b1,b2,b3,b4,b5,b6⟩:=hbm
    refine⟨bm,ob,b1,b2,fun z=>?_,fun z=>?_,base_of b3 (noD b3 (fun v n z=>by rw [b6] at z;cases z) fun v z=>by rw [b6] at z;cases z),b4,b5,b6⟩
    ·obtain ⟨o,es,ep,e,hd,_⟩:=hns
     rw [z,e] at b3;cases b3;rw [hd] at b6;cases b6
    ·rw [z,(hT q hq).2] at b3;cases b3;cases b4
  have hSb:(hidT s₁.heap H).NoSeer:=⟨let ⟨mc,a,b⟩:=hse.statics;⟨mc,nsK a,b⟩,let ⟨mm,a,b⟩:=hse.mods;⟨mm,nsK a,b⟩,⟨mb,nsK hb,hbb⟩,let ⟨bm,ob,b1,b2,b3,b4,b5,b6⟩:=hbm;⟨mg,bm,ob,nsK hns,b1,base_of b3 (noD b3 (fun v n z=>by rw [b6] at z;cases z) fun v z=>by rw [b6] at z;cases z),b4,b5⟩⟩
  have e0:Env0 Pr w K mg (hidT s₁.heap H) callerA [] s₁ H:=⟨rfl,hM,fun b o e=>of_hidT e,Nat.le_of_eq (hidT_size _ _),trivial,fun b hb=>absurd (show b∈([]:List Addr) from hb) (by simp),hok,.of_eq hg⟩
  refine codeAny_mono ((F _ hKb (nsK hns) hTb hSb).run callerA [] s₁ H ⟨[.ref a],[]⟩ [.ref a] [.ref a] _ _ hr e0 (hbind s₁ (.ref a)) (.cons rfl .nil) (hsp H h0 hS)) fun r s' h=>?_
  cases r with
  | error e=>exact (hCX H e s' h).elim
  | ok fl =>
   cases fl with
   | next=>exact False.elim h
   | brk=>exact False.elim h
   | cont=>exact False.elim h
   | ret u =>
    obtain ⟨v,H',os,bare,un,hok',r',q⟩:=h
    have q':v=.bl true:=q
    subst q'
    obtain rfl:u=Value.bool true:=r'
    have was:∀ b o,s₁.heap.get? b=some o→asItWas s₁.heap s'.heap b o∧∃ o',s'.heap.get? b=some o':=fun b o e=>by
     cases q:H b with
     | none =>
      have z:=un.keep b o e q (by intro z;exact absurd (show b∈([]:List Addr) from z) (by simp)) (by simp)
      exact⟨.inl z,_,z⟩
     | some u =>
      rcases hA b u q with ⟨rfl,_,xs,rfl⟩|⟨t,ht,rfl,rfl⟩
      ·have z2:=un.frzs b _ _ q
       obtain ⟨e1,_⟩:=hok b _ q
       obtain ⟨e2,_⟩:=hok' b _ z2
       rw [e] at e1;cases e1
       exact⟨.inl e2,_,e2⟩
      ·obtain ⟨more,z2⟩:=un.tbls t.2 _ q
       have e2:s'.heap.get? t.2=some { cls:=.none,data:=.fields (#[]++more) }:=hok' t.2 _ z2
       have e1:=(hT t ht).2
       rw [e] at e1
       cases e1
       exact⟨.inr (.inl ⟨((hT t ht).1.tab (hT t ht).2).isCodeTable,rfl,#[],more,rfl,e2⟩),_,e2⟩
    exact⟨rfl,⟨fun b o e=>(was b o e).1,fun b o e=>(was b o e).2⟩,os,bare⟩
 have tabOk:∀ (H:Hp) q,q∈tabs→ObjOk Pr w H s₁.heap q.2 (.tbl #[]):=fun H q hq=>(hT q hq).2
 cases hk:K.lookup a with
 | some o =>
  have e:=KX a o hk
  rw [ha] at e
  cases e
  refine core (fun b=>if (tabs.any fun q=>q.2 == b)=true then some (.tbl #[]) else none) (fun b u z=>?_) (fun q hq=>if_pos (List.any_eq_true.mpr ⟨q,hq,by simp⟩)) (.inr ⟨_,vs.toArray,_,hk,rfl,rfl,rfl,by rw [List.size_toArray,lenV];exact hl,by simpa using rv⟩) (fun b u z=>?_)
  ·by_cases hb:(tabs.any fun q=>q.2 == b)=true
   ·have z':=(if_pos hb).symm.trans z
    cases z'
    obtain ⟨q,hq,e⟩:=List.any_eq_true.mp hb
    exact .inr ⟨q,hq,beq_iff_eq.mp e,rfl⟩
   ·have z':=(if_neg hb).symm.trans z
    cases z'
  ·by_cases hb:(tabs.any fun q=>q.2 == b)=true
   ·have z':=(if_pos hb).symm.trans z
    cases z'
    obtain ⟨q,hq,e⟩:=List.any_eq_true.mp hb
    rw [← beq_iff_eq.mp e]
    exact tabOk _ q hq
   ·have z':=(if_neg hb).symm.trans z
    cases z'
 | none =>
  have aT:¬ (tabs.any fun q=>q.2 == a)=true:=fun z=>by
   obtain ⟨q,hq,e⟩:=List.any_eq_true.mp z
   exact naT q hq (beq_iff_eq.mp e)
  obtain ⟨H,hH⟩:∃ H:Hp,H=fun b=>if (tabs.any fun q=>q.2 == b)=true then some (.tbl #[]) else if b=a then some (.frz { cls:=.type "list",data:=.seq vs.toArray } (.lst (ns.map V.int))) else none:=⟨_,rfl⟩
  have hHa:H a=some (.frz { cls:=.type "list",data:=.seq vs.toArray } (.lst (ns.map V.int))):=by
   rw [hH]
   show (if _ then _ else _)=_
   rw [if_neg aT,if_pos rfl]
  have hHt:Tabs0 tabs H:=fun q hq=>by
   rw [hH]
   exact if_pos (List.any_eq_true.mpr ⟨q,hq,by simp⟩)
  have all:∀ b u,H b=some u→(b=a∧u=.frz { cls:=.type "list",data:=.seq vs.toArray } (.lst (ns.map V.int)))∨∃ q∈tabs,q.2=b∧u=.tbl #[]:=fun b u z=>by
   rw [hH] at z
   have z:(if (tabs.any fun q=>q.2 == b)=true then some (HO.tbl #[]) else if b=a then some (.frz { cls:=.type "list",data:=.seq vs.toArray } (.lst (ns.map V.int))) else none)=some u:=z
   by_cases hb:(tabs.any fun q=>q.2 == b)=true
   ·rw [if_pos hb] at z
    cases z
    obtain ⟨q,hq,e⟩:=List.any_eq_true.mp hb
    exact .inr ⟨q,hq,beq_iff_eq.mp e,rfl⟩
   ·rw [if_neg hb] at z
    by_cases h2:b=a
    ·rw [if_pos h2] at z
     cases z
     exact .inl ⟨h2,rfl⟩
    ·rw [if_neg h2] at z
     cases z
  refine core H (fun b u z=>(all b u z).imp (fun ⟨e,eu⟩=>⟨e,hk,_,eu⟩) id) hHt (.inl (.inr ⟨_,hHa⟩)) fun b u z=>?_
  rcases all b u z with ⟨rfl,rfl⟩|⟨q,hq,rfl,rfl⟩
  ·exact⟨ha,by rw [List.length_map];exact hl,vs,_,rv,ha⟩
  ·exact tabOk _ q hq
theorem walk_ofS {l:PySem.W.OpenLaw} {k:Nat} {pq:Program} {loose:List Str} {XP:(Str→Option Value)→Heap→Prop} {YP:World→Heap→Prop} {d:DefRec} {K:Params→PySem.W.Frag} {x:Str} {c P:Addr} (y:Str) (lp:Pos) (q:Str)
  (hi:importsNone pq=true) (hn:l.most=some 63) (hdf:d.params.defaults=[]) (hr:Room k callerA)
  (hY:∀ (w:World) (h:Heap),YP w h→(K w.params).In h∧h.get? P=some (tabObj #[])) (ht:∀ w:World,tabIn (K w.params) y=some (c,P)) (hh:∀ w:World,codeHdIn (K w.params) c P=true) (hk:∀ w:World,(K w.params).lookup P=none)
  (F:∀ (w:World) (mg:Str→Option Value) (fa:Addr) (h:Heap),(K w.params).In h→h.Ns mainGlobals mg→mg d.name=some (.ref fa)→tabIn (K w.params) y=some (c,P) →
   ∃ fd:FuncData,(∀ (s:Shared) (u:Value),BindsTo s fd ⟨[u],[]⟩ [(x,u)]) ∧
    ∀ base:Heap,(K w.params).In base→base.Ns mainGlobals mg→CodeHd base c P→base.BuiltinsAt mg P→base.NoSeer→FnOk l.prog w (K w.params) mg base CX0 k fa fd [x] (spLawT y lp q (K w.params))) :
  PySem.W.WalkO pq loose XP YP l.row.toRowW d [] (fun f vs=>PySem.call f vs):=by
 refine Att.attach_call hn hdf fun w s₀ s₁ mg mb fa o pm cd doc a vs ns G Y ho hd hcd hmg hobj hints hlen hg=>?_
 obtain ⟨KX,hP⟩:=hY w _ Y
 obtain ⟨fd,hb,hF⟩:=F w mg fa _ KX G.T.g hmg (ht w)
 refine law_callS (tabs:=[(c,P)]) (fun t h1=>?_) (fun t h1=>?_) G.T.bmain (G.T.seer hi) KX G.T.g G.T.b G.T.builtins G.T.nolimit hg hobj hints (Nat.le_trans hlen (by decide)) hr (fun base b1 b2 b3 b4=>hF base b1 b2 (b3 (c,P) (.head _)).1 (b3 (c,P) (.head _)).2 b4) hb (fun H hO hS=>⟨a,ns,rfl,hS,hlen,?_,fun _=>rfl⟩) fun H e s' z=>z
 ·rw [List.mem_singleton.mp h1]
  exact⟨codeHd_of_K KX (hh w),hP⟩
 ·rw [List.mem_singleton.mp h1]
  exact hk w
 ·rw [tabP_of (ht w)]
  exact⟨#[],hO (c,P) (.head _),trivial,.inl rfl⟩
theorem op_fdivP {X:Cx} {e:Env} {l:List Env} (Y:X.base.NoSeer∧X.prog.given.tree=none) (hst:X.stack=e::l) (h1:e.scope.isGenerator=false) (h2:e.scope.isCoroutine=false) (h3:e.builtins=builtinsNs) (h4:e.globals=mainGlobals) (hr:Room 32 X.A) :
  OpR X (binaryOp .FloorDiv) (rI (fun _ j=>j≠0) fun i j=>.int (i.fdiv j)):=by
 intro pins s σ H x y v u Q I rx ry h
 obtain ⟨i,j,rfl,rfl,hc,q⟩:=h
 obtain ⟨t,rfl⟩:=rx
 obtain ⟨t',rfl⟩:=ry
 have hd:X.A.depth+Builtin.pylongFrames<recursionLimit:=by
  have:=hr.dp
  have e1:Builtin.pylongFrames=100:=rfl
  lia
 exact floordiv_int hc ⟨.int (i.fdiv j),H,I.tok _,⟨_,rfl⟩,q⟩ (.inr (PylongRoom.of I.nolimit hd (SeerAt.of (Y.1.keeps I.bk) Y.2 (by rw [I.ok.frames,hst]) h1 h2 h3 h4)))
end L2
namespace L2
open PySem PySem.Spec PyProof.Rows PySem.W
theorem op_fdivPB {X:Cx} {e:Env} {l:List Env} (Y:X.base.NoSeer∧X.prog.given.tree=none) (hst:X.stack=e::l) (h1:e.scope.isGenerator=false) (h2:e.scope.isCoroutine=false) (h3:e.builtins=builtinsNs) (h4:e.globals=mainGlobals) (hr:Room 32 X.A) :
  OpR X (binaryOp .FloorDiv) (rI (fun _ j=>0<j) fun i j=>.int (i / j)):=by
 intro pins s σ H x y v u Q I rx ry h
 obtain ⟨i,j,rfl,rfl,hc,q⟩:=h
 have hc':(0:Int)<j:=hc
 exact op_fdivP Y hst h1 h2 h3 h4 hr pins s σ H _ _ v u Q I rx ry ⟨i,j,rfl,rfl,(by lia:j≠0),by show Q (.int (i.fdiv j)) H;rw [Int.fdiv_eq_ediv_of_nonneg i (by lia)];exact q⟩
end L2
set_option maxRecDepth 100000
namespace L2
open PySem PySem.Spec PyProof.Rows
noncomputable def CMulW (i j:Int):Prop:=bitsI i+bitsI j≤134217728
theorem CMulW.ok {i j:Int} (h:CMulW i j):IntMulOk i j:=by
 unfold IntMulOk
 intro z
 simp only [Bool.and_eq_true,decide_eq_true_eq] at z
 have z2:=z.2
 unfold Builtin.Int.intTooBig at z2
 have h':Builtin.Int.intBits i+Builtin.Int.intBits j≤134217728:=h
 have b:(134217728:Int)≤bitsLine:=by decide
 simp only [decide_eq_true_eq] at z2
 lia
theorem op_mulW {X:Cx}:OpR X (binaryOp .Mult) (rI CMulW fun i j=>.int (i*j)):=opI fun _ _ _ _ _ _ _ hc q=>mul_int q hc.ok
section
variable {K:PySem.W.Frag} {H:Hp} {σ:St} {Q:VK} {ix:List (Option Nat)} {l:Addr} {xs:List V} {rs:List (List Int)}
theorem rd_filterMapRows {tt:TT} {te:TE} (fr:St) (f:List Int→Bool) (g:List Int→List Int) (hpk:pick ix σ=none::fr) (hl:SqL K H l xs) (hr:RowsL K H xs rs) (hn:rs.length≤1000)
  (test:∀ (a:Addr) (r:List Int) (H':Hp) (Qt:Bool→Hp→Prop),r∈rs→Same H H'→SqT K H' a (r.map V.int)→(∀ H5,Same H' H5→Qt (f r) H5)→tt (some (.ref a)::fr) H' Qt)
  (elt:∀ (a:Addr) (r:List Int) (H':Hp) (Qc:VK),r∈rs→f r=true→Same H H'→SqT K H' a (r.map V.int)→(∀ p H5,Same H' H5→SqT K H5 p ((g r).map V.int)→Qc (.ref p) H5)→te (some (.ref a)::fr) H' Qc)
  (hQ:∀ l2 H' ys,H l2=none→Same H H'→H' l2=some (.lst ys)→RowsL K H' ys ((rs.filter f).map g)→Q (.ref l2) H'):CompGoal ix (gName 0) tt te σ Q (Itl K l) H:=by
 have hlen:=hr.length
 refine comp_rows (K:=K) 1 fr rs.length (fun i=>((rs.take i).filter f).map g) hpk rfl (fun i=>by rw [List.length_map];exact Nat.le_trans (List.length_filter_le _ _) (Nat.le_trans (List.length_take_le' _ _) hn)) (fun H' s=>⟨xs,s.seq hl,by lia⟩) (fun i H' hi s=>⟨xs,xs[i]'(by lia),s.seq hl,List.getElem?_eq_getElem (by lia)⟩) (fun i x H' H2 own ho hi s hy Qy Qn ky kn=>?_) (fun l2 H' ys a b c d=>hQ l2 H' ys a b c (by rw [List.take_length] at d;exact d))
 obtain ⟨o1,rfl⟩:∃ o1,own=[o1]:=by match own,ho with|[o1],_=>exact⟨o1,rfl⟩
 obtain ⟨rfl,e⟩:=hy
 obtain ⟨a,r,rfl,ha,hi2⟩:=hr.get (e xs (s.seq hl))
 have hmem:r∈rs:=List.mem_of_getElem? hi2
 have et:=take_filter (f:=f) hi2
 dsimp only [gName]
 refine test a r _ _ hmem s (s.at ha) fun H5 s5=>?_
 cases ef:f r with
 | true =>
  rw [ef] at et
  rw [if_pos rfl]
  exact elt a r H5 _ hmem ef (s.trans s5) ((s.trans s5).at ha) fun p H6 s6 hp=>ky [some (.ref a)] p (g r) H6 rfl (s5.trans s6) hp (by rw [et];simp)
 | false =>
  rw [ef] at et
  rw [if_neg (by decide)]
  exact kn [some (.ref a)] H5 rfl s5 (by rw [et];simp)
end
theorem KeysL.sameT {K:PySem.W.Frag} {H H':Hp} {P:Addr} {lp:Pos} {q:Str} (s:SameT P H H') (t:TabH P lp q H):∀ {xs:List V} {ks:List (List Int×Int)},KeysL K H xs ks→KeysL K H' xs ks
 | _,_,.nil=>.nil
 | _,_,.cons h hw u=>.cons (s.at t h) (s.at t hw) (KeysL.sameT s t u)
end L2
set_option maxRecDepth 100000
namespace L2
open PySem PySem.Spec PyProof.Rows
section
variable {X:Cx} {a:Addr} {kvs:List (Key×V)}
noncomputable def reps (c:Nat) (n:Nat):Str:=⟨Array.replicate n c⟩
end
end L2
namespace L2
open PySem PySem.Spec PyProof.Rows
noncomputable abbrev compCxK (X:Cx) (pins:List (Addr×Obj)) (N:List Str) (scope:Scope) (C:Addr) (s:Shared) (H:Hp) (fp:List Addr):Cx :=
 { X with N:=N,s₀:=s,H₀:=H,env:=compEnvC scope (cellsFrom (C+1) scope.names []) C X.env,outer:=X.stack,stack:=X.stack,ex:=fp,fn:=fun _=>true,pn:=X.pn++pins,xe:=fun _ _=>False }
theorem relabel_id {env:Env}:∀ {names:List (Str×NameKind)},(∀ y∈names,y.2≠.free) →
  (names.map fun (n,k)=>if (k == NameKind.free && env.scope.kind == .function && env.kindOf n == some .cell) then (n,NameKind.cell) else (n,k))=names
 | [],_=>rfl
 | (n,k)::r,h=>by
  have hk:k≠.free:=h (n,k) List.mem_cons_self
  have e:(k == NameKind.free)=false:=by simpa using hk
  rw [List.map_cons,relabel_id fun y hy=>h y (List.mem_cons_of_mem _ hy)]
  simp [e]
theorem clOf_nofree {cells:List (Str×Addr)}:∀ {names:List (Str×NameKind)} {acc:List (Str×Addr)},(∀ y∈names,y.2≠.free)→clOf cells names acc=acc
 | [],_,_=>rfl
 | (n,k)::r,acc,h=>by
  have hk:k≠.free:=h (n,k) List.mem_cons_self
  have e:(k == NameKind.free)=false:=by simpa using hk
  unfold clOf
  rw [e]
  exact clOf_nofree fun y hy=>h y (List.mem_cons_of_mem _ hy)
theorem cellsFrom_has:∀ {names:List (Str×NameKind)} {acc:List (Str×Addr)} {n:Nat} {x:Str},(names.lookup x=some .cell∨∃ c,acc.lookup x=some c)→∃ c,(cellsFrom n names acc).lookup x=some c
 | [],_,_,_,h=>by
  rcases h with h|h
  ·simp at h
  ·exact h
 | (m,k)::r,acc,n,x,h=>by
  unfold cellsFrom
  cases hx:x == m with
  | true =>
   by_cases hk:k=.cell
   ·subst hk
    simp only [beq_self_eq_true,if_true]
    exact cellsFrom_has (.inr ⟨n,by rw [List.lookup_cons,hx]⟩)
   ·have hk':(k == NameKind.cell)=false:=by simpa using hk
    rw [hk']
    simp only [Bool.false_eq_true,if_false]
    refine cellsFrom_has (.inr ?_)
    rcases h with h|h
    ·rw [List.lookup_cons,hx] at h
     exact absurd (Option.some.inj h) hk
    ·exact h
  | false =>
   split
   ·refine cellsFrom_has ?_
    rcases h with h|⟨c,h⟩
    ·rw [List.lookup_cons,hx] at h;exact .inl h
    ·exact .inr ⟨c,by rw [List.lookup_cons,hx];exact h⟩
   ·refine cellsFrom_has ?_
    rcases h with h|h
    ·rw [List.lookup_cons,hx] at h;exact .inl h
    ·exact .inr h
theorem newEnvK {M:Model} {A:Around} {E:Value→Shared→Prop} {s:Shared} {scope:Scope} {globals:Addr} {qual:Str} {outer:Env} {Q:Env→Shared→Prop}
  (hQ:Q { scope:=scope,locals:=s.heap.objs.size,globals:=globals,cells:=cellsFrom (s.heap.objs.size+1) scope.names [],qual:=qual,func:=none,code:=outer.code,frame:=outer.frame,builtins:=outer.builtins }
   { s with heap:=pushCells (s.heap.push { cls:=.type "dict",data:=.dict #[] }) scope.names }) :
  wpAny M A (newFunctionEnv scope globals [] [] qual none .none (some outer)) Q E s:=by
 simp only [newFunctionEnv,Option.isSome_some,if_true]
 refine wpAny_bind (wpAny_alloc ?_)
 refine wpAny_bind (wpAny_layCells _ (fun name kind cells=>by cases hkc:kind == NameKind.cell <;> simp [hkc]) _ _ _ _ ?_)
 rw [show ({ s with heap:=s.heap.push { cls:=.type "dict",data:=.dict #[] } }:Shared).heap.objs.size=s.heap.objs.size+1 from Heap.size_push ..]
 rw [List.forIn_nil]
 exact wpAny_bind (wpAny_pure (wpAny_pure hQ))
section
variable {X:Cx}
theorem ps_setCK {y : Str} {py spos : Pos} {k : Nat} {tg iter elt : Expr} {ifs : List Expr} {scope : Scope} {pos : Pos} {N : List Str} {ix : List (Option Nat)} {wi : TI} {g : TG} {tt : TT} {te : TE}
    (hN : X.N.Nodup) (hk0 : X.N[k]?=some y) (hy : Loc X.env.scope y) (hc : X.calm=true) (hi : PI X tg iter wi)
    (hg : ∀ pins C s H fp, PG (compCxK X pins N scope C s H fp) tg g)
    (ht : ∀ pins C s H fp, PTs (compCxK X pins N scope C s H fp) ifs tt)
    (he : ∀ pins C s H fp, PE (compCxK X pins N scope C s H fp) elt te)
    (hk : scope.kind=.function) (hfree : ∀ y ∈ scope.names, y.2 ≠ .free) (hnames : ∀ y ∈ scope.names, y.2=.local → scope.names.lookup y.1=some .local)
    (hix : ix=N.map fun _ => none)
    (hs : ∀ x, foldedSetIterable iter X.env x=pure x := by intro _;rfl)
    (hsw : swapsWith (.ListComp elt [⟨tg, iter, ifs, 0⟩] scope pos) (some (.Name y py)) spos.line X.env=pure true := by rfl)
    (hf : X.fn y=true ∨ X.env.scope.names.lookup y=some .local := by first|exact .inl rfl|exact .inr rfl|assumption) :
    PS X (.Assign [.Name y py] (.ListComp elt [⟨tg, iter, ifs, 0⟩] scope pos) spos) (tAsg (tComp ix wi g tt te) (gName k)) := by
  intro pins s σ H D I h
  replace h : wi σ H fun J H1 => CompGoal ix g tt te σ (fun x H1 => D.nx (σ.set k (some x)) H1) J H1 := h
  have hfr' : ∀ p ∈ scope.names, p.2=.free → ∃ c, X.env.cells.lookup p.1=some c := fun p hp e => absurd e (hfree p hp)
  have hcl0 : closureFor scope X.env=pure [] := by rw [closure_eq hfr', clOf_nofree hfree]
  rw [exec_Assign_Name_used _ _ _ _ hsw]
  refine wpAny_bind (wpAny_standAt (wpAny_bind ?_))
  show wpAny _ X.A (do let _ ← comprehension (.ListComp elt [⟨tg, iter, ifs, 0⟩] scope pos) scope X.env _ (newList []) false (eval iter X.env) (some (assign (.Name y py) X.env))) _ _ s
  refine wpAny_bind (wpAny_mono (wpAny_comprehension_free (use := some (assign (.Name y py) X.env)) (Q := fun _ s' => SP X pins D .next s') rfl hs hcl0 hk hnames (thn (hi pins s σ H _ I h) fun v s1 h1 => thn h1 fun itv s2 h2 => ?_)) (fun _ s' hq => wpAny_pure (wpAny_pure hq)) fun _ _ e => e)
  obtain ⟨it, fp, tn, J, H2, e, I2, T, st2, f2, hW⟩ := h2
  subst e
  have hfree2 : H2 s2.heap.objs.size=none := I2.hok.fresh (Nat.le_refl _)
  obtain ⟨W, ⟨m0, w0⟩, turn⟩ := hW s2.heap.objs.size hfree2
  refine wpAny_newObj_type ?_
  have I3 : Inv X pins σ (upd H2 s2.heap.objs.size (.lst [])) { s2 with heap := s2.heap.push { cls := .type "list", data := .seq ([] : List Value).toArray } } := I2.lnew (its := []) (t' := s2.toks) .nil (Nat.zero_le _)
  have f3 : ∀ b ∈ fp, FpOk X pins (upd H2 s2.heap.objs.size (.lst [])) b := fun b hb => by
    refine⟨?_, (f2 b hb).2⟩
    obtain ⟨o, eo, _⟩ := T.obj _ _ st2 b hb
    rw [upd_ne (Nat.ne_of_lt (Heap.lt_size eo))]
    exact (f2 b hb).1
  have st3 : tn 0 (s2.heap.push { cls := .type "list", data := .seq ([] : List Value).toArray }) := T.keep _ _ _ st2 fun b _ o e => Heap.get?_push_of_some _ e
  generalize hs3 : ({ s2 with heap := s2.heap.push { cls := .type "list", data := .seq ([] : List Value).toArray } } : Shared)=s3 at I3
  have st3 : tn 0 s3.heap := by rw [← hs3];exact st3
  generalize hH3 : upd H2 s2.heap.objs.size (.lst [])=H3 at I3 f3 w0
  generalize hacc : s2.heap.objs.size=acc at *
  refine newEnvK ?_
  generalize hh1 : pushCells (s3.heap.push { cls := .type "dict", data := .dict #[] }) scope.names=h₁
  have old : ∀ b o, s3.heap.get? b=some o → h₁.get? b=some o := fun b o q => by rw [← hh1];exact pushCells_keeps _ _ b o (Heap.get?_push_of_some _ q)
  have hns₁ : h₁.Ns s3.heap.objs.size (fun _ => none) := by rw [← hh1];exact (Heap.Ns.new s3.heap (.type "dict")).keeps (pushCells_keeps _ _)
  have cok : CellsOk h₁ (s3.heap.objs.size+1) (cellsFrom (s3.heap.objs.size+1) scope.names []) := by
    have ok := cellsFrom_ok scope.names (s3.heap.push { cls := .type "dict", data := .dict #[] }) (s3.heap.objs.size+1) [] ⟨fun _ _ hm => (nomatch hm), List.Pairwise.nil⟩ (by rw [Heap.size_push];exact Nat.le_refl _)
    rw [Heap.size_push, hh1] at ok
    exact ok
  have cbig : ∀ x c, (cellsFrom (s3.heap.objs.size+1) scope.names []).lookup x=some c → s3.heap.objs.size<c := fun x c q => (cok.empty x c (PySem.mem_of_lookup q)).2
  have hCfree : H3 s3.heap.objs.size=none := I3.hok.fresh (Nat.le_refl _)
  have fpl : ∀ b ∈ fp, b<s3.heap.objs.size := fun b hb => by
    obtain ⟨o, eo, _⟩ := T.obj _ _ st3 b hb
    exact Heap.lt_size eo
  have nstk : ∀ b, b ≠ X.env.locals → b ∉ X.fs → b ∉ frs X.stack := fun b h1 h2 z => by
    rcases List.mem_cons.mp (I3.stkSub b z) with q|q
    · exact h1 q
    · exact h2 q
  have clt : ∀ x c, X.env.cells.lookup x=some c → c<s3.heap.objs.size := fun x c q => by
    obtain ⟨v, z⟩ := I3.cell x c q
    exact z.lt
  have YI : Inv (compCxK X pins N scope s3.heap.objs.size s3 H3 fp) [] (pick ix σ) H3 { s3 with heap := h₁ } := by
    refine⟨⟨I3.ok.mod, hk, I3.ok.glob, I3.ok.blt, Nat.le_refl _, fun x y c q1 q2 => name_of_addr cok.apart (PySem.mem_of_lookup q1) (PySem.mem_of_lookup q2), fun x hx => ?_, fun x c _ q => Nat.le_of_lt (cbig x c q),
      I3.ok.hd, I3.ok.frames, .inl rfl, fun b hb => ⟨Nat.ne_of_lt (fpl b hb), fun x c q => Nat.ne_of_gt (Nat.lt_trans (fpl b hb) (cbig x c q))⟩, I3.bs, Nat.le_trans I3.ok.bsz I3.sz, fun b o e hb => ?_, fun b hb => nstk b (f3 b hb).2.1 (f3 b hb).2.2.1, I3.stack, I3.stkFree⟩,
      rfl, I3.bare, Un.kept old, ⟨_, hns₁, fun i x v h1 h2 h3 => ?_⟩, fun x c q => ⟨_, (cok.empty x c (PySem.mem_of_lookup q)).1⟩, hCfree, fun x c q => I3.hok.fresh (Nat.le_of_lt (cbig x c q)), fun p hp => ?_, I3.hok.kept old, ?_⟩
    · have e : (relabel scope X.env).names=scope.names := relabel_id hfree
      have hx' : scope.names.lookup x=some .cell ∨ scope.names.lookup x=some .free := by rw [← e];exact hx
      rcases hx' with z|z
      · exact cellsFrom_has (.inl z)
      · exact absurd rfl (hfree (x, .free) (PySem.mem_of_lookup z))
    · have q := (I3.bs b o e).2
      rcases (f3 b hb).2.2.2.1 with z|z
      · exact I3.ok.noex b o e z
      · exact absurd (Nat.lt_of_lt_of_le (Heap.lt_size e) (Nat.le_trans I3.ok.bsz z)) (Nat.lt_irrefl _)
    · obtain ⟨j, e1, e2⟩ := pick_get h2
      rw [hix, List.getElem?_map] at e1
      cases q : N[i]? with
      | none => rw [q] at e1;cases e1
      | some z => rw [q] at e1;cases e1
    · have hp' : p ∈ X.pn++pins := by simpa using hp
      obtain ⟨a1, a2, a3, a4, a5⟩ := I3.pin p hp'
      exact⟨old _ _ a1, a2, Nat.ne_of_lt (Heap.lt_size a1), nstk p.1 a3 a4, a5⟩
    · show (pick ix σ).length=N.length
      unfold pick
      rw [List.length_map, hix, List.length_map]
  have fpY : ∀ {pl : List (Addr × Obj)} {H' : Hp}, pl=[] → (∀ b ∈ fp, H' b=none) → ∀ b ∈ fp, FpOk (compCxK X pins N scope s3.heap.objs.size s3 H3 fp) pl H' b := fun {pl H'} epl hn b hb => by
    obtain ⟨f0, f1, f2', f3', f4, f5⟩ := f3 b hb
    subst epl
    exact⟨hn b hb, Nat.ne_of_lt (fpl b hb), nstk b f1 f2', .inl hb, fun x c q => Nat.ne_of_gt (Nat.lt_trans (fpl b hb) (cbig x c q)), fun p hp => f5 p (by simpa using hp)⟩
  have loop : codeAny (model X.prog X.w) X.A (.compLoop (.ListComp elt [⟨tg, iter, ifs, 0⟩] scope pos) 0 (.ref it) (.ref acc) (compEnvC scope (cellsFrom (s3.heap.objs.size+1) scope.names []) s3.heap.objs.size X.env))
        (compPost (model X.prog X.w) X.A X.xe (some (assign (.Name y py) X.env)) (fun _ s' => SP X pins D .next s') (.ref acc) s3.heap.objs.size) { s3 with heap := h₁ } := by
    refine comp_loop (E := fun _ _ => False) (fun _ _ z => z.elim)
      (fun n s' => ∃ i σ' ys H', Inv (compCxK X pins N scope s3.heap.objs.size s3 H3 fp) [] σ' H' s' ∧ tn i s'.heap ∧ (∀ b ∈ fp, H' b=none) ∧ W i n σ' ys H') ?_ m0
      ⟨0, pick ix σ, [], H3, YI, T.keep _ _ _ st3 fun b _ o q => old b o q, fun b hb => (f3 b hb).1, w0⟩
    rintro n s5 ⟨i, σ5, ys, H5, I5, st5, fr5, w5⟩
    obtain ⟨hl5, hstep⟩ := turn i n σ5 ys H5 w5
    rcases hstep with ⟨stop, q⟩|⟨go, m', hm', step⟩
    · refine thn (T.done (compCxK X pins N scope s3.heap.objs.size s3 H3 fp) rfl rfl rfl hc i [] s5 σ5 H5 (fun _ _ => False) I5 (fpY rfl fr5) st5 stop) fun r s6 ⟨hr, I6⟩ => ?_
      subst hr
      obtain ⟨m6, hn6, _⟩ := I6.loc
      have I6X : Inv X pins σ H5 s6 := I3.call' (ch := fp) I6.os I6.base I6.hok I6.bare fun b hb => by
        obtain ⟨f0, f1, f2', f3', f4, f5⟩ := f3 b hb
        exact⟨f3', f1, f4, f5⟩
      have neL : X.env.locals ≠ s3.heap.objs.size := fun z => by
        obtain ⟨m, ⟨o, _, _, ho, _⟩, _⟩ := I3.loc
        exact Nat.lt_irrefl _ (z ▸ Heap.lt_size ho)
      have neCl : ∀ x c, X.env.cells.lookup x=some c → c ≠ s3.heap.objs.size := fun x c e => Nat.ne_of_lt (clt x c e)
      refine wpAny_assign_Name (store_ok2 (u := .ref acc) (v := .ref acc) I6X hN hk0 hy rfl (fun s7 I7 ⟨a7, sb7, ha7⟩ => ?_) hf)
      have na7 : s3.heap.objs.size ≠ a7 := by
        rcases ha7 with z|z
        · exact fun w => neL (z ▸ w.symm)
        · exact fun w => neCl _ _ z w.symm
      refine⟨m6, hn6.sameBut sb7 na7, fun h' sb => ?_⟩
      refine⟨σ.set k (some (.ref acc)), H5, Inv.step2 (ch := [s3.heap.objs.size]) I7 (fun b hb => ?_) (fun b o _ _ nb e _ => (sb.2 b (fun z => nb (by rw [z];exact List.mem_singleton.mpr rfl))).trans e) (fun b o _ _ nb e _ => ⟨o.slots, (sb.2 b (fun z => nb (by rw [z];exact List.mem_singleton.mpr rfl))).trans e⟩)
        (fun _ _ _ _ e => e) (fun b o nb e => ⟨o, (sb.2 b (fun z => nb (by rw [z];exact List.mem_singleton.mpr rfl))).trans e⟩) (fun _ _ e => e) (fun _ _ _ e => e) (fun b ps e => ⟨#[], by simpa using e⟩) (fun m hm => hm.sameBut sb neL) (I7.hok.letGo I6.free sb), q⟩
      have eb : b=s3.heap.objs.size := List.mem_singleton.mp hb
      subst eb
      refine⟨?_, Ne.symm neL, neCl, fun p hp => Nat.ne_of_lt (Heap.lt_size (I3.pin p hp).1)⟩
      cases q9 : X.s₀.heap.get? s3.heap.objs.size with
      | none => rfl
      | some o => exact absurd (Nat.lt_of_lt_of_le (Heap.lt_size q9) I3.sz) (Nat.lt_irrefl _)
    · refine thn (T.item (compCxK X pins N scope s3.heap.objs.size s3 H3 fp) rfl rfl rfl hc i [] s5 σ5 H5 (fun _ _ => False) I5 (fpY rfl fr5) st5 go) fun r s6 ⟨u, hr, h6⟩ => ?_
      subst hr
      refine thn h6 fun _ s7 ⟨x, H7, I7, r7, y7, st7, fr7⟩ => ?_
      have I7' := I7.pinned (fpY rfl fr7) (T.obj _ _ st7)
      refine thn (hg pins s3.heap.objs.size s3 H3 fp _ s7 σ5 H7 x u _ I7' r7 (step x H7 y7)) fun _ s8 ⟨σ8, H8, I8, q8⟩ => ?_
      refine thn (wp_tests (ht pins s3.heap.objs.size s3 H3 fp) I8 q8) fun b s9 ⟨H9, I9, q9⟩ => ?_
      have back : ∀ {σz : St} {Hz : Hp} {sz : Shared} {yz : List V}, Inv (compCxK X pins N scope s3.heap.objs.size s3 H3 fp) ([]++pinsAt fp s7.heap) σz Hz sz → W (i+1) m' σz yz Hz →
          ∃ m, m<n ∧ ∃ i σ' ys H', Inv (compCxK X pins N scope s3.heap.objs.size s3 H3 fp) [] σ' H' sz ∧ tn i sz.heap ∧ (∀ b ∈ fp, H' b=none) ∧ W i m σ' ys H' := fun {σz Hz sz yz} Iz wz => by
        refine⟨m', hm', i+1, σz, yz, Hz, Iz.unpinned, T.keep _ _ _ st7 fun b hb o e => (Iz.pin (b, o) (List.mem_append_right _ (List.mem_append_right _ (mem_pinsAt hb e)))).1, fun b hb => ?_, wz⟩
        obtain ⟨o, e, d⟩ := T.obj _ _ st7 b hb
        exact (Iz.pin (b, o) (List.mem_append_right _ (List.mem_append_right _ (mem_pinsAt hb e)))).2.1
      cases b with
      | false => exact back I9 q9
      | true =>
        refine thn (he pins s3.heap.objs.size s3 H3 fp _ s9 σ8 H9 _ I9 q9) fun v s10 ⟨y, H10, I10, r10, hl10, hz10, w10⟩ => ?_
        refine thn (mt_append _ s10 σ8 H10 (.ref acc) [y] (.ref acc) [v] (fun _ H' => H'=upd H10 acc (.lst (ys++[y]))) I10 rfl (.cons r10 .nil) ⟨acc, ys, y, rfl, rfl, hl10, hz10, rfl⟩) fun _ s11 ⟨_, H11, I11, _, e11⟩ => ?_
        subst e11
        exact back I11 w10
  exact codeAny_compStart_list loop (T.self _ 0 _ _ _ (T.keep _ _ _ st3 fun b _ o q => old b o q) loop)
end
end L2
set_option maxRecDepth 100000
namespace Srt
open PySem PySem.W PyProof.Rows
section
variable {n:Nat} {key:Nat→Int}
noncomputable def ky (key:Nat→Int) (p:Array Nat) (i:Nat):Int:=key (p.getD i 0)
end
end Srt
namespace L2
open PySem PySem.Spec PySem.W PyProof.Rows
noncomputable def lk (r:List Int):Int:=r.foldl (fun k a=>k*4000001+a) 0
end L2
namespace L2
open PySem PySem.Spec PyProof.Rows
noncomputable abbrev compCxM (X:Cx) (pins:List (Addr×Obj)) (N:List Str) (scope:Scope) (C:Addr) (s:Shared) (H:Hp) (fp:List Addr):Cx :=
 { X with N:=N,s₀:=s,H₀:=H,env:=compEnvC scope (cellsFrom (C+1) scope.names []++clOf X.env.cells scope.names []) C X.env,outer:=X.stack,stack:=X.stack,ex:=fp,fn:=fun x=>scope.names.lookup x == some .cell,pn:=X.pn++pins,xe:=fun _ _=>False }
theorem cellsFrom_app {acc:List (Str×Addr)}:∀ (names:List (Str×NameKind)) (n:Nat) (pre:List (Str×Addr)),cellsFrom n names (pre++acc)=cellsFrom n names pre++acc
 | [],_,_=>rfl
 | (y,k)::r,n,pre=>by
  unfold cellsFrom
  split
  ·rw [← List.cons_append,cellsFrom_app r]
  ·rw [cellsFrom_app r]
theorem cellsFrom_mem:∀ {names:List (Str×NameKind)} {acc:List (Str×Addr)} {n:Nat} {x:Str} {c:Addr},(cellsFrom n names acc).lookup x=some c→acc.lookup x=some c∨(x,NameKind.cell)∈names
 | [],_,_,_,_,h=>.inl h
 | (m,k)::r,acc,n,x,c,h=>by
  unfold cellsFrom at h
  by_cases hk:k=.cell
  ·subst hk
   simp only [beq_self_eq_true,if_true] at h
   rcases cellsFrom_mem h with z|z
   ·cases hx:x == m with
    | true=>rw [beq_iff_eq.mp hx];exact .inr List.mem_cons_self
    | false=>rw [List.lookup_cons,hx] at z;exact .inl z
   ·exact .inr (List.mem_cons_of_mem _ z)
  ·have hk':(k == NameKind.cell)=false:=by simpa using hk
   rw [hk'] at h
   simp only [Bool.false_eq_true,if_false] at h
   exact (cellsFrom_mem h).imp id fun z=>List.mem_cons_of_mem _ z
theorem relabel_two {env : Env} : ∀ {names : List (Str × NameKind)} {x : Str},
    ((names.map fun (n, k) => if (k == NameKind.free && env.scope.kind == .function && env.kindOf n == some .cell) then (n, NameKind.cell) else (n, k)).lookup x=some .cell ∨
     (names.map fun (n, k) => if (k == NameKind.free && env.scope.kind == .function && env.kindOf n == some .cell) then (n, NameKind.cell) else (n, k)).lookup x=some .free) → names.lookup x=some .cell ∨ names.lookup x=some .free
  | [], _, h => by simp at h
  | (n, k)::r, x, h => by
    have ih := @relabel_two env r x
    rw [List.map_cons] at h
    cases hx : x == n with
    | true =>
      rw [List.lookup_cons, hx]
      by_cases hcnd : (k == NameKind.free && env.scope.kind == .function && env.kindOf n == some .cell)=true
      · have : k=.free := by
          simp only [Bool.and_eq_true, beq_iff_eq] at hcnd
          exact hcnd.1.1
        rw [this]
        exact .inr rfl
      · simp only [hcnd, Bool.false_eq_true, if_false, List.lookup_cons, hx] at h
        exact h
    | false =>
      rw [List.lookup_cons, hx]
      refine ih ?_
      by_cases hcnd : (k == NameKind.free && env.scope.kind == .function && env.kindOf n == some .cell)=true
      · simp only [hcnd, if_true, List.lookup_cons, hx] at h
        exact h
      · simp only [hcnd, Bool.false_eq_true, if_false, List.lookup_cons, hx] at h
        exact h
theorem newEnvM {M:Model} {A:Around} {E:Value→Shared→Prop} {s:Shared} {scope:Scope} {globals:Addr} {cl:List (Str×Addr)} {qual:Str} {outer:Env} {Q:Env→Shared→Prop}
  (hQ:Q { scope:=scope,locals:=s.heap.objs.size,globals:=globals,cells:=cellsFrom (s.heap.objs.size+1) scope.names []++cl,qual:=qual,func:=none,code:=outer.code,frame:=outer.frame,builtins:=outer.builtins }
   { s with heap:=pushCells (s.heap.push { cls:=.type "dict",data:=.dict #[] }) scope.names }) :
  wpAny M A (newFunctionEnv scope globals cl [] qual none .none (some outer)) Q E s:=by
 simp only [newFunctionEnv,Option.isSome_some,if_true]
 refine wpAny_bind (wpAny_alloc ?_)
 refine wpAny_bind (wpAny_layCells _ (fun name kind cells=>by cases hkc:kind == NameKind.cell <;> simp [hkc]) _ _ _ _ ?_)
 rw [show ({ s with heap:=s.heap.push { cls:=.type "dict",data:=.dict #[] } }:Shared).heap.objs.size=s.heap.objs.size+1 from Heap.size_push ..]
 rw [List.forIn_nil,show cellsFrom (s.heap.objs.size+1) scope.names cl=cellsFrom (s.heap.objs.size+1) scope.names []++cl from cellsFrom_app scope.names _ []]
 exact wpAny_bind (wpAny_pure (wpAny_pure hQ))
section
variable {X:Cx}
theorem pe_compM {tg iter elt : Expr} {ifs : List Expr} {scope : Scope} {pos : Pos} {N : List Str} {ix : List (Option Nat)} {wi : TI} {g : TG} {tt : TT} {te : TE}
    (hc : X.calm=true) (hi : PI X tg iter wi)
    (hg : ∀ pins C s H fp, PG (compCxM X pins N scope C s H fp) tg g)
    (ht : ∀ pins C s H fp, PTs (compCxM X pins N scope C s H fp) ifs tt)
    (he : ∀ pins C s H fp, PE (compCxM X pins N scope C s H fp) elt te)
    (hk : scope.kind=.function) (hnames : ∀ y ∈ scope.names, y.2=.local → scope.names.lookup y.1=some .local) (hcells : ∀ y ∈ scope.names, y.2=.cell → scope.names.lookup y.1=some .cell)
    (hfr0 : (scope.names.all fun y => !(y.2 == NameKind.free) || (X.env.cells.lookup y.1).isSome)=true) (hix : IxOk X scope N ix)
    (hs : ∀ x, foldedSetIterable iter X.env x=pure x := by intro _;rfl) :
    PE X (.ListComp elt [⟨tg, iter, ifs, 0⟩] scope pos) (tComp ix wi g tt te) := by
  intro pins s σ H Q I h
  have hfr : ∀ y ∈ scope.names, y.2=.free → (X.env.cells.lookup y.1).isSome=true := fun y hy e => by
    have z := List.all_eq_true.mp hfr0 y hy
    rw [e] at z
    simpa using z
  have hfr' : ∀ p ∈ scope.names, p.2=.free → ∃ c, X.env.cells.lookup p.1=some c := fun p hp e => Option.isSome_iff_exists.mp (hfr p hp e)
  have clsub : ∀ x c, (clOf X.env.cells scope.names []).lookup x=some c → X.env.cells.lookup x=some c := clOf_sub (fun x c q => by simp at q)
  have clhas : ∀ x, scope.names.lookup x=some .free → ∃ c, (clOf X.env.cells scope.names []).lookup x=some c := fun x hx => by
    have hm := PySem.mem_of_lookup hx
    exact Option.isSome_iff_exists.mp (clOf_has (.inr ⟨hm, hfr _ hm rfl⟩))
  have hcl0 : closureFor scope X.env=pure (clOf X.env.cells scope.names []) := closure_eq hfr'
  rw [eval_ListComp]
  refine wpAny_comprehension_free (use := none) rfl hs hcl0 hk hnames (thn (hi pins s σ H _ I h) fun v s1 h1 => thn h1 fun itv s2 h2 => ?_)
  obtain ⟨it, fp, tn, J, H2, e, I2, T, st2, f2, hW⟩ := h2
  subst e
  have hfree2 : H2 s2.heap.objs.size=none := I2.hok.fresh (Nat.le_refl _)
  obtain ⟨W, ⟨m0, w0⟩, turn⟩ := hW s2.heap.objs.size hfree2
  refine wpAny_newObj_type ?_
  have I3 : Inv X pins σ (upd H2 s2.heap.objs.size (.lst [])) { s2 with heap := s2.heap.push { cls := .type "list", data := .seq ([] : List Value).toArray } } := I2.lnew (its := []) (t' := s2.toks) .nil (Nat.zero_le _)
  have f3 : ∀ b ∈ fp, FpOk X pins (upd H2 s2.heap.objs.size (.lst [])) b := fun b hb => by
    refine⟨?_, (f2 b hb).2⟩
    obtain ⟨o, eo, _⟩ := T.obj _ _ st2 b hb
    rw [upd_ne (Nat.ne_of_lt (Heap.lt_size eo))]
    exact (f2 b hb).1
  have st3 : tn 0 (s2.heap.push { cls := .type "list", data := .seq ([] : List Value).toArray }) := T.keep _ _ _ st2 fun b _ o e => Heap.get?_push_of_some _ e
  generalize hs3 : ({ s2 with heap := s2.heap.push { cls := .type "list", data := .seq ([] : List Value).toArray } } : Shared)=s3 at I3
  have st3 : tn 0 s3.heap := by rw [← hs3];exact st3
  generalize hH3 : upd H2 s2.heap.objs.size (.lst [])=H3 at I3 f3 w0
  generalize hacc : s2.heap.objs.size=acc at *
  refine newEnvM ?_
  generalize hh1 : pushCells (s3.heap.push { cls := .type "dict", data := .dict #[] }) scope.names=h₁
  have old : ∀ b o, s3.heap.get? b=some o → h₁.get? b=some o := fun b o q => by rw [← hh1];exact pushCells_keeps _ _ b o (Heap.get?_push_of_some _ q)
  have hns₁ : h₁.Ns s3.heap.objs.size (fun _ => none) := by rw [← hh1];exact (Heap.Ns.new s3.heap (.type "dict")).keeps (pushCells_keeps _ _)
  have cok : CellsOk h₁ (s3.heap.objs.size+1) (cellsFrom (s3.heap.objs.size+1) scope.names []) := by
    have ok := cellsFrom_ok scope.names (s3.heap.push { cls := .type "dict", data := .dict #[] }) (s3.heap.objs.size+1) [] ⟨fun _ _ hm => (nomatch hm), List.Pairwise.nil⟩ (by rw [Heap.size_push];exact Nat.le_refl _)
    rw [Heap.size_push, hh1] at ok
    exact ok
  have cbig : ∀ x c, (cellsFrom (s3.heap.objs.size+1) scope.names []).lookup x=some c → s3.heap.objs.size<c := fun x c q => (cok.empty x c (PySem.mem_of_lookup q)).2
  have clt : ∀ x c, X.env.cells.lookup x=some c → c<s3.heap.objs.size := fun x c q => by
    obtain ⟨v, z⟩ := I3.cell x c q
    exact z.lt
  have two : ∀ {x c}, (cellsFrom (s3.heap.objs.size+1) scope.names []++clOf X.env.cells scope.names []).lookup x=some c → (cellsFrom (s3.heap.objs.size+1) scope.names []).lookup x=some c ∨ X.env.cells.lookup x=some c := fun {x c} q => by
    rw [List.lookup_append] at q
    cases e : (cellsFrom (s3.heap.objs.size+1) scope.names []).lookup x with
    | none => rw [e, Option.none_or] at q;exact .inr (clsub x c q)
    | some d => rw [e, Option.some_or] at q;exact .inl q
  have hCfree : H3 s3.heap.objs.size=none := I3.hok.fresh (Nat.le_refl _)
  have fpl : ∀ b ∈ fp, b<s3.heap.objs.size := fun b hb => by
    obtain ⟨o, eo, _⟩ := T.obj _ _ st3 b hb
    exact Heap.lt_size eo
  have nstk : ∀ b, b ≠ X.env.locals → b ∉ X.fs → b ∉ frs X.stack := fun b h1 h2 z => by
    rcases List.mem_cons.mp (I3.stkSub b z) with q|q
    · exact h1 q
    · exact h2 q
  have YI : Inv (compCxM X pins N scope s3.heap.objs.size s3 H3 fp) [] (pick ix σ) H3 { s3 with heap := h₁ } := by
    refine⟨⟨I3.ok.mod, hk, I3.ok.glob, I3.ok.blt, Nat.le_refl _, fun x y c q1 q2 => ?_, fun x hx => ?_, fun x c hf q => ?_,
      I3.ok.hd, I3.ok.frames, .inl rfl, fun b hb => ⟨Nat.ne_of_lt (fpl b hb), fun x c q => (two q).elim (fun q => Nat.ne_of_gt (Nat.lt_trans (fpl b hb) (cbig x c q))) fun q => (f3 b hb).2.2.2.2.1 x c q⟩, I3.bs, Nat.le_trans I3.ok.bsz I3.sz, fun b o e hb => ?_, fun b hb => nstk b (f3 b hb).2.1 (f3 b hb).2.2.1, I3.stack, I3.stkFree⟩,
      rfl, I3.bare, Un.kept old, ⟨_, hns₁, fun i x v h1 h2 h3 => ?_⟩, fun x c q => ?_, hCfree, fun x c q => (two q).elim (fun q => I3.hok.fresh (Nat.le_of_lt (cbig x c q))) fun q => I3.freeC x c q, fun p hp => ?_, I3.hok.kept old, ?_⟩
    · rcases two q1 with z1|z1 <;> rcases two q2 with z2|z2
      · exact name_of_addr cok.apart (PySem.mem_of_lookup z1) (PySem.mem_of_lookup z2)
      · exact absurd (Nat.lt_trans (cbig x c z1) (clt y c z2)) (Nat.lt_irrefl _)
      · exact absurd (Nat.lt_trans (cbig y c z2) (clt x c z1)) (Nat.lt_irrefl _)
      · exact I3.ok.inj x y c z1 z2
    · show ∃ c, (cellsFrom (s3.heap.objs.size+1) scope.names []++clOf X.env.cells scope.names []).lookup x=some c
      rw [List.lookup_append]
      rcases relabel_two hx with z|z
      · obtain ⟨c, e⟩ := cellsFrom_has (acc := []) (n := s3.heap.objs.size+1) (.inl z)
        exact⟨c, by rw [e, Option.some_or]⟩
      · obtain ⟨c, e⟩ := clhas x z
        cases e2 : (cellsFrom (s3.heap.objs.size+1) scope.names []).lookup x with
        | none => exact⟨c, by rw [Option.none_or, e]⟩
        | some d => exact⟨d, by rw [Option.some_or]⟩
    · have hf' : scope.names.lookup x=some .cell := by simpa using hf
      obtain ⟨d, e⟩ := cellsFrom_has (acc := []) (n := s3.heap.objs.size+1) (.inl hf')
      have q' : (cellsFrom (s3.heap.objs.size+1) scope.names []++clOf X.env.cells scope.names []).lookup x=some c := q
      rw [List.lookup_append, e, Option.some_or] at q'
      cases q'
      exact Nat.le_of_lt (cbig x _ e)
    · have q := (I3.bs b o e).2
      rcases (f3 b hb).2.2.2.1 with z|z
      · exact I3.ok.noex b o e z
      · exact absurd (Nat.lt_of_lt_of_le (Heap.lt_size e) (Nat.le_trans I3.ok.bsz z)) (Nat.lt_irrefl _)
    · obtain ⟨j, e1, e2⟩ := pick_get h2
      obtain ⟨a1, a2, a3, a4⟩ := hix.get h1 e1
      obtain ⟨mX, hnX, hlX⟩ := I3.loc
      obtain ⟨u, ru, l⟩ := hlX j x v a1 e2 a2
      refine⟨u, ru, ?_⟩
      rcases l with ⟨l1, _⟩|⟨_, c, lc, z⟩
      · have l1' : X.env.scope.names.lookup x=some .local := l1
        rw [l1'] at a3
        exact absurd a3 (by decide)
      · obtain ⟨c', hc'⟩ := clhas x a4
        have ec := clsub x c' hc'
        rw [lc] at ec
        have ec' : c=c' := Option.some.inj ec
        subst ec'
        refine .inr ⟨relabel_free a4, c, ?_, z.keeps old⟩
        show (cellsFrom (s3.heap.objs.size+1) scope.names []++clOf X.env.cells scope.names []).lookup x=some c
        rw [List.lookup_append]
        cases e3 : (cellsFrom (s3.heap.objs.size+1) scope.names []).lookup x with
        | none => rw [Option.none_or];exact hc'
        | some d =>
          rcases cellsFrom_mem e3 with w|w
          · simp at w
          · have := hcells _ w rfl
            rw [a4] at this
            cases this
    · rcases two q with q|q
      · exact⟨_, (cok.empty x c (PySem.mem_of_lookup q)).1⟩
      · obtain ⟨v, z⟩ := I3.cell x c q
        exact⟨v, z.keeps old⟩
    · have hp' : p ∈ X.pn++pins := by simpa using hp
      obtain ⟨a1, a2, a3, a4, a5⟩ := I3.pin p hp'
      exact⟨old _ _ a1, a2, Nat.ne_of_lt (Heap.lt_size a1), nstk p.1 a3 a4, a5⟩
    · show (pick ix σ).length=N.length
      unfold pick
      rw [List.length_map]
      exact hix.len
  have fpY : ∀ {pl : List (Addr × Obj)} {H' : Hp}, pl=[] → (∀ b ∈ fp, H' b=none) → ∀ b ∈ fp, FpOk (compCxM X pins N scope s3.heap.objs.size s3 H3 fp) pl H' b := fun {pl H'} epl hn b hb => by
    obtain ⟨f0, f1, f2', f3', f4, f5⟩ := f3 b hb
    subst epl
    exact⟨hn b hb, Nat.ne_of_lt (fpl b hb), nstk b f1 f2', .inl hb, fun x c q => (two q).elim (fun q => Nat.ne_of_gt (Nat.lt_trans (fpl b hb) (cbig x c q))) fun q => f4 x c q, fun p hp => f5 p (by simpa using hp)⟩
  have loop : codeAny (model X.prog X.w) X.A (.compLoop (.ListComp elt [⟨tg, iter, ifs, 0⟩] scope pos) 0 (.ref it) (.ref acc) (compEnvC scope (cellsFrom (s3.heap.objs.size+1) scope.names []++clOf X.env.cells scope.names []) s3.heap.objs.size X.env))
        (compPost (model X.prog X.w) X.A X.xe none (EP X pins σ Q) (.ref acc) s3.heap.objs.size) { s3 with heap := h₁ } := by
    refine comp_loop (E := fun _ _ => False) (fun _ _ z => z.elim)
      (fun n s' => ∃ i σ' ys H', Inv (compCxM X pins N scope s3.heap.objs.size s3 H3 fp) [] σ' H' s' ∧ tn i s'.heap ∧ (∀ b ∈ fp, H' b=none) ∧ W i n σ' ys H') ?_ m0
      ⟨0, pick ix σ, [], H3, YI, T.keep _ _ _ st3 fun b _ o q => old b o q, fun b hb => (f3 b hb).1, w0⟩
    rintro n s5 ⟨i, σ5, ys, H5, I5, st5, fr5, w5⟩
    obtain ⟨hl5, hstep⟩ := turn i n σ5 ys H5 w5
    rcases hstep with ⟨stop, q⟩|⟨go, m', hm', step⟩
    · refine thn (T.done (compCxM X pins N scope s3.heap.objs.size s3 H3 fp) rfl rfl rfl hc i [] s5 σ5 H5 (fun _ _ => False) I5 (fpY rfl fr5) st5 stop) fun r s6 ⟨hr, I6⟩ => ?_
      subst hr
      obtain ⟨m6, hn6, _⟩ := I6.loc
      refine⟨m6, hn6, fun h' sb => ?_⟩
      refine⟨.ref acc, H5, I3.call' (ch := fp) I6.os (I6.base.letGo (Nat.le_refl _) sb) (I6.hok.letGo I6.free sb) I6.bare fun b hb => ?_, rfl, q⟩
      obtain ⟨f0, f1, f2', f3', f4, f5⟩ := f3 b hb
      exact⟨f3', f1, f4, f5⟩
    · refine thn (T.item (compCxM X pins N scope s3.heap.objs.size s3 H3 fp) rfl rfl rfl hc i [] s5 σ5 H5 (fun _ _ => False) I5 (fpY rfl fr5) st5 go) fun r s6 ⟨u, hr, h6⟩ => ?_
      subst hr
      refine thn h6 fun _ s7 ⟨x, H7, I7, r7, y7, st7, fr7⟩ => ?_
      have I7' := I7.pinned (fpY rfl fr7) (T.obj _ _ st7)
      refine thn (hg pins s3.heap.objs.size s3 H3 fp _ s7 σ5 H7 x u _ I7' r7 (step x H7 y7)) fun _ s8 ⟨σ8, H8, I8, q8⟩ => ?_
      refine thn (wp_tests (ht pins s3.heap.objs.size s3 H3 fp) I8 q8) fun b s9 ⟨H9, I9, q9⟩ => ?_
      have back : ∀ {σz : St} {Hz : Hp} {sz : Shared} {yz : List V}, Inv (compCxM X pins N scope s3.heap.objs.size s3 H3 fp) ([]++pinsAt fp s7.heap) σz Hz sz → W (i+1) m' σz yz Hz →
          ∃ m, m<n ∧ ∃ i σ' ys H', Inv (compCxM X pins N scope s3.heap.objs.size s3 H3 fp) [] σ' H' sz ∧ tn i sz.heap ∧ (∀ b ∈ fp, H' b=none) ∧ W i m σ' ys H' := fun {σz Hz sz yz} Iz wz => by
        refine⟨m', hm', i+1, σz, yz, Hz, Iz.unpinned, T.keep _ _ _ st7 fun b hb o e => (Iz.pin (b, o) (List.mem_append_right _ (List.mem_append_right _ (mem_pinsAt hb e)))).1, fun b hb => ?_, wz⟩
        obtain ⟨o, e, d⟩ := T.obj _ _ st7 b hb
        exact (Iz.pin (b, o) (List.mem_append_right _ (List.mem_append_right _ (mem_pinsAt hb e)))).2.1
      cases b with
      | false => exact back I9 q9
      | true =>
        refine thn (he pins s3.heap.objs.size s3 H3 fp _ s9 σ8 H9 _ I9 q9) fun v s10 ⟨y, H10, I10, r10, hl10, hz10, w10⟩ => ?_
        refine thn (mt_append _ s10 σ8 H10 (.ref acc) [y] (.ref acc) [v] (fun _ H' => H'=upd H10 acc (.lst (ys++[y]))) I10 rfl (.cons r10 .nil) ⟨acc, ys, y, rfl, rfl, hl10, hz10, rfl⟩) fun _ s11 ⟨_, H11, I11, _, e11⟩ => ?_
        subst e11
        exact back I11 w10
  exact codeAny_compStart_list loop (T.self _ 0 _ _ _ (T.keep _ _ _ st3 fun b _ o q => old b o q) loop)
end
end L2
set_option maxRecDepth 100000
set_option maxRecDepth 100000
set_option maxRecDepth 100000
set_option maxRecDepth 100000
set_option maxRecDepth 100000
namespace L2
open PySem PySem.Spec PyProof.Rows PySem.W
noncomputable def rIndexD (K:PySem.W.Frag):V→List V→Hp→VK→Prop:=fun x vs H Q=>∃ (p:Addr) (ys:List V) (y:V) (d:PyData) (ds:List PyData) (j:Nat),x=.ref p∧vs=[y]∧SqL K H p ys∧Tells K H ys ds∧Tell K H y d∧PyData.canLayAll0 ds=true∧d.canLay0=true∧d.depth≤60∧j≤1000∧(∃ z,ds[j]?=some z∧PyData.eqv z d=true)∧(∀ (m:Nat) (z:PyData),m<j→ds[m]?=some z→PyData.eqv z d=false)∧Q (.int (j:Int)) H
theorem mt_indexD {X:Cx} (hu:X.A.units+64<cLine):MtR X "list.index" (rIndexD X.K):=by
 intro pins s σ H x vs v us Q I rx rs h
 obtain ⟨p,ys,y,d,ds,j,rfl,rfl,hs,ht,hd,c1,c2,hz,hj,⟨z0,hz0,hz1⟩,hno,q⟩:=h
 obtain ⟨u,rfl,ru⟩:=vals1 rs
 obtain ⟨as,ra⟩:=(Tell.lst hs ht).reads I rx
 obtain ⟨bs,rb⟩:=hd.reads I ru
 cases ra with
 | @list a o its n _ as h1 h2 h3 h4 =>
  obtain ⟨cls,dd,data,sl⟩:=o
  simp only at h2 h3
  subst h2 h3
  have hm:=SeqAt.readsAll_map ds _ _ c1 h4
  have hat:∀ (m:Nat) (hm':m<its.size),ds[m]?=some (SeqAt.readOf s.heap its[m]):=fun m hm'=>by
   rw [← hm,List.getElem?_map,Array.getElem?_toList,Array.getElem?_eq_getElem hm']
   rfl
  have hjs:j<its.size:=by
   have e:(its.toList.map (SeqAt.readOf s.heap)).length=ds.length:=by rw [hm]
   rw [List.length_map,Array.length_toList] at e
   have:=(List.getElem?_eq_some_iff.mp hz0).1
   lia
  refine call_meets F.slot_list_index ⟨_,h1,rfl⟩ F.entry_list_index (F.args_list_index_2 _ _) (SeqAt.list_indexAt _ its n dd sl u (fun w=>PyData.eqv (SeqAt.readOf s.heap w) d) j hjs (by lia) ?_ (fun m hm' hmj=>?_)) ⟨h1,SeqAt.items_eqAt h4 rb c1 c2 (by have:=Nat.min_le_right (PyData.depthAll ds) d.depth;lia),⟨.int _,H,I.tok _,⟨_,rfl⟩,q⟩⟩
  ·have:=hat j hjs
   rw [hz0] at this
   cases this
   exact hz1
  ·exact hno m _ hmj (hat m hm')
theorem kmt_indexD {X:Cx} (K:PySem.W.Frag) (hK:X.K=K) (hu:X.A.units+64<cLine):MtR X "list.index" (rIndexD K):=hK ▸ mt_indexD hu
theorem r_indexD {K:PySem.W.Frag} {H:Hp} {Q:VK} {p:Addr} {ys:List V} {y:V} {d:PyData} {ds:List PyData} (j:Nat) (hs:SqL K H p ys) (ht:Tells K H ys ds) (hd:Tell K H y d) (c1:PyData.canLayAll0 ds=true) (c2:d.canLay0=true) (hz:d.depth≤60) (hj:j≤1000) (h1:∃ z,ds[j]?=some z∧PyData.eqv z d=true) (h2:∀ (m:Nat) (z:PyData),m<j→ds[m]?=some z→PyData.eqv z d=false) (h:Q (.int (j:Int)) H):rIndexD K (.ref p) [y] H Q:=⟨p,ys,y,d,ds,j,rfl,rfl,hs,ht,hd,c1,c2,hz,hj,h1,h2,h⟩
end L2
set_option maxRecDepth 100000
set_option maxRecDepth 100000
set_option maxRecDepth 100000
set_option maxRecDepth 100000
set_option maxRecDepth 100000
set_option maxRecDepth 100000
namespace L2
namespace Mat
noncomputable def up (ts:List Nat) (a:Int) (u:Nat→Int):Nat→Int:=fun x=>if x∈ts then u x+a else u x
section
variable {n:Nat} {W:Nat→Nat→Int} {u v:Nat→Int} {g c:Nat→Option Nat} {first:Nat} {ts:List Nat} {os:List (Nat×Nat)}
noncomputable def st (f:Nat→Option Nat) (i:Nat) (x:Option Nat):Nat→Option Nat:=fun k=>if k=i then x else f k
end
end Mat
end L2
set_option maxRecDepth 100000
set_option maxRecDepth 100000
set_option maxRecDepth 100000
namespace L2
open PySem PySem.Spec PyProof.Rows
noncomputable def rMinI (K:PySem.W.Frag):List V→Hp→VK→Prop:=fun xs H Q=>∃ (a:Addr) (ns:List Int),xs=[.ref a]∧SqL K H a (ns.map V.int)∧ns≠[]∧∀ m,m∈ns→(∀ x∈ns,m≤x)→Q (.int m) H
section
variable {X:Cx}
theorem call_minI (hc:X.calm=true):CallR X (.builtin "min") (rMinI X.K):=by
 intro pins s σ H xs us Q I r h
 obtain ⟨a,ns,rfl,hs,hne,q⟩:=h
 obtain ⟨u,rfl,ru⟩:=vals1 r
 cases ru
 obtain ⟨its,rv,p,_⟩:=I.list hs
 have hl:s.heap.IsList a its.toArray:=by
  obtain ⟨o,n,g1,g2,g3⟩:=p
  exact⟨o,g1,g2,n,g3.2⟩
 have hh:X.A.handled=none:=I.ok.hd hc
 have hi:IntsAre its ns:=intsAre_of rv
 obtain ⟨zs,hx⟩:=hi.allInts.items
 have hn:numsOf its.toArray.toList=ns:=by rw [show its.toArray.toList=its from rfl,hi.numsOf]
 rw [hx] at hl hn
 rw [nums_intItems] at hn
 have hsz:0<zs.size:=by
  rcases Nat.eq_zero_or_pos zs.size with z|z
  ·exfalso;apply hne;rw [← hn];apply List.eq_nil_of_length_eq_zero;rw [List.length_map,Array.length_toList,z]
  ·exact z
 refine min_intList hh hl hsz fun v h' tk hv hk=>?_
 obtain ⟨t,rfl⟩:=intItems_at hv
 obtain ⟨h1,h2⟩:=argBest_lt (numAt zs) (zs.size - 1)
 refine⟨.int _,H,I.kept (t':=tk) hk,⟨t,rfl⟩,q _ ?_ fun b hb=>?_⟩
 ·rw [← hn,numAt_eq];exact getD_mem (by rw [List.length_map,Array.length_toList];lia)
 ·rw [← hn] at hb
  obtain ⟨j,hj,rfl⟩:=mem_getD hb
  rw [List.length_map,Array.length_toList] at hj
  rw [← numAt_eq];exact h2 j (by lia)
theorem kN_minI (K:PySem.W.Frag) (hK:X.K=K) (hc:X.calm=true):CallR X (.builtin "min") (rMinI K):=hK ▸ call_minI hc
end
theorem rd_minI {K:PySem.W.Frag} {H:Hp} {Q:VK} {a:Addr} {ns:List Int} (e:SqL K H a (ns.map V.int)) (n:ns≠[]) (h:∀ m,m∈ns→(∀ x∈ns,m≤x)→Q (.int m) H):rMinI K [.ref a] H Q:=⟨a,ns,rfl,e,n,h⟩
end L2
namespace L2
open PySem PySem.Spec PyProof.Rows
section
variable {K:PySem.W.Frag} {H:Hp} {σ:St} {Q:VK} {ix:List (Option Nat)}
theorem rd_rowsKeys {te:TE} {l:Addr} {xs:List V} {rs:List (List Int)} (fr:St) (g:List Int→List Int×Int) (hpk:pick ix σ=none::fr) (hl:SqL K H l xs) (hr:RowsL K H xs rs) (hn:rs.length≤1000)
  (elt:∀ (a:Addr) (r:List Int) (H':Hp) (Qc:VK),r∈rs→Same H H'→SqT K H' a (r.map V.int)→(∀ p w H5,Same H' H5→SqT K H5 p [.ref w,.int (g r).2]→SqT K H5 w ((g r).1.map V.int)→Qc (.ref p) H5)→te (some (.ref a)::fr) H' Qc)
  (hQ:∀ l2 H' ys,H l2=none→Same H H'→H' l2=some (.lst ys)→KeysL K H' ys (rs.map g)→Q (.ref l2) H'):CompGoal ix (gName 0) (fun _ H Q=>Q true H) te σ Q (Itl K l) H:=by
 have hlen:=hr.length
 refine comp_gen 1 fr rs.length (fun l i ys H'=>KeysL K H' ys ((rs.take i).map g)) hpk (fun l H' _ _ _=>.nil) (fun l i ys H' h=>by rw [← h.length,List.length_map];exact Nat.le_trans (List.length_take_le' _ _) hn) (fun H' s=>⟨xs,s.seq hl,by lia⟩) (fun i H' hi s=>⟨xs,xs[i]'(by lia),s.seq hl,List.getElem?_eq_getElem (by lia)⟩) (fun l' i x H' H2 own ys ho hi hl0 s hl' hp hy Qy Qn ky kn=>?_) (fun l2 H' ys a b c d=>hQ l2 H' ys a b c (by rw [List.take_length] at d;exact d))
 obtain ⟨o1,rfl⟩:∃ o1,own=[o1]:=by match own,ho with|[o1],_=>exact⟨o1,rfl⟩
 obtain ⟨rfl,e⟩:=hy
 obtain ⟨a,r,rfl,h1,h3⟩:=hr.get (e xs (s.seq hl))
 have hmem:r∈rs:=List.mem_of_getElem? h3
 have et:rs.take (i+1)=rs.take i++[r]:=by rw [List.take_add_one,h3];rfl
 dsimp only [gName]
 rw [if_pos rfl]
 refine elt a r _ _ hmem s (s.at h1) fun p w H5 s5 hp5 hw5=>ky [some (.ref a)] _ H5 rfl s5 ?_
 rw [et,List.map_append]
 exact ((hp.same s5).off (s5 _ _ hl')).snoc (upd_sqT hp5 (s5 _ _ hl')) (upd_sqT hw5 (s5 _ _ hl'))
end
end L2
namespace L2
open PySem PySem.Spec PyProof.Rows
theorem r_indexI {K:PySem.W.Frag} {H:Hp} {Q:VK} {p:Addr} {ns:List Int} {m:Int} (j:Nat) (hs:SqL K H p (ns.map V.int)) (hj:j≤1000) (h1:ns[j]?=some m) (h2:∀ i,i<j→ns[i]?≠some m) (h:Q (.int (j:Int)) H):rIndexD K (.ref p) [.int m] H Q:=by
 refine r_indexD j hs (Tells.ints ns) (.int m) ?_ rfl (Nat.zero_le _) hj ⟨.int m,by rw [List.getElem?_map,h1];rfl,?_⟩ (fun i z hi hz=>?_) h
 ·exact lay_ints ns
 ·show (m == m)=true
  exact beq_self_eq_true m
 ·rw [List.getElem?_map] at hz
  obtain ⟨x,hx,rfl⟩:=Option.map_eq_some_iff.mp hz
  show (x == m)=false
  rw [beq_eq_false_iff_ne]
  rintro rfl
  exact h2 i hi hx
inductive PlL (K:PySem.W.Frag) (H:Hp):List V→List (Nat×List Int)→Prop where
 | nil:PlL K H [] []
 | cons {q a:Addr} {p:Nat} {r:List Int} {xs:List V} {ps:List (Nat×List Int)} (h:SqT K H q [.int (p:Int),.ref a]) (hr:SqT K H a (r.map V.int)) (t:PlL K H xs ps):PlL K H (.ref q::xs) ((p,r)::ps)
namespace PlL
variable {K:PySem.W.Frag} {H H':Hp}
theorem length:∀ {xs:List V} {ps:List (Nat×List Int)},PlL K H xs ps→ps.length=xs.length
 | _,_,.nil=>rfl
 | _,_,.cons _ _ t=>by rw [List.length_cons,List.length_cons,length t]
theorem get:∀ {xs:List V} {ps:List (Nat×List Int)} {i:Nat} {x:V},PlL K H xs ps→xs[i]?=some x→∃ (q a:Addr) (p:Nat×List Int),x=.ref q∧SqT K H q [.int (p.1:Int),.ref a]∧SqT K H a (p.2.map V.int)∧ps[i]?=some p
 | _,_,i,x,.nil,h=>by simp at h
 | _,_,0,x,.cons h hr _,e=>by cases e;exact⟨_,_,(_,_),rfl,h,hr,rfl⟩
 | _,_,i+1,x,.cons _ _ t,e=>by
  obtain ⟨q,a,p,h1,h2,h3,h4⟩:=get (i:=i) t (by simpa using e)
  exact⟨q,a,p,h1,h2,h3,by simpa using h4⟩
theorem same:∀ {xs:List V} {ps:List (Nat×List Int)},PlL K H xs ps→Same H H'→PlL K H' xs ps
 | _,_,.nil,_=>.nil
 | _,_,.cons h hr t,s=>.cons (s.at h) (s.at hr) (same t s)
theorem snoc {xs:List V} {ps:List (Nat×List Int)} {q a:Addr} {p:Nat} {r:List Int} (t:PlL K H xs ps) (h:SqT K H q [.int (p:Int),.ref a]) (hr:SqT K H a (r.map V.int)):PlL K H (xs++[.ref q]) (ps++[(p,r)]):=by
 induction t with
 | nil=>exact .cons h hr .nil
 | cons h' hr' _ ih=>exact .cons h' hr' ih
theorem off {l:Addr} {ys zs:List V}:∀ {xs:List V} {ps:List (Nat×List Int)},PlL K H xs ps→H l=some (.lst ys)→PlL K (upd H l (.lst zs)) xs ps
 | _,_,.nil,_=>.nil
 | _,_,.cons h hr t,e=>.cons (upd_sqT h e) (upd_sqT hr e) (off t e)
end PlL
end L2
namespace L2
open PySem PySem.Spec PyProof.Rows
theorem f_invT {K:PySem.W.Frag} {D:Ends} {σ:St} {H:Hp} {g:TG} {a:Addr} {xs:List V} {tb:TS} (Pv:Nat→St→Hp→Prop) (h0:Pv 0 σ H) (ha:∀ i σ H2,Pv i σ H2→SqT K H2 a xs) (hs:∀ i x σ H2,xs[i]?=some x→Pv i σ H2→g x σ H2 fun σ2 H4=>tb { D with nx:=Pv (i+1),ct:=Pv (i+1),bk:=D.nx } σ2 H4) (hd:∀ σ H2,Pv xs.length σ H2→D.nx σ H2):ForGoal g tb D (Itt K a) σ H:=by
 refine f_inv xs.length Pv h0 (fun i σ H2 hi hp=>⟨xs,xs[i],ha i σ H2 hp,List.getElem?_eq_getElem hi⟩) (fun σ H2 hp=>⟨xs,ha _ σ H2 hp,Nat.le_refl _⟩) (fun i x σ H2 H3 hi hp hy=>?_) hd
 obtain ⟨rfl,e⟩:=hy
 exact hs i x σ H3 (e xs (ha i σ H3 hp)) hp
end L2
namespace L2
open PySem PySem.Spec PyProof.Rows
inductive AsL (K:PySem.W.Frag) (H:Hp):List V→List (List Int×Bool)→Prop where
 | nil:AsL K H [] []
 | cons {q a:Addr} {b:Bool} {r:List Int} {xs:List V} {ps:List (List Int×Bool)} (h:SqT K H q [.ref a,.bl b]) (hr:SqT K H a (r.map V.int)) (t:AsL K H xs ps):AsL K H (.ref q::xs) ((r,b)::ps)
end L2
namespace L2
open PySem PySem.Spec PyProof.Rows
theorem rd_compZ1 {K:PySem.W.Frag} {k1 k2:Bool} {a b:Addr} {xs ys:List V} {H1:Hp} {ix:List (Option Nat)} {σ:St} {te:TE} {Q:VK} (fr:St) (f:Nat→V) (hpk:pick ix σ=none::none::fr) (ha:Sq k1 K H1 a xs) (hb:Sq k2 K H1 b ys) (hlen:xs.length≤ys.length) (hn:xs.length≤1000000)
  (step:∀ i x y H' (Qc:VK),xs[i]?=some x→ys[i]?=some y→Same H1 H'→(∀ H5,Same H' H5→Qc (f i) H5)→te (some x::some y::fr) H' Qc)
  (hQ:∀ l H',H1 l=none→Same H1 H'→H' l=some (.lst ((List.range xs.length).map f))→Q (.ref l) H'):CompGoal ix (gTup K 2 (gCons (gName 0) (gCons (gName 1) gNil))) (fun _ H Q=>Q true H) te σ Q (Itz K k1 k2 a b) H1:=by
 refine comp_by 2 fr xs.length f hpk (fun H' s=>⟨_,_,s.sq ha,s.sq hb,.inl (Nat.le_refl _)⟩) (fun i H' hi s=>?_) (fun i x l H' H2 own ho hi hl hs hl' hy=>?_) hQ
 ·exact⟨_,_,xs[i],ys[i]'(by lia),s.sq ha,s.sq hb,List.getElem?_eq_getElem hi,List.getElem?_eq_getElem (by lia)⟩
 ·obtain ⟨o1,o2,rfl⟩:∃ o1 o2,own=[o1,o2]:=by match own,ho with|[o1,o2],_=>exact⟨o1,o2,rfl⟩
  obtain ⟨p,x',y',rfl,hp,e1,e2,rfl⟩:=hy
  have g1:=e1 _ (hs.sq ha)
  have g2:=e2 _ (hs.sq hb)
  refine⟨p,_,rfl,SqT.of upd_same,rfl,_,_,rfl,_,_,rfl,rfl,?_⟩
  show ite (true=true) _ _
  rw [if_pos rfl]
  exact step i x' y' _ _ g1 g2 (hs.trans (Same.upd_new hp)) fun H5 s5=>CW.next (fr:=fr) [some x',some y'] rfl hi hn hl hs hl' ((Same.upd_new hp).trans s5) rfl
end L2
namespace L2
open PySem PySem.Spec PyProof.Rows
noncomputable def CMulX (i j:Int):Prop:=CMul i j∨CMulW i j
theorem op_mulX {X:Cx}:OpR X (binaryOp .Mult) (rI CMulX fun i j=>.int (i*j)):=opI fun _ _ _ _ _ _ _ hc q=>mul_int q (hc.elim CMul.ok CMulW.ok)
end L2

theorem PySem.W.Fast.tw13666977118490082439 : True := trivial
theorem PySem.W.Fast.tw7304790307054524801 : True := trivial
theorem PySem.W.Fast.tw17031747016237772962 : True := trivial
theorem PySem.W.Fast.tw11610934868347274011 : True := trivial
theorem PySem.W.Fast.tw2336499641978015336 : True := trivial
theorem PySem.W.Fast.tw675867224261132484 : True := trivial
theorem PySem.W.Fast.tw2426194644763647421 : True := trivial
theorem PySem.W.Fast.tw10967102327061249552 : True := trivial
theorem PySem.W.Fast.tw635180121997836042 : True := trivial
theorem PySem.W.Fast.tw7378638594323105714 : True := trivial
theorem PySem.W.Fast.tw4762858654393842862 : True := trivial
theorem PySem.W.Fast.tw13916430098445482515 : True := trivial
theorem PySem.W.Fast.tw12799925753679175036 : True := trivial
theorem PySem.W.Fast.tw8210842528154929779 : True := trivial
theorem PySem.W.Fast.tw10676258371246217383 : True := trivial
theorem PySem.W.Fast.tw9091031863772110659 : True := trivial
theorem PySem.W.Fast.tw2131256148052434704 : True := trivial
theorem PySem.W.Fast.tw10900744349154413738 : True := trivial
theorem PySem.W.Fast.tw10352794819103892532 : True := trivial
theorem PySem.W.Fast.tw6525732984368769700 : True := trivial
theorem PySem.W.Fast.tw7496861677530062738 : True := trivial
theorem PySem.W.Fast.tw14856082063436786275 : True := trivial
theorem PySem.W.Fast.tw3363464446526463392 : True := trivial
theorem PySem.W.Fast.tw626363269205285599 : True := trivial
theorem PySem.W.Fast.tw16575121193640172650 : True := trivial
theorem PySem.W.Fast.tw14724894276715368696 : True := trivial
theorem PySem.W.Fast.tw7230539031904968884 : True := trivial
theorem PySem.W.Fast.tw7232132553515692559 : True := trivial
theorem PySem.W.Fast.tw2909171551251862711 : True := trivial
theorem PySem.W.Fast.tw3592390521024166898 : True := trivial
theorem PySem.W.Fast.tw12412289813168856096 : True := trivial
theorem PySem.W.Fast.tw9388833681923019436 : True := trivial
theorem PySem.W.Fast.tw1808687118160825059 : True := trivial
theorem PySem.W.Fast.tw6412074673713723307 : True := trivial
theorem PySem.W.Fast.tw12444351921011518854 : True := trivial
theorem PySem.W.Fast.tw6746957004573829739 : True := trivial
theorem PySem.W.Fast.tw6054237292549953367 : True := trivial
theorem PySem.W.Fast.tw8042607045773888188 : True := trivial
theorem PySem.W.Fast.tw15246110805334665160 : True := trivial
theorem PySem.W.Fast.tw1902761336052557958 : True := trivial
theorem PySem.W.Fast.tw6994519957648087542 : True := trivial
theorem PySem.W.Fast.tw6214265138901608699 : True := trivial
theorem PySem.W.Fast.tw981863175018571665 : True := trivial
theorem PySem.W.Fast.tw3475066024165211804 : True := trivial
theorem PySem.W.Fast.tw858146227065676044 : True := trivial
theorem PySem.W.Fast.tw5026385810457501105 : True := trivial
theorem PySem.W.Fast.tw12098925722904305043 : True := trivial
theorem PySem.W.Fast.tw1626367620337237870 : True := trivial
theorem PySem.W.Fast.tw4227340658460976688 : True := trivial
theorem PySem.W.Fast.tw11195168224288495476 : True := trivial
theorem PySem.W.Fast.tw15220030195122244509 : True := trivial
theorem PySem.W.Fast.tw18056053177174318194 : True := trivial
theorem PySem.W.Fast.tw12542282211343300540 : True := trivial
theorem PySem.W.Fast.tw13818311261368295324 : True := trivial
theorem PySem.W.Fast.tw7512631438508254192 : True := trivial
theorem PySem.W.Fast.tw4919668821165258425 : True := trivial
theorem PySem.W.Fast.tw2283127720485597370 : True := trivial
theorem PySem.W.Fast.tw12336657668052060215 : True := trivial
theorem PySem.W.Fast.tw4233841311092730967 : True := trivial
theorem PySem.W.Fast.tw15836519218670963102 : True := trivial
theorem PySem.W.Fast.tw8841078640860224101 : True := trivial
theorem PySem.W.Fast.tw7424978232040135456 : True := trivial
theorem PySem.W.Fast.tw3149061424387694863 : True := trivial
theorem PySem.W.Fast.tw1341632467100344082 : True := trivial
theorem PySem.W.Fast.tw5323006370124969772 : True := trivial
theorem PySem.W.Fast.tw9576675948170117542 : True := trivial
theorem PySem.W.Fast.tw2254973911965624422 : True := trivial
theorem PySem.W.Fast.tw7173268380545594214 : True := trivial
theorem PySem.W.Fast.tw15500026903702346875 : True := trivial
theorem PySem.W.Fast.tw15300273480066908510 : True := trivial
theorem PySem.W.Fast.tw9411771959509246635 : True := trivial
theorem PySem.W.Fast.tw11602066662293336149 : True := trivial
theorem PySem.W.Fast.tw8009098848040097362 : True := trivial
theorem PySem.W.Fast.tw16391369589724123281 : True := trivial
theorem PySem.W.Fast.tw17776249049554225393 : True := trivial
theorem PySem.W.Fast.tw14765369797072509576 : True := trivial
theorem PySem.W.Fast.tw15430205885217162096 : True := trivial
theorem PySem.W.Fast.tw2860141366770208799 : True := trivial
theorem PySem.W.Fast.tw12702247782296455661 : True := trivial
theorem PySem.W.Fast.tw4825509398203333730 : True := trivial
theorem PySem.W.Fast.tw9322619636745449380 : True := trivial
theorem PySem.W.Fast.tw108762595095724944 : True := trivial
theorem PySem.W.Fast.tw16689177585333071353 : True := trivial
namespace Law
open PySem L2
noncomputable def top (i:Nat):Stmt:=PySem.Challenge.pw_tuningyard_k53_whole_there_and_back.main.body.getD i (.Pass ⟨0,0,0,0⟩)
noncomputable abbrev s_divisor_of:Stmt:=top 5
noncomputable abbrev s_over:Stmt:=top 8
noncomputable abbrev s_power:Stmt:=top 9
noncomputable abbrev s_checked_commas:Stmt:=top 13
noncomputable abbrev s_unit:Stmt:=top 14
noncomputable abbrev s_lead_place:Stmt:=top 15
noncomputable abbrev s_lowered:Stmt:=top 16
noncomputable abbrev s_parted:Stmt:=top 17
noncomputable abbrev s_stepped:Stmt:=top 18
noncomputable abbrev s_table:Stmt:=top 19
noncomputable abbrev s_heard:Stmt:=top 21
noncomputable abbrev s_value:Stmt:=top 22
noncomputable abbrev s_by_place:Stmt:=top 23
noncomputable abbrev s_product_of_leads:Stmt:=top 24
noncomputable abbrev s_weights_for:Stmt:=top 25
noncomputable abbrev s_key_of:Stmt:=top 26
noncomputable abbrev s_keys_by_place:Stmt:=top 27
noncomputable abbrev s_checked_keys:Stmt:=top 30
noncomputable abbrev s_lost_among:Stmt:=top 31
noncomputable abbrev s_lost:Stmt:=top 32
noncomputable abbrev s_keys_for:Stmt:=top 34
noncomputable abbrev s_law_cells:Stmt:=top 36
noncomputable abbrev s_law_near:Stmt:=top 37
noncomputable abbrev s_law_plus:Stmt:=top 38
noncomputable abbrev s_law_gathered:Stmt:=top 39
noncomputable abbrev s_law_steps:Stmt:=top 40
noncomputable abbrev s_law_is_made:Stmt:=top 41
noncomputable abbrev s_law_divisor:Stmt:=top 42
noncomputable abbrev s_law_lost:Stmt:=top 43
noncomputable abbrev s_law_is_row:Stmt:=top 44
noncomputable abbrev s_law_any_rows:Stmt:=top 45
noncomputable abbrev s_law_powered:Stmt:=top 46
noncomputable abbrev s_law_keys_hold:Stmt:=top 47
noncomputable abbrev s_law:Stmt:=top 48
@[elab_as_elim] theorem of_len1 {α : Type} {P : List α → Prop} (us : List α) (hl : us.length = 1) (h : ∀ a0 : α, P [a0]) : P us :=
 match us,hl with|[a0],_=>h a0
@[elab_as_elim] theorem of_len2 {α : Type} {P : List α → Prop} (us : List α) (hl : us.length = 2) (h : ∀ a0 a1 : α, P [a0, a1]) : P us :=
 match us,hl with|[a0,a1],_=>h a0 a1
@[elab_as_elim] theorem of_len3 {α : Type} {P : List α → Prop} (us : List α) (hl : us.length = 3) (h : ∀ a0 a1 a2 : α, P [a0, a1, a2]) : P us :=
 match us,hl with|[a0,a1,a2],_=>h a0 a1 a2
noncomputable def dot (a b:List Int):Int:=(List.zipWith (·*·) a b).sum
noncomputable def val (w:List Int) (m:Int) (r:List Int):Int:=if m=0 then dot r w else dot r w % m
noncomputable def Few (n:Nat) (r:List Int):Prop:=∀ x∈r,bitsI x≤n
theorem Few.mul {n m:Nat} {r q:List Int} (h1:Few n r) (h2:Few m q) (h:n+m≤1000000) (hl:r.length=q.length):∀ i,i<r.length→CMulB (r.getD i 0) (q.getD i 0):=fun i hi=>by
 have a:=h1 (r.getD i 0) (by rw [List.getD,List.getElem?_eq_getElem hi];exact List.getElem_mem hi)
 have b:=h2 (q.getD i 0) (by rw [List.getD,List.getElem?_eq_getElem (hl ▸ hi)];exact List.getElem_mem _)
 unfold CMulB
 lia
noncomputable def num (c b:Int):Int:=(c+b) % (2*b+1) - b
theorem num_bd (c:Int) {b:Int} (h:0≤b):-b≤num c b∧num c b≤b:=by
 unfold num
 have h1:=Int.emod_nonneg (c+b) (show 2*b+1≠0 by lia)
 have h2:=Int.emod_lt_of_pos (c+b) (show 0<2*b+1 by lia)
 lia
theorem bits_le {x:Int} {b:Int} {k:Nat} (h:-b≤x∧x≤b) (hb:b<2 ^ k):bitsI x≤k:=by
 rw [Mth.bits_bl]
 apply Mth.bl_le
 have:((2 ^ k:Nat):Int)=(2:Int) ^ k:=by simp
 lia
noncomputable def rowI (ns:List Int) (k b:Int):List Int:=[num (ns.getD (k+0).toNat 0) b,num (ns.getD (k+1).toNat 0) b,num (ns.getD (k+2).toNat 0) b,num (ns.getD (k+3).toNat 0) b,num (ns.getD (k+4).toNat 0) b]
theorem rowI_few (ns:List Int) (k:Int) {b:Int} (h0:0≤b) {n:Nat} (hb:b<2 ^ n):Few n (rowI ns k b):=fun x hx=>by
 simp only [rowI,List.mem_cons,List.not_mem_nil,or_false] at hx
 rcases hx with rfl|rfl|rfl|rfl|rfl <;> exact bits_le (num_bd _ h0) hb
noncomputable def vals (ks:List (List Int×Int)) (r:List Int):List Int:=ks.map fun k=>val k.1 k.2 r
theorem mem_of {α:Type} {ks:List α} {i:Nat} {k:α} (h:ks[i]?=some k):k∈ks:=by
 obtain ⟨h1,h2⟩:=List.getElem?_eq_some_iff.mp h
 rw [← h2]
 exact List.getElem_mem h1
theorem all_true (n:Nat):(List.replicate n true).all id=true:=by simp
noncomputable def kwLam:Expr→Pos
 | .Call _ _ (⟨_,.Lambda _ _ _ p,_⟩::_) _=>p
 | _=>⟨0,0,0,0⟩
noncomputable def asgVal:Stmt→Expr
 | .Assign _ v _=>v
 | _=>.Constant .none 0 ⟨0,0,0,0⟩
noncomputable def whBody:Stmt→List Stmt
 | .While _ b _ _=>b
 | _=>[]
theorem mem_bd {M:Nat} {r:List Int} {x:Int} (h:Mth.BdM M r) (hx:x∈r):x.natAbs≤M:=by
 obtain ⟨i,hi,e⟩:=List.getElem_of_mem hx
 have:=h i
 rw [List.getD,List.getElem?_eq_getElem hi,e] at this
 exact this
noncomputable def pos1 (p:Nat) (v:List Int):List Int:=if v.getD p 0<0 then Mth.mulv v (-1) else v
theorem pos1_pos {p:Nat} {v:List Int} (h:v.getD p 0≠0):0<(pos1 p v).getD p 0:=by
 unfold pos1
 split
 ·rw [Mth.mulv_at];lia
 ·lia
theorem pos1_at {p:Nat} {v:List Int}:Mth.at' p (pos1 p v)=Mth.at' p v:=by
 unfold pos1 Mth.at'
 split
 ·rw [Mth.mulv_at];lia
 ·rfl
theorem pos1_len {p n:Nat} {v:List Int} (h:v.length=n):(pos1 p v).length=n:=by
 unfold pos1
 split
 ·exact Mth.mulv_len h
 ·exact h
theorem pos1_bd {p B:Nat} {v:List Int} (h:Mth.BdM B v):Mth.BdM B (pos1 p v):=by
 unfold pos1
 split
 ·intro i
  rw [Mth.mulv_at]
  have:=h i
  lia
 ·exact h
theorem cnt2 {α:Type} (f:α→Bool):∀ l:List α,(l.filter fun v=>!f v).length+(l.filter f).length=l.length
 | []=>rfl
 | x::l=>by
  have h:=cnt2 f l
  simp only [List.filter_cons,List.length_cons]
  cases f x <;> simp <;> lia
theorem left_cnt (p:Nat) (s:List Int) (rest:List (List Int)):(Mth.left1 p s rest).length+(Mth.left0 p s rest).length=rest.length:=by
 have h:=cnt2 (fun v:List Int=>v.getD p 0 == 0) (rest.map (Mth.low1 p s))
 rw [List.length_map] at h
 have e:(Mth.left1 p s rest)=(rest.map (Mth.low1 p s)).filter (fun v=>!(v.getD p 0 == 0)):=rfl
 rw [e]
 unfold Mth.left0
 lia
noncomputable def withv (r:List Int) (n:Int) (q:List Int):List Int:=List.zipWith (fun x y=>x+n*y) r q
theorem getD_mem {q:List Int} {i:Nat} (h:i<q.length):q.getD i 0∈q:=by rw [List.getD,List.getElem?_eq_getElem h];exact List.getElem_mem h
theorem withv_len {r q:List Int} {n:Int} {m:Nat} (hr:r.length=m) (hq:q.length=m):(withv r n q).length=m:=by simp [withv,hr,hq]
theorem withv_at {r q:List Int} {n:Int} (hl:r.length=q.length) {i:Nat} (h:i<r.length):(withv r n q).getD i 0=r.getD i 0+n*q.getD i 0:=by
 unfold withv
 rw [List.getD,List.getElem?_zipWith,List.getElem?_eq_getElem h,List.getElem?_eq_getElem (hl ▸ h),List.getD,List.getElem?_eq_getElem h,List.getD,List.getElem?_eq_getElem (hl ▸ h)]
 rfl
theorem withv_map {r q:List Int} {n:Int} (hl:r.length=q.length):(List.range (r.map V.int).length).map (fun i=>V.int (r.getD i 0+n*q.getD i 0))=(withv r n q).map V.int:=by
 apply List.ext_getElem
 ·simp [withv,hl]
 ·intro i h1 h2
  have hi:i<r.length:=by simpa using h1
  have:=withv_at (n:=n) hl hi
  rw [List.getD,List.getElem?_eq_getElem (by simpa using h2)] at this
  simp only [List.getElem_map,List.getElem_range]
  rw [← this]
  rfl
theorem withv_neg {m r:List Int} {k:Int} {n:Nat} (hm:m.length=n) (hr:r.length=n):withv m k r=Mth.low m r (-k):=by
 refine Mth.ext_at (withv_len hm hr) (Mth.low_len hm hr) fun i hi=>?_
 rw [withv_at (by lia) (by lia),Mth.low_at hm hr,Int.mul_neg,Int.mul_comm]
 lia
theorem withv_low {v s:List Int} {p n:Nat} (hv:v.length=n) (hs:s.length=n):withv v (0 - (v.getD p 0).fdiv (s.getD p 0)) s=Mth.low1 p s v:=by
 refine Mth.ext_at (withv_len hv hs) (Mth.low1_len hv hs) fun i hi=>?_
 rw [withv_at (by lia) (by lia),Mth.low1,Mth.low_at hv hs,Mth.qt,Int.sub_mul,Int.zero_mul,Int.mul_comm (s.getD i 0)]
 lia
noncomputable abbrev lpP:Pos:=kwLam (asgVal ((whBody ((defBody s_parted).getD 2 (.Pass ⟨0,0,0,0⟩))).getD 0 (.Pass ⟨0,0,0,0⟩)))
noncomputable abbrev TabK (K:PySem.W.Frag) (H:Hp):Prop:=TabH (tabP K "parted") lpP "parted.<locals>.<lambda>" H
noncomputable abbrev SmT (K:PySem.W.Frag) (H H':Hp):Prop:=SameT (tabP K "parted") H H'
noncomputable def okAt (ls:List Int) (p B j:Nat) (x:Int):Prop:=(p<j→x=0)∧(j=p→x=ls.getD j 0)∧(j<p→0<ls.getD j 0→0≤x∧x<ls.getD j 0)∧x.natAbs≤B
noncomputable def okUp (ls:List Int) (p B:Nat) (xs:List Int):Prop:=∀ j,j<xs.length→okAt ls p B j (xs.getD j 0)
noncomputable def LR (ls:List Int) (p B:Nat) (r:List Int):Prop:=r.length=5∧okUp ls p B r
theorem LR.bd {ls r:List Int} {p B:Nat} (h:LR ls p B r):Mth.BdM B r:=fun i=>by
 by_cases c:i<r.length
 ·exact (h.2 i c).2.2.2
 ·rw [List.getD,List.getElem?_eq_none (by lia)]
  exact Nat.zero_le _
noncomputable def TS (ls:List Int) (B lo:Nat) (rs:List (List Int)):Prop:=Mth.SF rs∧∀ r∈rs,∃ p,lo≤p∧p<5∧0<ls.getD p 0∧LR ls p B r
theorem rows_set {K:PySem.W.Frag} {H:Hp} {a:Addr} {r:List Int}:∀ {xs:List V} {rs:List (List Int)} (i:Nat),RowsL K H xs rs→SqT K H a (r.map V.int)→RowsL K H (xs.set i (.ref a)) (rs.set i r)
 | _,_,_,.nil,_=>.nil
 | _,_,0,.cons _ t,h=>.cons h t
 | _,_,i+1,.cons g t,h=>.cons g (rows_set i t h)
theorem ixN_nat {n j:Nat} (h:j<n):ixN n (j:Int)=some j:=by
 unfold ixN
 rw [if_pos (by lia),if_pos (by lia),Int.toNat_natCast]
noncomputable def gcdL (zs:List Int):Nat:=zs.foldl (fun g z=>Nat.gcd g z.natAbs) 0
theorem gcdL_snoc (zs:List Int) (z:Int):gcdL (zs++[z])=Nat.gcd (gcdL zs) z.natAbs:=by simp [gcdL]
theorem fold_dvd:∀ (zs:List Int) (g:Nat),(zs.foldl (fun g z=>Nat.gcd g z.natAbs) g) ∣ g∧∀ z∈zs,(zs.foldl (fun g z=>Nat.gcd g z.natAbs) g) ∣ z.natAbs
 | [],g=>⟨Nat.dvd_refl _,fun _ z=>nomatch z⟩
 | z::zs,g=>by
  obtain ⟨h1,h2⟩:=fold_dvd zs (Nat.gcd g z.natAbs)
  refine⟨Nat.dvd_trans h1 (Nat.gcd_dvd_left _ _),fun y hy=>?_⟩
  rcases List.mem_cons.mp hy with rfl|hy
  ·exact Nat.dvd_trans h1 (Nat.gcd_dvd_right _ _)
  ·exact h2 y hy
theorem gcdL_dvd {zs:List Int} {z:Int} (h:z∈zs):(gcdL zs:Int) ∣ z:=Int.ofNat_dvd_left.mpr ((fold_dvd zs 0).2 z h)
theorem gcdL_pos {zs:List Int} {z:Int} (h:z∈zs) (hz:z≠0):0<gcdL zs:=by
 rcases Nat.eq_zero_or_pos (gcdL zs) with e|e
 ·have:=gcdL_dvd h
  rw [e] at this
  exact absurd (Int.zero_dvd.mp this) hz
 ·exact e
theorem dt_bd {A M:Nat}:∀ {a b:List Int},(∀ i,(a.getD i 0).natAbs≤A)→(∀ i,(b.getD i 0).natAbs≤M)→(Mth.dt a b).natAbs≤b.length*(A*M)
 | [],b,_,_=>by simp [Mth.dt]
 | _::_,[],_,_=>by simp [Mth.dt]
 | x::a,y::b,ha,hb=>by
  have h:=dt_bd (a:=a) (b:=b) (fun i=>by simpa using ha (i+1)) (fun i=>by simpa using hb (i+1))
  have h0:x.natAbs≤A:=by simpa using ha 0
  have h1:y.natAbs≤M:=by simpa using hb 0
  have h2:(x*y).natAbs≤A*M:=by rw [Int.natAbs_mul];exact Nat.mul_le_mul h0 h1
  unfold Mth.dt at h ⊢
  simp only [List.zipWith_cons_cons,List.sum_cons,List.length_cons]
  rw [Nat.add_mul,Nat.one_mul,Nat.add_comm (_*_)]
  exact Nat.le_trans (Int.natAbs_add_le _ _) (Nat.add_le_add h2 h)
theorem bp_start:Mth.BP [] ((List.range 5).map fun i=>Mth.unitv i 5):=by
 refine⟨by simp,fun h r hr=>.inr ⟨fun _ z=>(nomatch z),?_⟩,fun _ z=>(nomatch z)⟩
 have hh:h<5:=by have:=(List.getElem?_eq_some_iff.mp hr).1;simpa using this
 rw [List.getElem?_map,List.getElem?_range hh] at hr
 exact (Option.some.inj hr).symm
theorem bp_step {st R:List (List Int)} {i k:Nat} {s:List Int} (sf:Mth.SF st) (h:Mth.BP (st.take i) R) (hs:st[i]?=some s) (hk:Mth.Led s k) (h5:k<5):Mth.BP (st.take (i+1)) (R.set k s):=by
 have et:=Mth.take_snoc hs
 have hne:∀ q∈st.take i,∀ t,Mth.Led q t→t≠k:=fun q hq t ht e=>by
  subst e
  obtain ⟨n,hn,eq⟩:=List.getElem_of_mem hq
  have hn':n<i:=by rw [List.length_take] at hn;lia
  have hq':st[n]?=some q:=by
   have:(st.take i)[n]?=some q:=by rw [List.getElem?_eq_getElem hn,eq]
   rw [List.getElem?_take,if_pos hn'] at this
   exact this
  have:=Mth.sf_lt sf hn' hq' hs ht hk
  lia
 refine⟨by rw [List.length_set];exact h.len,fun t r hr=>?_,fun q hq t ht=>?_⟩
 ·rw [List.getElem?_set] at hr
  by_cases c:k=t
  ·subst c
   rw [if_pos rfl,if_pos (by rw [h.len];exact h5)] at hr
   cases hr
   exact .inl ⟨by rw [et];simp,hk⟩
  ·rw [if_neg c] at hr
   rcases h.at_ t r hr with ⟨z1,z2⟩|⟨z1,z2⟩
   ·exact .inl ⟨by rw [et];exact List.mem_append_left _ z1,z2⟩
   ·refine .inr ⟨fun q hq hqt=>?_,z2⟩
    rw [et] at hq
    rcases List.mem_append.mp hq with y|y
    ·exact z1 q y hqt
    ·rw [List.mem_singleton.mp y] at hqt
     exact c (hk.uniq hqt)
 ·rw [et] at hq
  rw [List.getElem?_set]
  rcases List.mem_append.mp hq with y|y
  ·rw [if_neg (Ne.symm (hne q y t ht))]
   exact h.in_ q y t ht
  ·rw [List.mem_singleton.mp y] at ht ⊢
   have e:=ht.uniq hk
   subst e
   rw [if_pos rfl,if_pos (by rw [h.len];exact h5)]
noncomputable def KeyOf (ws:List Int) (ring:Int) (k:List Int×Int):Prop:=k.1.length=5∧0≤k.2∧(∀ c:List Int,c.length=5→(val k.1 k.2 c=0↔ring ∣ Mth.dt c ws))
theorem dt_mulv {n:Nat}:∀ {a b:List Int} {d:Int},a.length=n→b.length=n→Mth.dt a (Mth.mulv b d)=Mth.dt a b*d:=by
 induction n with
 | zero=>intro a b d ha hb;rw [List.length_eq_zero_iff.mp ha];simp [Mth.dt]
 | succ n ih =>
  intro a b d ha hb
  match a,b,ha,hb with
  | x::a,y::b,ha,hb =>
   have e:=ih (a:=a) (b:=b) (d:=d) (by simpa using ha) (by simpa using hb)
   unfold Mth.dt Mth.mulv at e ⊢
   simp only [List.map_cons,List.zipWith_cons_cons,List.sum_cons]
   rw [e,Int.add_mul,Int.mul_assoc]
theorem dt_mod {n:Nat} {m:Int}:∀ {a b:List Int},a.length=n→b.length=n→Mth.dt a (b.map (· % m)) % m=Mth.dt a b % m:=by
 induction n with
 | zero=>intro a b ha hb;rw [List.length_eq_zero_iff.mp ha];simp [Mth.dt]
 | succ n ih =>
  intro a b ha hb
  match a,b,ha,hb with
  | x::a,y::b,ha,hb =>
   have e:=ih (a:=a) (b:=b) (by simpa using ha) (by simpa using hb)
   unfold Mth.dt at e ⊢
   simp only [List.map_cons,List.zipWith_cons_cons,List.sum_cons]
   rw [Int.add_emod,e,← Int.add_emod,Int.add_emod,Int.mul_emod,Int.emod_emod,← Int.mul_emod,← Int.add_emod]
theorem key_zero {ws q:List Int} {d:Int} (hd:0<d) (lq:q.length=5) (e:ws=Mth.mulv q d):KeyOf ws 0 (q,0):=by
 refine⟨lq,Int.le_refl _,fun c hc=>?_⟩
 unfold val
 rw [if_pos rfl,e,dt_mulv hc lq]
 show Mth.dt c q=0↔_
 rw [Int.zero_dvd,Int.mul_eq_zero]
 exact⟨.inl,fun z=>z.elim id fun y=>by lia⟩
theorem key_ring {ws q:List Int} {d m:Int} (hd:0<d) (hm:0<m) (lq:q.length=5) (e:ws=Mth.mulv q d):KeyOf ws (d*m) (q.map (· % m),m):=by
 refine⟨by simp [lq],Int.le_of_lt hm,fun c hc=>?_⟩
 unfold val
 rw [if_neg (by show m≠0;lia),e,dt_mulv hc lq]
 show Mth.dt c (q.map (· % m)) % m=0↔_
 rw [dt_mod hc lq,← Int.dvd_iff_emod_eq_zero,Int.mul_comm d m]
 constructor
 ·exact fun z=>Int.mul_dvd_mul_right _ z
 ·exact fun z=>Int.dvd_of_mul_dvd_mul_right (by lia) z
theorem leads_of:∀ {st:List (List Int)},(∀ r∈st,∃ k,Mth.Led r k)→∃ ks:List Nat,ks.length=st.length∧∀ (i:Nat) (s:List Int),st[i]?=some s→∃ k,ks[i]?=some k∧Mth.Led s k
 | [],_=>⟨[],rfl,fun i s h=>by simp at h⟩
 | r::st,h=>by
  obtain ⟨k,hk⟩:=h r (.head _)
  obtain ⟨ks,h1,h2⟩:=leads_of (st:=st) fun q hq=>h q (.tail _ hq)
  refine⟨k::ks,by simp [h1],fun i s hs=>?_⟩
  cases i with
  | zero=>cases hs;exact⟨k,rfl,hk⟩
  | succ i=>exact h2 i s (by simpa using hs)
theorem in_leads {p:Nat}:∀ {ks:List Nat},inV (.int (p:Int)) (ks.map fun (k:Nat)=>V.int (k:Int))=true↔p∈ks
 | []=>by simp [inV]
 | k::ks=>by
  have ih:=in_leads (p:=p) (ks:=ks)
  unfold inV at ih ⊢
  rw [List.map_cons,List.any_cons,Bool.or_eq_true,ih,List.mem_cons]
  have:eqV (.int (k:Int)) (.int (p:Int))=true↔p=k:=by
   show ((k:Int) == (p:Int))=true↔p=k
   rw [beq_iff_eq]
   lia
  rw [this]
theorem flat_ints (ks:List Nat):(ks.map fun (k:Nat)=>V.int (k:Int)).all flatV=true:=by
 rw [List.all_eq_true]
 intro x hx
 obtain ⟨k,_,rfl⟩:=List.mem_map.mp hx
 rfl
noncomputable def sumL (lam:Nat→Nat):Nat→Nat→Nat
 | _,0=>0
 | h,n+1=>lam h+sumL lam (h+1) n
theorem Pd_bd {R:List (List Int)} {lam:Nat→Nat} (T:Mth.Tri R) (hd:∀ (h:Nat) (r:List Int),R[h]?=some r→(r.getD h 0).natAbs≤2 ^ lam h):∀ n h,h+n=5→(Mth.Pd R h).natAbs≤2 ^ sumL lam h n
 | 0,h,e=>by
  obtain rfl:h=5:=by lia
  rw [Mth.Pd_end];exact Nat.le_refl _
 | n+1,h,e=>by
  have ih:=Pd_bd T hd n (h+1) (by lia)
  obtain ⟨r,hr⟩:=Mth.get5 T.len (show h<5 by lia)
  rw [Mth.Pd_step R (by lia),Mth.getD_of' hr,Int.natAbs_mul,sumL,Nat.pow_add]
  exact Nat.mul_le_mul (hd h r hr) ih
theorem sumL_up (lam:Nat→Nat):∀ h n,sumL lam h n≤sumL lam 0 (h+n)
 | 0,n=>by rw [Nat.zero_add];exact Nat.le_refl _
 | h+1,n=>by
  have h1:sumL lam (h+1) n≤sumL lam h (n+1):=Nat.le_add_left _ _
  have h2:=sumL_up lam h (n+1)
  rw [show h+(n+1)=h+1+n by rw [Nat.add_right_comm,Nat.add_assoc]] at h2
  exact Nat.le_trans h1 h2
theorem sumL_mono (lam:Nat→Nat) (n h:Nat) (e:h+n=5):sumL lam h n≤sumL lam 0 5:=e ▸ sumL_up lam h n
noncomputable def GoodKeys (st:List (List Int)) (ks:List (List Int×Int)):Prop:=(∀ k∈ks,k.1.length=5∧(k.2=0∨2≤k.2)∧Few 400000 k.1∧∀ c,c.length=5→Mth.Span 5 st c→val k.1 k.2 c=0) ∧
 (∀ row ρ:List Int,row.length=5→ρ.length=5→Mth.Span 5 st (Mth.sub row ρ)→(∀ s∈st,∀ k,Mth.Led s k→0≤ρ.getD k 0∧ρ.getD k 0<s.getD k 0)→ρ≠Mth.zer 5→∃ k∈ks,val k.1 k.2 row≠0)
noncomputable def KP (st R:List (List Int)) (p:Nat) (k:List Int×Int):Prop:=∃ ws ring,Mth.WI R p (Mth.Pd R 0) ws∧ws.length=5∧Mth.ringP st p (Mth.Pd R 0) ring∧KeyOf ws ring k∧Few 400000 k.1
theorem good_keys {st R:List (List Int)} {ks:List (List Int×Int)} (b:Mth.BP st R) (sf:Mth.SF st) (hl:Mth.Len 5 st) (h5:ks.length=5) (h:∀ i k,ks[i]?=some k→KP st R i k):GoodKeys st (ks.filter fun k=>k.2 != 1):=by
 refine⟨fun k hk=>?_,fun row ρ lr lp hsp hsm hne=>?_⟩
 ·obtain ⟨hk1,hk2⟩:=List.mem_filter.mp hk
  obtain ⟨i,hi,e⟩:=List.getElem_of_mem hk1
  obtain ⟨ws,ring,w1,w2,w3,w4,w5⟩:=h i k (by rw [List.getElem?_eq_getElem hi,e])
  have hk3:k.2≠1:=by simpa using hk2
  have:=w4.2.1
  exact⟨w4.1,by lia,w5,fun c hc hcs=>(w4.2.2 c hc).mpr (Mth.hears b sf hl w1 w2 w3 hcs)⟩
 ·obtain ⟨p,hp,hnz,hz⟩:=Mth.last_nz lp hne
  obtain ⟨k,hk⟩:∃ k,ks[p]?=some k:=⟨ks[p]'(by lia),List.getElem?_eq_getElem _⟩
  obtain ⟨ws,ring,w1,w2,w3,w4,w5⟩:=h p k hk
  have hnd:=Mth.tells b hl rfl w1 w2 w3 lp hp hnz hz fun s hs hsp=>hsm s hs p hsp
  have hdd:=Mth.hears b sf hl w1 w2 w3 hsp
  rw [Mth.dt_sub lr lp w2] at hdd
  have hnr:¬ ring ∣ Mth.dt row ws:=fun z=>hnd (by
   have:=Int.dvd_sub z hdd
   rwa [show Mth.dt row ws - (Mth.dt row ws - Mth.dt ρ ws)=Mth.dt ρ ws by lia] at this)
  have hv:val k.1 k.2 row≠0:=fun z=>hnr ((w4.2.2 row lr).mp z)
  refine⟨k,List.mem_filter.mpr ⟨List.mem_of_getElem? hk,?_⟩,hv⟩
  rw [bne_iff_ne]
  intro e
  apply hv
  unfold val
  rw [e,if_neg (by decide)]
  lia
theorem fewB {M b:Nat} {r:List Int} (h:Mth.BdM (2 ^ M) r) (hb:M<b):Few b r:=fun x hx=>by
 rw [Mth.bits_bl]
 exact Mth.bl_le (Nat.lt_of_le_of_lt (mem_bd h hx) (Nat.pow_lt_pow_right (by decide) hb))
theorem bd_mem {M:Nat} {r:List Int} (h:∀ x∈r,x.natAbs≤M):Mth.BdM M r:=fun i=>by
 by_cases hi:i<r.length
 ·exact h _ (getD_mem hi)
 ·rw [List.getD,List.getElem?_eq_none (by lia)]
  exact Nat.zero_le _
theorem val_dvd (ws:List Int) (m:Int) (r:List Int):m ∣ Mth.dt r ws - val ws m r:=by
 have e:dot r ws=Mth.dt r ws:=rfl
 unfold val
 rw [e]
 split
 ·rw [Int.sub_self];exact Int.dvd_zero _
 ·exact⟨Mth.dt r ws / m,by rw [Int.emod_def];lia⟩
theorem len_units:Mth.Len 5 Mth.units5:=fun v hv=>by
 simp only [Mth.units5,List.mem_cons,List.not_mem_nil,or_false] at hv
 rcases hv with rfl|rfl|rfl|rfl|rfl <;> rfl
theorem units_bd:∀ v∈Mth.units5,Mth.BdM (3 ^ 0) v:=fun v hv=>by
 simp only [Mth.units5,List.mem_cons,List.not_mem_nil,or_false] at hv
 rcases hv with rfl|rfl|rfl|rfl|rfl <;> exact bd_mem (by decide)
noncomputable def Hr (ks:List (List Int×Int)) (r:List Int):Prop:=∃ k∈ks,val k.1 k.2 r≠0
noncomputable instance (ks:List (List Int×Int)) (r:List Int):Decidable (Hr ks r):=inferInstanceAs (Decidable (∃ k∈ks,val k.1 k.2 r≠0))
noncomputable def KeyRg (ring:Int) (k:List Int×Int):Prop:=(ring=0→k.2=0)∧(ring≠0→0<k.2∧k.2 ∣ ring∧∀ x∈k.1,0≤x∧x<k.2)
noncomputable def KPR (st R:List (List Int)) (p:Nat) (k:List Int×Int):Prop:=∃ ws ring,Mth.WI R p (Mth.Pd R 0) ws∧ws.length=5∧Mth.ringP st p (Mth.Pd R 0) ring∧KeyOf ws ring k∧KeyRg ring k∧Few 400000 k.1
theorem KPR.kp {st R:List (List Int)} {p:Nat} {k:List Int×Int} (h:KPR st R p k):KP st R p k:=by
 obtain ⟨ws,ring,h1,h2,h3,h4,_,h6⟩:=h
 exact⟨ws,ring,h1,h2,h3,h4,h6⟩
theorem KPR.lead {st R:List (List Int)} {p:Nat} {k:List Int×Int} (h:KPR st R p k) (h0:k.2≠0):∃ u∈st,Mth.Led u p:=by
 obtain ⟨ws,ring,_,_,h3,_,h5,_⟩:=h
 rcases h3 with ⟨z,_⟩|⟨_,z⟩
 ·exact z
 ·exact absurd (h5.1 z) h0
theorem KPR.ring {st R:List (List Int)} {p:Nat} {k:List Int×Int} (h:KPR st R p k) (h0:k.2≠0):0<k.2∧k.2 ∣ Mth.Pd R 0∧(∀ x∈k.1,0≤x∧x<k.2)∧k.1.length=5∧Few 400000 k.1:=by
 obtain ⟨ws,ring,_,_,h3,h4,h5,h6⟩:=h
 rcases h3 with ⟨_,z⟩|⟨_,z⟩
 ·have hr:ring≠0:=fun e=>h0 (h5.1 e)
  obtain ⟨a,b,c⟩:=h5.2 hr
  rw [z] at b
  exact⟨a,b,c,h4.1,h6⟩
 ·exact absurd (h5.1 z) h0
theorem few_keys {st R D:List (List Int)} {ks:List (List Int×Int)} (hl:Mth.Len 5 st) (hD:Mth.Lo (st.map fun s=>(s,0)) D) (h5:ks.length=5) (hk:∀ i k,ks[i]?=some k→KPR st R i k):D.length+((ks.filter fun k=>k.2 != 1).filter fun k=>k.2 != 0).length≤5:=by
 have h1:=Mth.deaf_count hl hD
 have h2:=Mth.leads_count (st:=st) (p:=fun k:List Int×Int=>k.2 != 0 && k.2 != 1) h5 fun i k hi hp=>(hk i k hi).lead (by
  rw [Bool.and_eq_true,bne_iff_ne] at hp
  exact hp.1)
 rw [List.filter_filter]
 lia
noncomputable def nearZ (c m:Int):Int:=(c+m) % (2*m+1) - m
theorem nearZ_bd {c m:Int} (h:0≤m):(nearZ c m).natAbs≤m.natAbs:=by
 unfold nearZ
 have h1:=Int.emod_nonneg (c+m) (show 2*m+1≠0 by lia)
 have h2:=Int.emod_lt_of_pos (c+m) (show 0<2*m+1 by lia)
 generalize (c+m) % (2*m+1)=z at h1 h2
 lia
theorem erase_perm {α:Type}:∀ {l:List α} {k:Nat} (h:k<l.length),(l[k]::l.eraseIdx k).Perm l
 | [],_,h=>absurd h (Nat.not_lt_zero _)
 | a::l,0,_=>List.Perm.refl _
 | a::l,k+1,h=>by
  have hk:k<l.length:=Nat.lt_of_succ_lt_succ h
  have ih:=erase_perm (l:=l) (k:=k) hk
  show (l[k]::a::l.eraseIdx k).Perm (a::l)
  exact (List.Perm.swap a l[k] (l.eraseIdx k)).trans (ih.cons a)
theorem rows_erase {K:PySem.W.Frag} {H:Hp}:∀ {xs:List V} {rs:List (List Int)} (k:Nat),RowsL K H xs rs→RowsL K H (xs.eraseIdx k) (rs.eraseIdx k)
 | _,_,_,.nil=>.nil
 | _,_,0,.cons _ t=>t
 | _,_,k+1,.cons h t=>.cons h (rows_erase k t)
theorem first_at {ns:List Int} {m:Int} (h:m∈ns):∃ j:Nat,ns[j]?=some m∧∀ i:Nat,i<j→ns[i]?≠some m:=by
 obtain ⟨j,hj,e⟩:=List.getElem_of_mem h
 have hj':ns[j]?=some m:=by rw [List.getElem?_eq_getElem hj,e]
 clear e hj
 induction j using Nat.strongRecOn with
 | _ j ih =>
  by_cases c:∃ i,i<j∧ns[i]?=some m
  ·obtain ⟨i,hi,h'⟩:=c
   exact ih i hi h'
  ·exact⟨j,hj',fun i hi z=>c ⟨i,hi,z⟩⟩
theorem withv_low1 {v s:List Int} {p n:Nat} (hv:v.length=n) (hs:s.length=n):withv v (-((v.getD p 0).fdiv (s.getD p 0))) s=Mth.low1 p s v:=by
 rw [← withv_low hv hs]
 congr 1
 lia
noncomputable def Fol (ps:List (Nat×List Int)):Prop:=(∀ p∈ps,p.2.length=5∧p.1<5∧p.2.getD p.1 0≠0)∧ps.Pairwise fun a b=>b.2.getD a.1 0=0
theorem Fol.step {p:Nat×List Int} {ps:List (Nat×List Int)} {v:List Int} (h:Fol (p::ps)) (lv:v.length=5):Mth.Span 5 ((p::ps).map Prod.snd) v↔p.2.getD p.1 0 ∣ v.getD p.1 0∧Mth.Span 5 (ps.map Prod.snd) (Mth.low1 p.1 p.2 v):=by
 obtain ⟨lp,hp5,h0⟩:=h.1 p (.head _)
 have lr:Mth.Len 5 (ps.map Prod.snd):=fun r hr=>by
  obtain ⟨q,hq,rfl⟩:=List.mem_map.mp hr
  exact (h.1 q (.tail _ hq)).1
 have hz:∀ r∈ps.map Prod.snd,r.getD p.1 0=0:=fun r hr=>by
  obtain ⟨q,hq,rfl⟩:=List.mem_map.mp hr
  exact (List.pairwise_cons.mp h.2).1 q hq
 constructor
 ·intro hv
  obtain ⟨c,_,hs⟩:=Mth.Span.cons lp lr hv
  have e:=Mth.Span.at0 (i:=p.1) lr hs hz
  rw [Mth.low_at lv lp] at e
  have hd:v.getD p.1 0=p.2.getD p.1 0*c:=by lia
  refine⟨⟨c,hd⟩,?_⟩
  have hq:Mth.qt v p.2 p.1=c:=by
   unfold Mth.qt
   rw [hd]
   exact Int.mul_fdiv_cancel_left c h0
  unfold Mth.low1
  rw [hq]
  exact hs
 ·rintro ⟨_,hs⟩
  exact Mth.Span.unlow lv lp (hs.of fun r hr=>Mth.Span.mem (.tail _ hr)) (Mth.Span.mem (.head _))
theorem Fol.drop {ps:List (Nat×List Int)} (h:Fol ps) (i:Nat):Fol (ps.drop i):=⟨fun p hp=>h.1 p (List.mem_of_mem_drop hp),h.2.sublist (List.drop_sublist i ps)⟩
theorem gs_le (b:Nat):∀ {i j:Nat},i≤j→Mth.gs b i≤Mth.gs b j
 | i,0,h=>by rw [Nat.le_zero.mp h];exact Nat.le_refl _
 | i,j+1,h=>by
  rcases Nat.lt_or_eq_of_le h with c|c
  ·have:=gs_le b (show i≤j by lia)
   rw [Mth.gs]
   lia
  ·rw [c];exact Nat.le_refl _
theorem _root_.Mth.low_bdX {v s:List Int} {n X B:Nat} {p:Nat} (lv:v.length=n) (ls:s.length=n) (hv:Mth.BdM (2 ^ X) v) (hs:Mth.BdM (2 ^ B) s) (hq:((v.getD p 0).fdiv (s.getD p 0)).natAbs≤2 ^ X):Mth.BdM (2 ^ (X+B+1)) (Mth.low1 p s v):=fun i=>by
 rw [Mth.low1,Mth.low_at lv ls]
 have h1:=hv i
 have h2:(s.getD i 0*Mth.qt v s p).natAbs≤2 ^ X*2 ^ B:=by
  rw [Int.natAbs_mul,Nat.mul_comm]
  exact Nat.mul_le_mul hq (hs i)
 have e:(2:Nat) ^ (X+B+1)=2 ^ X*2 ^ B+2 ^ X*2 ^ B:=by rw [Nat.pow_succ,Nat.pow_add,Nat.mul_two]
 have h3:(2:Nat) ^ X*1≤2 ^ X*2 ^ B:=Nat.mul_le_mul_left _ (Nat.two_pow_pos _)
 rw [e]
 exact Nat.le_trans (Int.natAbs_sub_le _ _) (Nat.add_le_add (by lia) h2)
structure StI (b:Nat) (rs:List (List Int)) (i:Nat) (ps:List (Nat×List Int)) (os:List (List Int)):Prop where
 fol:Fol ps
 hi:∀ p∈ps,5 - i≤p.1
 len:Mth.Len 5 os
 z:∀ v∈os,∀ j,5 - i≤j→v.getD j 0=0
 e:Mth.Eqv 5 rs (ps.map Prod.snd++os)
 bo:∀ v∈os,Mth.BdM (2 ^ Mth.gs b i) v
 bp:∀ p∈ps,Mth.BdM (2 ^ Mth.gs b i) p.2
 c:os.length≤rs.length
 cp:ps.length≤i
theorem StI.start {b:Nat} {rs:List (List Int)} (hl:Mth.Len 5 rs) (hb:∀ v∈rs,Mth.BdM (2 ^ b) v):StI b rs 0 [] rs :=
 ⟨⟨(fun _ z=>nomatch z),.nil⟩,(fun _ z=>nomatch z),hl,(fun v hv j hj=>by rw [List.getD,List.getElem?_eq_none (by rw [hl v hv];lia)];rfl),Mth.Eqv.refl,hb,(fun _ z=>nomatch z),Nat.le_refl _,Nat.le_refl _⟩
theorem StI.none {b i p:Nat} {rs os os':List (List Int)} {ps:List (Nat×List Int)} (h:StI b rs i ps os) (hp:p+i+1=5) (he:Mth.Eqv 5 os os') (h0:∀ v∈os',v.getD p 0=0) (hl:∀ v∈os',v.length=5) (hb:∀ v∈os',Mth.BdM (6*(2 ^ Mth.gs b i*(2 ^ Mth.gs b i*2 ^ Mth.gs b i))) v) (hc:os'.length≤os.length):StI b rs (i+1) ps os':=by
 have hg:=Nat.pow_le_pow_right (n:=2) (by decide) (gs_le b (Nat.le_succ i))
 refine⟨h.fol,fun q hq=>by have:=h.hi q hq;lia,hl,fun v hv j hj=>?_,h.e.trans he.app,fun v hv=>(hb v hv).mono (Nat.le_of_lt (Mth.gs_step b i)),fun q hq=>(h.bp q hq).mono hg,Nat.le_trans hc h.c,Nat.le_succ_of_le h.cp⟩
 by_cases e:j=p
 ·rw [e];exact h0 v hv
 ·exact Mth.Span.at0 h.len (he.2 v hv) fun r hr=>h.z r hr j (by lia)
theorem StI.one {b i p:Nat} {rs os os':List (List Int)} {s:List Int} {ps:List (Nat×List Int)} (h:StI b rs i ps os) (hp:p+i+1=5) (he:Mth.Eqv 5 os (s::os')) (hs:s.getD p 0≠0) (h0:∀ v∈os',v.getD p 0=0) (hl:∀ v∈s::os',v.length=5) (hb:∀ v∈s::os',Mth.BdM (6*(2 ^ Mth.gs b i*(2 ^ Mth.gs b i*2 ^ Mth.gs b i))) v) (hc:os'.length+1≤os.length):StI b rs (i+1) (ps++[(p,s)]) os':=by
 have hg:=Nat.pow_le_pow_right (n:=2) (by decide) (gs_le b (Nat.le_succ i))
 have za:∀ v∈s::os',∀ j,5 - i≤j→v.getD j 0=0:=fun v hv j hj=>Mth.Span.at0 h.len (he.2 v hv) fun r hr=>h.z r hr j hj
 refine⟨⟨fun q hq=>?_,?_⟩,fun q hq=>?_,fun v hv=>hl v (.tail _ hv),fun v hv j hj=>?_,?_,fun v hv=>(hb v (.tail _ hv)).mono (Nat.le_of_lt (Mth.gs_step b i)),fun q hq=>?_,by have:=h.c;lia,by rw [List.length_append,List.length_singleton];have:=h.cp;lia⟩
 ·rcases List.mem_append.mp hq with z|z
  ·exact h.fol.1 q z
  ·rw [List.mem_singleton.mp z]
   exact⟨hl s (.head _),by show p<5;lia,hs⟩
 ·rw [List.pairwise_append]
  refine⟨h.fol.2,List.pairwise_singleton _ _,fun q hq r hr=>?_⟩
  rw [List.mem_singleton.mp hr]
  exact za s (.head _) q.1 (h.hi q hq)
 ·rcases List.mem_append.mp hq with z|z
  ·have:=h.hi q z;lia
  ·rw [List.mem_singleton.mp z]
   show 5 - (i+1)≤p
   lia
 ·by_cases e:j=p
  ·rw [e];exact h0 v hv
  ·exact za v (.tail _ hv) j (by lia)
 ·rw [List.map_append,List.append_assoc]
  exact h.e.trans he.app
 ·rcases List.mem_append.mp hq with z|z
  ·exact (h.bp q z).mono hg
  ·rw [List.mem_singleton.mp z]
   exact (hb s (.head _)).mono (Nat.le_of_lt (Mth.gs_step b i))
theorem StI.all {b:Nat} {rs os:List (List Int)} {ps:List (Nat×List Int)} (h:StI b rs 5 ps os):Mth.Eqv 5 rs (ps.map Prod.snd):=by
 refine h.e.trans ⟨fun r hr=>?_,fun r hr=>Mth.Span.mem (List.mem_append_left _ hr)⟩
 rcases List.mem_append.mp hr with z|z
 ·exact Mth.Span.mem z
 ·have e:r=Mth.zer 5:=Mth.ext_at (h.len r z) (Mth.zer_len 5) fun j _=>by rw [h.z r z j (by lia),Mth.zer_at]
  rw [e]
  exact Mth.Span.zero
noncomputable def ll:Nat→Nat
 | 0=>0
 | i+1=>3*ll i+92
theorem ll_le:∀ {i j:Nat},i≤j→ll i≤ll j
 | i,0,h=>by rw [Nat.le_zero.mp h];exact Nat.le_refl _
 | i,j+1,h=>by
  rcases Nat.lt_or_eq_of_le h with c|c
  ·have:=ll_le (show i≤j by lia)
   rw [ll]
   lia
  ·rw [c];exact Nat.le_refl _
structure LoR (ks:List (List Int×Int)) (st:List (List Int)):Prop where
 len:Mth.Len 5 st
 c:st.length≤5
 all:∀ x,Mth.Span 5 st x↔x.length=5∧∀ k∈ks,Mth.VZ k.1 k.2 x
 fr:Mth.Free st
 bd:∀ v∈st,Mth.BdM (2 ^ ll ks.length) v
theorem LoR.start:LoR [] Mth.units5:=by
 have e:Mth.Eqv 5 Mth.units5 Mth.ones5:=Mth.Eqv.perm (by decide)
 refine⟨len_units,by decide,fun x=>⟨fun h=>⟨h.len len_units,fun _ z=>nomatch z⟩,fun h=>e.symm.span ((Mth.Lo.start.all x).mpr ⟨h.1,fun _ z=>nomatch z⟩)⟩,Mth.Free.units,fun v hv=>units_bd v hv⟩
theorem LoR.next {ks:List (List Int×Int)} {st us:List (List Int)} {w:List Int} {m:Int} (h:LoR ks st) (hl:Mth.Len 5 us) (hc:us.length≤st.length) (ha:∀ x,Mth.Span 5 us x↔Mth.Span 5 st x∧Mth.VZ w m x) (hf:Mth.Free us) (hb:∀ v∈us,Mth.BdM (2 ^ (3*ll ks.length+92)) v):LoR (ks++[(w,m)]) us:=by
 refine⟨hl,Nat.le_trans hc h.c,fun x=>?_,hf,fun v hv=>by rw [List.length_append,List.length_singleton];exact hb v hv⟩
 rw [ha x,h.all x]
 constructor
 ·rintro ⟨⟨h1,h2⟩,h3⟩
  exact⟨h1,fun k hk=>(List.mem_append.mp hk).elim (h2 k) fun z=>by rw [List.mem_singleton.mp z];exact h3⟩
 ·rintro ⟨h1,h2⟩
  exact⟨⟨h1,fun k hk=>h2 k (List.mem_append_left _ hk)⟩,h2 (w,m) (List.mem_append_right _ (List.mem_singleton.mpr rfl))⟩
theorem take_bd {M:Nat} {v:List Int} {n:Nat} (h:Mth.BdM M v):Mth.BdM M (v.take n):=fun i=>by
 by_cases c:i<n
 ·rw [Mth.tk_at c];exact h i
 ·have:(v.take n).getD i 0=0:=by rw [List.getD,List.getElem?_eq_none (by rw [List.length_take];lia)];rfl
  rw [this]
  exact Nat.zero_le _
theorem withv_zer {n:Int} {s:List Int} (l:s.length=5):withv [0,0,0,0,0] n s=Mth.mulv s n:=by
 obtain ⟨a,b,c,d,e,rfl⟩:=Mth.five_of l
 simp [withv,Mth.mulv,Int.mul_comm]
theorem six3 (e:Nat):6*(2 ^ (e+25)*(2 ^ (e+25)*2 ^ (e+25)))<2 ^ (3*e+78):=by
 rw [← Nat.pow_add,← Nat.pow_add,show 3*e+78=3+(e+25+(e+25+(e+25))) by lia,Nat.pow_add 2 3]
 exact Nat.mul_lt_mul_of_pos_right (by decide) (Nat.two_pow_pos _)
theorem mul_bdB {v:List Int} {c:Int} {X B:Nat} (h:Mth.BdM X v) (hc:c.natAbs≤B):Mth.BdM (X*B) (Mth.mulv v c):=fun i=>by
 rw [Mth.mulv_at,Int.natAbs_mul]
 exact Nat.mul_le_mul (h i) hc
theorem _root_.Mth.SF.reduce {n:Nat}:∀ {st:List (List Int)} {v:List Int},Mth.SF st→Mth.Len n st→v.length=n→∃ u,u.length=n∧Mth.Span n st (Mth.sub v u)∧∀ s∈st,∀ k,Mth.Led s k→0≤u.getD k 0∧u.getD k 0<s.getD k 0
 | [],v,_,_,lv=>⟨v,lv,by
  have e:Mth.sub v v=Mth.zer n:=Mth.ext_at (Mth.sub_len lv lv) (Mth.zer_len n) fun i _=>by rw [Mth.sub_at lv lv,Mth.zer_at,Int.sub_self]
  rw [e]
  exact Mth.Span.zero,(fun _ z=>nomatch z)⟩
 | a::rs,v,sf,hl,lv=>by
  have la:=hl a (.head _)
  have lr:Mth.Len n rs:=fun r hr=>hl r (.tail _ hr)
  obtain ⟨j,hj⟩:=sf.1 a (.head _)
  obtain ⟨u,lu,hs,hu⟩:=Mth.SF.reduce (v:=Mth.low1 j a v) sf.tail lr (Mth.low1_len lv la)
  have l1:=Mth.low1_len (p:=j) lv la
  refine⟨u,lu,?_,fun s hs' k hk=>?_⟩
  ·have e:Mth.sub v u=Mth.sub (Mth.sub (Mth.low1 j a v) u) (Mth.mulv a (-(Mth.qt v a j))):=Mth.ext_at (Mth.sub_len lv lu) (Mth.sub_len (Mth.sub_len l1 lu) (Mth.mulv_len la)) fun i _=>by
    rw [Mth.sub_at lv lu,Mth.sub_at (Mth.sub_len l1 lu) (Mth.mulv_len la),Mth.sub_at l1 lu,Mth.mulv_at,Mth.low1,Mth.low_at lv la,Int.mul_neg]
    lia
   rw [e]
   exact Mth.Span.sub (Mth.sub_len l1 lu) (Mth.mulv_len la) (hs.of fun r hr=>Mth.Span.mem (.tail _ hr)) (Mth.Span.mul la (Mth.Span.mem (.head _)) _)
  ·rcases List.mem_cons.mp hs' with rfl|hs'
   ·rw [hk.uniq hj]
    have h0:=Mth.Span.at0 (i:=j) lr hs (sf.low0 hj (Nat.le_refl _))
    rw [Mth.sub_at l1 lu,Mth.low1_p lv la] at h0
    have e:u.getD j 0=(v.getD j 0).fmod (s.getD j 0):=by lia
    rw [e]
    have hpos:=hj.1
    have h1:=Mth.fm_bd (v.getD j 0) (b:=s.getD j 0) (by lia)
    have h2:=h1.2.1 hpos
    lia
   ·exact hu s hs' k hk
theorem keys_hear {rs st R Dd:List (List Int)} {ks:List (List Int×Int)} {x:List Int} (eqv:Mth.Eqv 5 rs st) (sf:Mth.SF st) (lst:Mth.Len 5 st) (hLo:Mth.Lo (st.map fun s=>(s,0)) Dd) (hk5:ks.length=5) (hBP:Mth.BP st R) (hKP:∀ i k,ks[i]?=some k→KPR st R i k) (lx:x.length=5):(∀ k∈Dd.map (fun r=>(r,(0:Int)))++(ks.filter fun k=>k.2 != 1).filter (fun k=>k.2 != 0),val k.1 k.2 x=0)↔Mth.Span 5 rs x:=by
 have hv0:∀ w r:List Int,val w 0 r=Mth.dt r w:=fun w r=>by unfold val;rw [if_pos rfl];rfl
 have hG:=good_keys hBP sf lst hk5 fun i k hi=>(hKP i k hi).kp
 constructor
 ·intro h
  obtain ⟨u,lu,hs,hu⟩:=Mth.SF.reduce (v:=x) sf lst lx
  by_cases e:u=Mth.zer 5
  ·have ex:x=Mth.sub x u:=Mth.ext_at lx (Mth.sub_len lx lu) fun i _=>by rw [Mth.sub_at lx lu,e,Mth.zer_at];lia
   rw [ex]
   exact eqv.symm.span hs
  ·obtain ⟨k,hk,hne⟩:=hG.2 x u lx lu hs hu e
   exfalso
   by_cases h0:k.2=0
   ·obtain ⟨l5,_,_,hc⟩:=hG.1 k hk
    have hs1:Mth.Span 5 Dd k.1:=(hLo.all k.1).mpr ⟨l5,fun q hq=>by
     obtain ⟨s,hs',rfl⟩:=List.mem_map.mp hq
     rw [Mth.VZ0,Mth.dt_comm]
     have:=hc s (lst s hs') (Mth.Span.mem hs')
     rw [h0,hv0] at this
     exact this⟩
    have:=Mth.Span.dt0 lx hLo.len hs1 fun r hr=>by
     have:=h (r,0) (List.mem_append_left _ (List.mem_map.mpr ⟨r,hr,rfl⟩))
     rw [hv0] at this
     rw [Mth.dt_comm]
     exact this
    apply hne
    rw [h0,hv0,Mth.dt_comm]
    exact this
   ·exact hne (h k (List.mem_append_right _ (List.mem_filter.mpr ⟨hk,by rw [bne_iff_ne];exact h0⟩)))
 ·intro hx k hk
  have hx':=eqv.span hx
  rcases List.mem_append.mp hk with z|z
  ·obtain ⟨r,hr,rfl⟩:=List.mem_map.mp z
   rw [hv0]
   have hr':=(hLo.all r).mp (Mth.Span.mem hr)
   exact Mth.Span.dt0 hr'.1 lst hx' fun s hs=>by
    rw [Mth.dt_comm]
    exact Mth.VZ0.mp (hr'.2 (s,0) (List.mem_map.mpr ⟨s,hs,rfl⟩))
  ·exact (hG.1 k (List.mem_filter.mp z).1).2.2.2 x lx hx'
theorem cut_eq {ns:List Int} {a b:Nat} (hab:a≤b) (hb:b≤ns.length):∃ cs:List Int,cutV (ns.map V.int) (some (a:Int)) (some (b:Int))=cs.map V.int∧cs.length=b - a:=by
 refine⟨(ns.drop (min a ns.length)).take (min b ns.length - min a ns.length),?_,?_⟩
 ·unfold cutV
  rw [HT.sIx_nat,HT.sIx_nat]
  simp [List.map_take,List.map_drop]
 ·rw [List.length_take,List.length_drop]
  lia
theorem gs_c {n b R i:Nat} {rs st lf us:List (List Int)} (h:Mth.SK n b rs i st lf) (lu:Mth.Len n us) (hus:∀ r∈rs,Mth.Span n us r) (hR:us.length≤R) (hss:Mth.ss b R<60000000) (hb:b≤2000000):Mth.gs b st.length+3≤60000000:=by
 have hc:st.length≤R:=Nat.le_trans (Mth.Free.le lu h.sf.isFree fun r hr=>(h.e.2 r (List.mem_append_left _ hr)).of hus) hR
 have h1:=Mth.ss_le b hc
 cases hs:st.length with
 | zero =>
  rw [hs] at h1
  show b+3≤60000000
  lia
 | succ c =>
  rw [hs] at h1
  have h2:Mth.ss b (c+1)=Mth.ss b c+Mth.gs b (c+1)+1:=rfl
  have h3:Mth.gs b (c+1)+3≤60000000∨60000000<Mth.gs b (c+1)+3:=by lia
  have h4:Mth.gs b (c+1)=3*Mth.gs b c+3:=rfl
  cases c with
  | zero =>
   have h5:Mth.gs b 0=b:=rfl
   lia
  | succ c =>
   have h5:Mth.ss b (c+1)=Mth.ss b c+Mth.gs b (c+1)+1:=rfl
   have h6:Mth.gs b (c+1)=3*Mth.gs b c+3:=rfl
   lia
theorem in_units {v:List Int} (lv:v.length=5):Mth.Span 5 Mth.units5 v:=(Mth.Eqv.perm (by decide:Mth.units5.Perm Mth.ones5)).symm.span ((Mth.Lo.start.all v).mpr ⟨lv,fun _ z=>nomatch z⟩)
theorem ss5 {b:Nat} (hb:b≤5400):Mth.ss b 5<60000000:=by
 simp only [Mth.ss,Mth.gs]
 lia
noncomputable def tb:Nat→Nat
 | 1=>5400
 | 2=>2300
 | 3=>950
 | 4=>400
 | 5=>400
 | _=>0
noncomputable def wd (n:Nat):Nat:=Mth.lb (tb n) n
theorem tb_le (n:Nat):tb n≤5400:=by
 unfold tb
 split <;> decide
theorem num1:∀ n,n<6→∀ i,i<5→i+n<5→Mth.lb (wd n) i+wd n+3≤900000∧Mth.ss (Mth.lb (wd n) i+wd n+3) (5 - i)<60000000:=by decide
theorem num2:∀ n,n<6→Mth.lb (wd n) (5 - n)+5*tb n+5≤900000∧Mth.ss (Mth.lb (wd n) (5 - n)+5*tb n+5) (n+1)<60000000:=by decide
theorem num3:∀ n,n<6→∀ i,i<n→Mth.lb (tb n) i+tb n+3≤900000∧Mth.ss (Mth.lb (tb n) i+tb n+3) (5 - i)<60000000:=by decide
theorem wd_le:∀ n,n<6→wd n≤98500:=by decide
theorem lb_le (W:Nat):∀ {i j:Nat},i≤j→Mth.lb W i≤Mth.lb W j
 | i,0,h=>by rw [Nat.le_zero.mp h];exact Nat.le_refl _
 | i,j+1,h=>by
  rcases Nat.lt_or_eq_of_le h with c|c
  ·have:=lb_le W (show i≤j by lia)
   rw [Mth.lb]
   lia
  ·rw [c];exact Nat.le_refl _
theorem _root_.Mth.SF.take {st:List (List Int)} (h:Mth.SF st) (i:Nat):Mth.SF (st.take i):=⟨fun r hr=>h.1 r (List.mem_of_mem_take hr),h.2.sublist (List.take_sublist i st)⟩
theorem cr5 {n:Nat} (h:n≤5):Mth.cr n≤32:=by
 rcases (show n=0∨n=1∨n=2∨n=3∨n=4∨n=5 by lia) with rfl|rfl|rfl|rfl|rfl|rfl <;> decide
theorem _root_.Mth.SF.bd_mul {s t:List (List Int)} {m:Int} {B M:Nat} (sf:Mth.SF s) (hl:Mth.Len 5 s) (sf':Mth.SF t) (hl':Mth.Len 5 t) (to:∀ x∈t,Mth.Span 5 s x) (fro:∀ x∈s,Mth.Span 5 t (Mth.mulv x m)) (hB:∀ r∈s,Mth.BdM B r) (hm:m≠0) (hM:m.natAbs≤M):∀ x∈t,Mth.BdM (Mth.cr s.length*(M*B)) x:=fun x hx=>by
 refine sf.reach hl hB (to x hx) fun r hr j hj=>?_
 obtain ⟨u,hu,hu1,hu2⟩:=sf'.lead_has (j:=j) hl' (fro r hr) (by
  rw [Mth.mulv_at]
  exact fun z=>(Int.mul_eq_zero.mp z).elim (fun z=>by have:=hj.1;lia) hm) fun i hi=>by rw [Mth.mulv_at,hj.2 i hi,Int.zero_mul]
 have ha:=sf'.at_lead hx hu hu1
 rw [Mth.mulv_at,Int.natAbs_mul] at hu2
 have h3:(r.getD j 0).natAbs*m.natAbs≤M*(r.getD j 0).natAbs:=by rw [Nat.mul_comm];exact Nat.mul_le_mul_right _ hM
 lia
theorem cmb_scale {i:Nat} {m:Int}:∀ {cs:List Int} {vs:List (List Int)},Mth.cmb cs (vs.map fun v=>Mth.mulv v m) i=Mth.cmb cs vs i*m
 | [],vs=>by simp [Mth.cmb]
 | c::cs,[]=>by simp [Mth.cmb]
 | c::cs,v::vs=>by
  rw [List.map_cons,Mth.cmb_cons,Mth.cmb_cons,cmb_scale,Mth.mulv_at,Int.add_mul,Int.mul_assoc]
theorem _root_.Mth.Free.scale {s:List (List Int)} {m:Int} (h:Mth.Free s) (hm:m≠0):Mth.Free (s.map fun v=>Mth.mulv v m):=fun cs hc hz=>h cs (by rw [List.length_map] at hc;exact hc) fun i=>by
 have:=hz i
 rw [cmb_scale] at this
 exact (Int.mul_eq_zero.mp this).resolve_right hm
theorem pd_bits {st R:List (List Int)} {B:Nat} (hln:Mth.Len 5 st) (hBP:Mth.BP st R) (hbd:∀ v∈st,Mth.BdM (2 ^ B) v):(Mth.Pd R 0).natAbs≤2 ^ (5*B)∧Mth.Pd R 0≠0:=by
 have hTri:=hBP.tri hln
 have hdg:∀ (h:Nat) (r:List Int),R[h]?=some r→(r.getD h 0).natAbs≤2 ^ B:=fun h r hr=>by
  rcases hBP.at_ h r hr with ⟨z1,z2⟩|⟨_,z2⟩
  ·exact hbd r z1 h
  ·have hh:h<5:=by have:=(List.getElem?_eq_some_iff.mp hr).1;rw [hBP.len] at this;exact this
   rw [z2,Mth.unitv_at hh,if_pos rfl]
   exact Nat.two_pow_pos _
 refine⟨Nat.le_trans (Pd_bd (lam:=fun _=>B) hTri hdg 5 0 rfl) (Nat.pow_le_pow_right (by decide) ?_),?_⟩
 ·show B+(B+(B+(B+(B+0))))≤5*B
  lia
 ·have:=Mth.Pd_pos hTri (show 0≤5 by decide)
  lia
structure KF5 (rs st D:List (List Int)) (qs:List (List Int×Int)) (M:Int):Prop where
 sf:Mth.SF st
 len:Mth.Len 5 st
 c5:st.length≤5
 e:Mth.Eqv 5 rs st
 Db:∀ r∈D,Mth.BdM (2 ^ wd st.length) r
 lo:Mth.Lo (st.map fun s=>(s,0)) D
 ring:∀ q∈qs,q.1.length=5∧2≤q.2∧q.2 ∣ M∧∀ x∈q.1,0≤x∧x<q.2
 m0:M≠0
 mb:M.natAbs≤2 ^ (5*tb st.length)
 hear:∀ x:List Int,x.length=5→((∀ k∈D.map (fun r=>(r,(0:Int)))++qs,Mth.VZ k.1 k.2 x)↔Mth.Span 5 rs x)
 few:D.length+qs.length≤5
noncomputable def KF5.ks (D:List (List Int)) (qs:List (List Int×Int)):List (List Int×Int):=D.map (fun r=>(r,(0:Int)))++qs
theorem KF5.cnt {rs st D:List (List Int)} {qs:List (List Int×Int)} {M:Int} (h:KF5 rs st D qs M):st.length+D.length≤5 :=
 Mth.deaf_len h.len h.lo.len h.sf.isFree h.lo.sf.isFree fun x hx s hs=>Mth.VZ0.mp (((h.lo.all x).mp (Mth.Span.mem hx)).2 (s,0) (List.mem_map.mpr ⟨s,hs,rfl⟩))
noncomputable def PD (W:Nat) (D:List (List Int)) (qs:List (List Int×Int)) (i:Nat) (s:List (List Int)):Prop:=∃ s0,Mth.Lo ((KF5.ks D qs).take (min i D.length)) s0∧(∀ v∈s0,Mth.BdM (2 ^ Mth.lb W (min i D.length)) v)∧(i≤D.length→s=s0)
theorem ones_bd:∀ v∈Mth.ones5,Mth.BdM (2 ^ 0) v:=fun r hr=>by
 simp only [Mth.ones5,List.mem_cons,List.not_mem_nil,or_false] at hr
 rcases hr with rfl|rfl|rfl|rfl|rfl <;> exact Mth.unitv_bd _ _ _
theorem PD.start {W:Nat} {D:List (List Int)} {qs:List (List Int×Int)}:PD W D qs 0 Mth.ones5:=⟨Mth.ones5,by rw [Nat.zero_min,List.take_zero];exact Mth.Lo.start,by rw [Nat.zero_min];exact ones_bd,fun _=>rfl⟩
theorem ks_lt {D:List (List Int)} {qs:List (List Int×Int)} {i:Nat} {k:List Int×Int} (hi:i<D.length) (hk:(KF5.ks D qs)[i]?=some k):k=(D.getD i [],0)∧D.getD i []∈D:=by
 unfold KF5.ks at hk
 rw [List.getElem?_append_left (by rw [List.length_map];exact hi),List.getElem?_map,List.getElem?_eq_getElem hi] at hk
 have e:D.getD i []=D[i]:=by rw [List.getD,List.getElem?_eq_getElem hi];rfl
 rw [e]
 exact⟨(Option.some.inj hk).symm,List.getElem_mem _⟩
theorem ks_ge {D:List (List Int)} {qs:List (List Int×Int)} {i:Nat} {k:List Int×Int} (hi:D.length≤i) (hk:(KF5.ks D qs)[i]?=some k):k∈qs:=by
 unfold KF5.ks at hk
 rw [List.getElem?_append_right (by rw [List.length_map];exact hi)] at hk
 exact List.mem_of_getElem? hk
theorem KF5.next {rs st D:List (List Int)} {qs:List (List Int×Int)} {M:Int} (h:KF5 rs st D qs M) {i:Nat} {k:List Int×Int} {s s':List (List Int)} (hk:(KF5.ks D qs)[i]?=some k) (hLo:Mth.Lo ((KF5.ks D qs).take i) s) (hP:PD (wd st.length) D qs i s) (hL:Mth.LostOf s k.1 k.2 s'):PD (wd st.length) D qs (i+1) s':=by
 obtain ⟨s0,h1,h2,h3⟩:=hP
 by_cases c:i<D.length
 ·obtain ⟨rfl,hm⟩:=ks_lt c hk
  have e:=h3 (Nat.le_of_lt c)
  subst e
  have c5:s.length≤5:=Mth.SF.count hLo.sf fun r hr j hj=>Mth.led5 (hLo.len r hr) hj
  refine⟨s',?_,?_,fun _=>rfl⟩
  ·rw [Nat.min_eq_left (by lia:i+1≤D.length),Mth.take_snoc hk]
   exact hLo.next hL
  ·rw [Nat.min_eq_left (by lia:i+1≤D.length)]
   rw [Nat.min_eq_left (by lia:i≤D.length)] at h2
   exact hL.bd hLo.sf hLo.len c5 (h.lo.len _ hm) h2 (h.Db _ hm) (Nat.zero_le _)
 ·refine⟨s0,?_,?_,fun z=>by lia⟩
  ·rw [Nat.min_eq_right (by lia)] at h1 ⊢
   exact h1
  ·rw [Nat.min_eq_right (by lia)] at h2 ⊢
   exact h2
theorem val0 (w r:List Int):val w 0 r=Mth.dt r w:=by unfold val;rw [if_pos rfl];rfl
theorem val_ring {w r:List Int} {m:Int} (hm:2≤m):(val w m r).natAbs≤m.natAbs:=by
 unfold val
 rw [if_neg (by lia)]
 have h1:=Int.emod_nonneg (dot r w) (show m≠0 by lia)
 have h2:=Int.emod_lt_of_pos (dot r w) (show 0<m by lia)
 generalize dot r w % m=z at h1 h2
 lia
theorem VZ_mul {w x:List Int} {m M:Int} (lx:x.length=5) (lw:w.length=5) (h:m ∣ M):Mth.VZ w m (Mth.mulv x M):=by
 unfold Mth.VZ
 rw [Mth.dt_mul lx lw]
 exact Int.dvd_mul_of_dvd_right h
theorem KF5.fits {rs st D:List (List Int)} {qs:List (List Int×Int)} {M:Int} (h:KF5 rs st D qs M) {i:Nat} {k:List Int×Int} {s:List (List Int)} (hk:(KF5.ks D qs)[i]?=some k) (hLo:Mth.Lo ((KF5.ks D qs).take i) s) (hP:PD (wd st.length) D qs i s) :
  ∃ b R:Nat,b≤900000∧(∀ v∈s,Mth.BdM (2 ^ b) v)∧(∀ v∈s,(val k.1 k.2 v).natAbs≤2 ^ b)∧k.2.natAbs≤2 ^ b∧(k.2=0→s.length≤R)∧(k.2≠0→s.length+1≤R)∧Mth.ss b R<60000000:=by
 obtain ⟨s0,h1,h2,h3⟩:=hP
 have hc:=h.cnt
 by_cases c:i<D.length
 ·obtain ⟨rfl,hm⟩:=ks_lt c hk
  have e:=h3 (Nat.le_of_lt c)
  subst e
  rw [Nat.min_eq_left (Nat.le_of_lt c)] at h2
  obtain ⟨n1,n2⟩:=num1 st.length (by lia) i (by lia) (by lia)
  refine⟨_,5 - i,n1,fun v hv=>(h2 v hv).mono (Nat.pow_le_pow_right (by decide) (by lia)),fun v hv=>?_,Nat.zero_le _,fun _=>?_,fun z=>absurd rfl z,n2⟩
  ·show (val (D.getD i []) 0 v).natAbs≤_
   rw [val0]
   have:=Mth.dt_bits (hLo.len v hv) (h.lo.len _ hm) (h2 v hv) (h.Db _ hm)
   rwa [show wd st.length+Mth.lb (wd st.length) i+3=Mth.lb (wd st.length) i+wd st.length+3 by lia] at this
  ·have:=Mth.deaf_len (st:=D.take i) (D:=s) (fun r hr=>h.lo.len r (List.mem_of_mem_take hr)) hLo.len (h.lo.sf.take i).isFree hLo.sf.isFree fun x hx t ht=>Mth.VZ0.mp (((hLo.all x).mp (Mth.Span.mem hx)).2 (t,0) (by
    unfold KF5.ks
    rw [List.take_append_of_le_length (by rw [List.length_map];lia),← List.map_take]
    exact List.mem_map.mpr ⟨t,ht,rfl⟩))
   rw [List.length_take] at this
   lia
 ·have hq:=ks_ge (by lia) hk
  obtain ⟨r1,r2,r3,r4⟩:=h.ring k hq
  rw [Nat.min_eq_right (by lia)] at h1 h2
  have ed:(KF5.ks D qs).take D.length=D.map fun r=>(r,(0:Int)):=by
   unfold KF5.ks
   rw [List.take_append_of_le_length (by rw [List.length_map];exact Nat.le_refl _),List.take_of_length_le (by rw [List.length_map];exact Nat.le_refl _)]
  rw [ed] at h1
  have ei:∀ q∈(KF5.ks D qs).take i,q∈KF5.ks D qs:=fun q hq=>List.mem_of_mem_take hq
  have hDi:∀ q∈D.map fun r=>(r,(0:Int)),q∈(KF5.ks D qs).take i:=fun q hq=>by
   unfold KF5.ks
   rw [List.take_append,List.take_of_length_le (by rw [List.length_map];lia)]
   exact List.mem_append_left _ hq
  have lkw:∀ q∈KF5.ks D qs,q.1.length=5:=fun q hq=>by
   rcases List.mem_append.mp hq with z|z
   ·obtain ⟨r,hr,rfl⟩:=List.mem_map.mp z
    exact h.lo.len r hr
   ·exact (h.ring q z).1
  have hmul:∀ x:List Int,x.length=5→(∀ q∈D.map fun r=>(r,(0:Int)),Mth.VZ q.1 q.2 x)→∀ q∈KF5.ks D qs,Mth.VZ q.1 q.2 (Mth.mulv x M):=fun x lx hx q hq=>by
   rcases List.mem_append.mp hq with z|z
   ·have hz:=hx q z
    have l5:=lkw q hq
    unfold Mth.VZ at hz ⊢
    rw [Mth.dt_mul lx l5]
    exact Int.dvd_mul_of_dvd_left hz
   ·exact VZ_mul lx (lkw q hq) (h.ring q z).2.2.1
  have bits:=Mth.SF.bd_mul h1.sf h1.len hLo.sf hLo.len (fun x hx=>by
   have:=(hLo.all x).mp (Mth.Span.mem hx)
   exact (h1.all x).mpr ⟨this.1,fun q hq=>this.2 q (hDi q hq)⟩) (fun x hx=>by
   have:=(h1.all x).mp (Mth.Span.mem hx)
   exact (hLo.all _).mpr ⟨Mth.mulv_len this.1,fun q hq=>hmul x this.1 this.2 q (ei q hq)⟩) h2 h.m0 h.mb
  have c5:s0.length≤5:=Mth.SF.count h1.sf fun r hr j hj=>Mth.led5 (h1.len r hr) hj
  obtain ⟨n1,n2⟩:=num2 st.length (by have:=h.c5;lia)
  have hmk:k.2.natAbs≤2 ^ (5*tb st.length):=Nat.le_trans (Nat.le_of_dvd (Int.natAbs_pos.mpr h.m0) (Int.natAbs_dvd_natAbs.mpr r3)) h.mb
  have hpow:(2:Nat) ^ (5*tb st.length)≤2 ^ (Mth.lb (wd st.length) (5 - st.length)+5*tb st.length+5):=Nat.pow_le_pow_right (by decide) (by lia)
  refine⟨_,st.length+1,n1,fun v hv=>(bits v hv).mono ?_,fun v hv=>Nat.le_trans (val_ring r2) (Nat.le_trans hmk hpow),Nat.le_trans hmk hpow,fun z=>by lia,fun _=>?_,n2⟩
  ·have e1:(2:Nat) ^ (Mth.lb (wd st.length) (5 - st.length)+5*tb st.length+5)=32*(2 ^ (5*tb st.length)*2 ^ Mth.lb (wd st.length) (5 - st.length)):=by
    rw [Nat.pow_add,Nat.pow_add,Nat.mul_comm (2 ^ Mth.lb (wd st.length) (5 - st.length)),Nat.mul_comm _ (2 ^ 5)]
   rw [e1]
   exact Nat.mul_le_mul (cr5 c5) (Nat.mul_le_mul_left _ (Nat.pow_le_pow_right (by decide) (lb_le _ (by lia))))
  ·have:=Mth.Free.le h.len (hLo.sf.isFree.scale h.m0) fun v hv=>by
    obtain ⟨x,hx,rfl⟩:=List.mem_map.mp hv
    have hxl:=(hLo.all x).mp (Mth.Span.mem hx)
    exact h.e.span ((h.hear _ (Mth.mulv_len hxl.1)).mp (hmul x hxl.1 fun q hq=>hxl.2 q (hDi q hq)))
   rw [List.length_map] at this
   lia
noncomputable def PK (i:Nat) (s:List (List Int)):Prop:=∃ e j r:Nat,j+r≤i∧s.length+j≤5∧(∀ v∈s,Mth.BdM (2 ^ e) v)∧e+28≤3 ^ j*(19*r+28)
theorem PK.start:PK 0 Mth.ones5:=⟨0,0,0,Nat.le_refl _,by decide,ones_bd,by decide⟩
theorem PK.next {i:Nat} {k:List Int×Int} {s s':List (List Int)} (hP:PK i s) (sf:Mth.SF s) (hl:Mth.Len 5 s) (lw:k.1.length=5) (hw:Mth.BdM (2 ^ 22) k.1) (hm:k.2=0∨2≤k.2) (hm9:k.2≤9999) (hL:Mth.LostOf s k.1 k.2 s'):PK (i+1) s':=by
 obtain ⟨e,j,r,h1,h2,h3,h4⟩:=hP
 have c5:s.length≤5:=by lia
 by_cases h0:k.2=0
 ·rw [h0] at hL
  by_cases hh:∃ x∈s,Mth.dt x k.1≠0
  ·have hd:=hL.drop hl lw hh
   refine⟨3*e+2*22+12,j+1,r,by lia,by lia,hL.bd (b:=e) (W:=22) sf hl c5 lw h3 hw (Nat.zero_le _),?_⟩
   rw [Nat.pow_succ,Nat.mul_right_comm]
   generalize 3 ^ j*(19*r+28)=z at h4 ⊢
   lia
  ·have e':s'=s:=hL.same sf hl lw fun x hx=>by
    unfold Mth.VZ
    rw [Int.zero_dvd]
    exact Classical.byContradiction fun z=>hh ⟨x,hx,z⟩
   subst e'
   exact⟨e,j,r,by lia,h2,h3,h4⟩
 ·have hle:=hL.le hl
  refine⟨e+19,j,r+1,by lia,by lia,fun v hv=>(hL.bd_ring sf hl lw h3 h0 (M:=2 ^ 14) (Nat.le_trans (show k.2.natAbs≤9999 by lia) (by decide)) v hv).mono ?_,?_⟩
  ·rw [show e+19=5+(14+e) by lia,Nat.pow_add,Nat.pow_add]
   exact Nat.mul_le_mul_right _ (Nat.le_trans (cr5 c5) (by decide))
  ·have h5:1≤3 ^ j:=Nat.pow_pos (by decide)
   have h6:3 ^ j*(19*(r+1)+28)=3 ^ j*(19*r+28)+3 ^ j*19:=by rw [← Nat.mul_add];congr 1
   rw [h6]
   lia
theorem PK.few {i:Nat} {s:List (List Int)} (h:PK i s) (hi:i≤6):∃ e,(∀ v∈s,Mth.BdM (2 ^ e) v)∧e≤34506:=by
 obtain ⟨e,j,r,h1,h2,h3,h4⟩:=h
 refine⟨e,h3,?_⟩
 have h5:3 ^ j≤3 ^ 5:=Nat.pow_le_pow_right (by decide) (by lia)
 have h6:3 ^ j*(19*r+28)≤3 ^ 5*142:=Nat.mul_le_mul h5 (by lia)
 have h7:3 ^ 5*142=34506:=by decide
 lia
theorem PK.tb {s:List (List Int)} (h:PK 6 s) (hs:s≠[]):∀ v∈s,Mth.BdM (2 ^ tb s.length) v:=by
 obtain ⟨e,j,r,h1,h2,h3,h4⟩:=h
 have hp:0<s.length:=List.length_pos_iff.mpr hs
 have key:e≤Law.tb s.length:=by
  generalize s.length=n at h2 hp
  rcases (show n=1∨n=2∨n=3∨n=4∨n=5 by lia) with rfl|rfl|rfl|rfl|rfl <;> (rcases (show j=0∨j=1∨j=2∨j=3∨j=4 by lia) with rfl|rfl|rfl|rfl|rfl <;> simp only [Law.tb] <;> lia)
 exact fun v hv=>(h3 v hv).mono (Nat.pow_le_pow_right (by decide) key)
theorem PK.mono {i j:Nat} {s:List (List Int)} (h:PK i s) (hij:i≤j):PK j s:=by
 obtain ⟨e,a,r,h1,h2,h3,h4⟩:=h
 exact⟨e,a,r,by lia,h2,h3,h4⟩
theorem PK.fits {i:Nat} {k:List Int×Int} {s:List (List Int)} (hP:PK i s) (hi:i≤6) (hl:Mth.Len 5 s) (lw:k.1.length=5) (hw:Mth.BdM (2 ^ 22) k.1) (hm:k.2=0∨2≤k.2) (hm9:k.2≤9999) :
  ∃ b R:Nat,b≤900000∧(∀ v∈s,Mth.BdM (2 ^ b) v)∧(∀ v∈s,(val k.1 k.2 v).natAbs≤2 ^ b)∧k.2.natAbs≤2 ^ b∧(k.2=0→s.length≤R)∧(k.2≠0→s.length+1≤R)∧Mth.ss b R<60000000:=by
 have c5:s.length≤5:=by obtain ⟨e,j,r,h1,h2,_⟩:=hP;lia
 obtain ⟨e,h3,he⟩:=hP.few hi
 have hk9:k.2.natAbs≤2 ^ (22+e+3):=Nat.le_trans (show k.2.natAbs≤2 ^ 14 from Nat.le_trans (show k.2.natAbs≤9999 by lia) (by decide)) (Nat.pow_le_pow_right (by decide) (by lia))
 refine⟨22+e+3,6,by lia,fun v hv=>(h3 v hv).mono (Nat.pow_le_pow_right (by decide) (by lia)),fun v hv=>?_,hk9,fun _=>by lia,fun _=>by lia,?_⟩
 ·rcases hm with z|z
  ·rw [z,val0]
   exact Mth.dt_bits (hl v hv) lw (h3 v hv) hw
  ·exact Nat.le_trans (val_ring z) hk9
 ·simp only [Mth.ss,Mth.gs]
  lia
noncomputable def PE' (W i:Nat) (s:List (List Int)):Prop:=∀ v∈s,Mth.BdM (2 ^ Mth.lb W i) v
theorem PE'.fits {st s:List (List Int)} {i:Nat} {k:List Int×Int} (sf:Mth.SF st) (len:Mth.Len 5 st) (c5:st.length≤5) (hb:∀ v∈st,Mth.BdM (2 ^ tb st.length) v) (hk:(st.map fun s=>(s,(0:Int)))[i]?=some k) (hLo:Mth.Lo ((st.map fun s=>(s,(0:Int))).take i) s) (hP:PE' (tb st.length) i s) :
  ∃ b R:Nat,b≤900000∧(∀ v∈s,Mth.BdM (2 ^ b) v)∧(∀ v∈s,(val k.1 k.2 v).natAbs≤2 ^ b)∧k.2.natAbs≤2 ^ b∧(k.2=0→s.length≤R)∧(k.2≠0→s.length+1≤R)∧Mth.ss b R<60000000:=by
 have hi:i<st.length:=by have:=(List.getElem?_eq_some_iff.mp hk).1;rwa [List.length_map] at this
 obtain ⟨n1,n2⟩:=num3 st.length (by lia) i hi
 rw [List.getElem?_map,List.getElem?_eq_getElem hi] at hk
 obtain rfl:=(Option.some.inj hk).symm
 have hm:st[i]∈st:=List.getElem_mem _
 refine⟨_,5 - i,n1,fun v hv=>(hP v hv).mono (Nat.pow_le_pow_right (by decide) (by lia)),fun v hv=>?_,Nat.zero_le _,fun _=>?_,fun z=>absurd rfl z,n2⟩
 ·show (val st[i] 0 v).natAbs≤_
  rw [val0]
  have:=Mth.dt_bits (hLo.len v hv) (len _ hm) (hP v hv) (hb _ hm)
  rwa [show tb st.length+Mth.lb (tb st.length) i+3=Mth.lb (tb st.length) i+tb st.length+3 by lia] at this
 ·have:=Mth.deaf_len (st:=st.take i) (D:=s) (fun r hr=>len r (List.mem_of_mem_take hr)) hLo.len (sf.take i).isFree hLo.sf.isFree fun x hx t ht=>Mth.VZ0.mp (((hLo.all x).mp (Mth.Span.mem hx)).2 (t,0) (by
   rw [← List.map_take]
   exact List.mem_map.mpr ⟨t,ht,rfl⟩))
  rw [List.length_take] at this
  lia
theorem PE'.next {st s s':List (List Int)} {i:Nat} {k:List Int×Int} (len:Mth.Len 5 st) (hb:∀ v∈st,Mth.BdM (2 ^ tb st.length) v) (hk:(st.map fun s=>(s,(0:Int)))[i]?=some k) (hLo:Mth.Lo ((st.map fun s=>(s,(0:Int))).take i) s) (hP:PE' (tb st.length) i s) (hL:Mth.LostOf s k.1 k.2 s'):PE' (tb st.length) (i+1) s':=by
 have hi:i<st.length:=by have:=(List.getElem?_eq_some_iff.mp hk).1;rwa [List.length_map] at this
 rw [List.getElem?_map,List.getElem?_eq_getElem hi] at hk
 obtain rfl:=(Option.some.inj hk).symm
 have hm:st[i]∈st:=List.getElem_mem _
 have c5:s.length≤5:=Mth.SF.count hLo.sf fun r hr j hj=>Mth.led5 (hLo.len r hr) hj
 exact hL.bd hLo.sf hLo.len c5 (len _ hm) hP (hb _ hm) (Nat.zero_le _)
theorem few99 {b:Nat} {r:List Int} (h:Mth.BdM (2 ^ b) r) (hb:b<99000):Few 99000 r:=fewB h hb
theorem val_zero (w:List Int) (m:Int) (x:List Int):val w m x=0↔Mth.VZ w m x:=by
 unfold val Mth.VZ
 have e:dot x w=Mth.dt x w:=rfl
 rw [e]
 by_cases c:m=0
 ·rw [if_pos c,c,Int.zero_dvd]
 ·rw [if_neg c]
  exact⟨Int.dvd_of_emod_eq_zero,Int.emod_eq_zero_of_dvd⟩
theorem KF5.lost {rs st D s:List (List Int)} {qs:List (List Int×Int)} {M:Int} (h:KF5 rs st D qs M) (hs:Mth.Lo (KF5.ks D qs) s) (hr:Mth.Len 5 rs):s=st :=
 Mth.SF.uniq hs.sf h.sf hs.len h.len ⟨fun x hx=>by
  have:=(hs.all x).mp (Mth.Span.mem hx)
  exact h.e.span ((h.hear x this.1).mp this.2),fun x hx=>(hs.all x).mpr ⟨h.len x hx,(h.hear x (h.len x hx)).mpr (h.e.symm.span (Mth.Span.mem hx))⟩⟩
theorem KF5.ok {rs st D:List (List Int)} {qs:List (List Int×Int)} {M:Int} (h:KF5 rs st D qs M):(∀ k∈KF5.ks D qs,k.2=0∨2≤k.2)∧(∀ k∈KF5.ks D qs,k.1.length=5∧Few 99000 k.1)∧(KF5.ks D qs).length≤6:=by
 refine⟨fun k hk=>?_,fun k hk=>?_,?_⟩
 ·rcases List.mem_append.mp hk with z|z
  ·obtain ⟨r,_,rfl⟩:=List.mem_map.mp z
   exact .inl rfl
  ·exact .inr (h.ring k z).2.1
 ·rcases List.mem_append.mp hk with z|z
  ·obtain ⟨r,hr,rfl⟩:=List.mem_map.mp z
   exact⟨h.lo.len r hr,few99 (h.Db r hr) (by have:=wd_le st.length (by have:=h.c5;lia);lia)⟩
  ·obtain ⟨r1,r2,r3,r4⟩:=h.ring k z
   have hmk:k.2.natAbs≤2 ^ (5*tb st.length):=Nat.le_trans (Nat.le_of_dvd (Int.natAbs_pos.mpr h.m0) (Int.natAbs_dvd_natAbs.mpr r3)) h.mb
   refine⟨r1,few99 (b:=5*tb st.length) (bd_mem fun x hx=>Nat.le_trans ?_ hmk) (by have:=tb_le st.length;lia)⟩
   have:=r4 x hx
   lia
 ·have:=h.few
  unfold KF5.ks
  rw [List.length_append,List.length_map]
  lia
theorem mul3_bd {r:List Int} {X:Nat} {q:Int} (h:Mth.BdM X r) (hq:q.natAbs≤3):Mth.BdM (X*3) (Mth.mulv r q):=mul_bdB h hq
theorem gs34:Mth.gs 34506 5=8385321:=rfl
theorem repl_all {n:Nat}:((List.range n).map fun _=>V.bl true)=((List.replicate n true).map V.bl):=by
 rw [List.map_replicate,List.map_const',List.length_range]
theorem all_repl {n:Nat}:(List.replicate n true).all id=true:=by
 rw [List.all_eq_true]
 intro x hx
 rw [List.eq_of_mem_replicate hx]
 rfl
theorem tight_of {ks:List (List Int×Int)} {st:List (List Int)} (h:Mth.Lo ks st) (p:PK 6 st):∀ t,Mth.SF t→Mth.Len 5 t→Mth.Eqv 5 st t→∀ v∈t,Mth.BdM (2 ^ tb t.length) v:=fun t sf hl e=>by
 have et:st=t:=Mth.SF.uniq h.sf sf h.len hl e
 subst et
 by_cases c:st=[]
 ·subst c
  exact fun _ z=>nomatch z
 ·exact p.tb c
theorem bd54 {ks:List (List Int×Int)} {st:List (List Int)} (h:Mth.Lo ks st) (p:PK 6 st):∀ v∈st,Mth.BdM (2 ^ 5400) v:=fun v hv=>(tight_of h p st h.sf h.len Mth.Eqv.refl v hv).mono (Nat.pow_le_pow_right (by decide) (tb_le _))
theorem LoR.same_len {ks:List (List Int×Int)} {st ts:List (List Int)} (h:Mth.Lo ks st) (k:LoR ks ts):ts.length=st.length:=by
 have h1:ts.length≤st.length:=Mth.Free.le h.len k.fr fun v hv=>(h.all v).mpr ((k.all v).mp (Mth.Span.mem hv))
 have h2:st.length≤ts.length:=Mth.Free.le k.len h.sf.isFree fun v hv=>(k.all v).mpr ((h.all v).mp (Mth.Span.mem hv))
 lia
theorem tb_ge {n:Nat} (h0:0<n) (h5:n≤5):16*22+18≤tb n:=by
 rcases (show n=1∨n=2∨n=3∨n=4∨n=5 by lia) with rfl|rfl|rfl|rfl|rfl <;> decide
structure Adr where
 a_ONE:Addr
 t_MOST_COMMAS:Tok
 t_MOST_KEYS:Tok
 t_WIDTH:Tok
 c_lam:Addr
structure Txt (K:PySem.W.Frag) (mg:Str→Option Value) (G:Adr):Prop where
 b_abs:mg "abs"=none
 b_all:mg "all"=none
 b_bool:mg "bool"=none
 b_enumerate:mg "enumerate"=none
 b_int:mg "int"=none
 b_isinstance:mg "isinstance"=none
 b_len:mg "len"=none
 b_list:mg "list"=none
 b_max:mg "max"=none
 b_min:mg "min"=none
 b_range:mg "range"=none
 b_sorted:mg "sorted"=none
 b_sum:mg "sum"=none
 b_tuple:mg "tuple"=none
 b_zip:mg "zip"=none
 g_ONE:mg "ONE"=some (.ref G.a_ONE)
 q_ONE:Fixed K G.a_ONE [.int 0,.int 0,.int 0,.int 0,.int 0]
 g_MOST_COMMAS:mg "MOST_COMMAS"=some (.int 6 G.t_MOST_COMMAS)
 g_MOST_KEYS:mg "MOST_KEYS"=some (.int 6 G.t_MOST_KEYS)
 g_WIDTH:mg "WIDTH"=some (.int 5 G.t_WIDTH)
noncomputable def sp_divisor_of (K:PySem.W.Frag):Sp:=fun vs H Q _=>∃ (a:Addr) (zs:List Int),vs=[.ref a]∧SqT K H a (zs.map V.int)∧Q (.int (gcdL zs:Nat)) H
noncomputable def sp_over (K:PySem.W.Frag):Sp:=fun vs H Q _=>∃ (a b:Addr) (r q:List Int),vs=[.ref a,.ref b]∧SqT K H a (r.map V.int)∧SqT K H b (q.map V.int)∧r.length=q.length∧r.length≤1000∧∀ p H',Same H H'→H' p=some (.tup ((Mth.sub r q).map V.int))→Q (.ref p) H'
noncomputable def sp_power (K:PySem.W.Frag):Sp:=fun vs H Q _=>∃ (a:Addr) (r:List Int) (n:Int),vs=[.ref a,.int n]∧SqT K H a (r.map V.int)∧r.length≤1000∧(∀ x∈r,CMulW x n)∧∀ p H',Same H H'→H' p=some (.tup ((Mth.mulv r n).map V.int))→Q (.ref p) H'
noncomputable def sp_checked_commas (K:PySem.W.Frag):Sp:=fun vs H Q _=>∃ (l:Addr) (ys:List V),vs=[.ref l]∧SqL K H l ys∧ys.length≤6∧Q (.ref l) H
noncomputable def sp_unit (K:PySem.W.Frag):Sp:=fun vs H Q _=>∃ (p n:Nat),vs=[.int p,.int n]∧n≤1000∧∀ a H',Same H H'→H' a=some (.tup ((Mth.unitv p n).map V.int))→Q (.ref a) H'
noncomputable def sp_lead_place (K:PySem.W.Frag):Sp:=fun vs H Q _=>∃ (a:Addr) (r:List Int) (k:Nat),vs=[.ref a]∧SqT K H a (r.map V.int)∧r.length≤1000∧Mth.Led r k∧∀ H',Same H H'→Q (.int k) H'
noncomputable def sp_lowered (K:PySem.W.Frag):Sp:=fun vs H Q _=>∃ (a b:Addr) (p n M k:Nat) (v s:List Int),vs=[.ref a,.ref b,.int p]∧SqT K H a (v.map V.int)∧SqT K H b (s.map V.int)∧v.length=n∧s.length=n∧n≤1000∧p<n∧s.getD p 0≠0∧Mth.BdM M v∧Mth.BdM M s∧M<2 ^ k∧k≤60000000∧∀ p' H',Same H H'→H' p'=some (.tup ((Mth.low1 p s v).map V.int))→Q (.ref p') H'
noncomputable def sp_parted (K:PySem.W.Frag):Sp:=fun vs H Q _=>∃ (l:Addr) (p n M A k:Nat) (xs:List V) (rs:List (List Int)),vs=[.ref l,.int p]∧SqL K H l xs∧RowsL K H xs rs∧rs.length<64∧Mth.Len n rs∧n≤1000∧p<n∧(∀ v∈rs,Mth.BdM M v)∧(∀ v∈rs,Mth.at' p v≤A)∧0<A∧6*(M*(A*A))<2 ^ k∧k≤60000000∧TabK K H∧∀ t l1 l2 H' ys zs led os,SmT K H H'→TabK K H'→SqT K H' t [.ref l1,.ref l2]→SqL K H' l1 ys→RowsL K H' ys led→SqL K H' l2 zs→RowsL K H' zs os→led.length≤1→(∀ v∈led,0<v.getD p 0)→(∀ v∈os,v.getD p 0=0)→(∀ v∈led++os,v.length=n)→(∀ v∈led++os,Mth.BdM (6*(M*(A*A))) v)→Mth.Eqv n rs (led++os)→led.length+os.length≤rs.length→(∀ v∈led,Mth.at' p v≤A)→(led=[]→∀ v∈os,Mth.BdM M v)→Q (.ref t) H'
noncomputable def sp_stepped (K:PySem.W.Frag):Sp:=fun vs H Q _=>∃ (l:Addr) (n b R:Nat) (xs:List V) (rs us:List (List Int)),vs=[.ref l,.int n]∧SqL K H l xs∧RowsL K H xs rs∧rs.length<64∧Mth.Len n rs∧n≤1000∧(∀ v∈rs,Mth.BdM (2 ^ b) v)∧(Mth.Len n us∧(∀ r∈rs,Mth.Span n us r)∧us.length≤R)∧Mth.ss b R<60000000∧b≤2000000∧TabK K H∧∀ (l':Addr) (H':Hp) (ys:List V) (st lf:List (List Int)),H l'=none→SmT K H H'→TabK K H'→H' l'=some (.lst ys)→RowsL K H' ys st→Mth.SK n b rs n st lf→Q (.ref l') H'
noncomputable def sp_table (K:PySem.W.Frag):Sp:=fun vs H Q _=>∃ (l:Addr) (b:Nat) (xs:List V) (rs:List (List Int)),vs=[.ref l]∧SqL K H l xs∧RowsL K H xs rs∧rs.length≤6∧Mth.Len 5 rs∧(∀ v∈rs,Mth.BdM (2 ^ b) v)∧b≤5400∧TabK K H∧∀ l' H' ys st,H l'=none→SmT K H H'→TabK K H'→H' l'=some (.lst ys)→RowsL K H' ys st→Mth.SF st→Mth.Eqv 5 rs st→Mth.Len 5 st→st.length≤5→Q (.ref l') H'
noncomputable def sp_heard (K:PySem.W.Frag):Sp:=fun vs H Q _=>∃ (w r:Addr) (kk:Bool) (ws rs:List Int),vs=[.ref w,.ref r]∧Sq kk K H w (ws.map V.int)∧SqT K H r (rs.map V.int)∧ws.length≤rs.length∧rs.length≤1000∧(∀ i,i<ws.length→CMulB (rs.getD i 0) (ws.getD i 0))∧∀ H',Same H H'→Q (.int (Mth.dt rs ws)) H'
noncomputable def sp_value (K:PySem.W.Frag):Sp:=fun vs H Q _=>∃ (kk w r:Addr) (m:Int) (ws rs:List Int),vs=[.ref kk,.ref r]∧SqT K H kk [.ref w,.int m]∧SqT K H w (ws.map V.int)∧SqT K H r (rs.map V.int)∧rs.length=ws.length∧rs.length≤1000∧(∀ i,i<rs.length→CMulB (rs.getD i 0) (ws.getD i 0))∧0≤m∧∀ H',Same H H'→Q (.int (val ws m rs)) H'
noncomputable def sp_by_place (K:PySem.W.Frag):Sp:=fun vs H Q _=>∃ (l:Addr) (xs:List V) (st:List (List Int)),vs=[.ref l]∧SqL K H l xs∧RowsL K H xs st∧Mth.SF st∧Mth.Len 5 st∧st.length≤5∧∀ l' H' ys R,H l'=none→Same H H'→H' l'=some (.lst ys)→RowsL K H' ys R→Mth.BP st R→Q (.ref l') H'
noncomputable def sp_product_of_leads (K:PySem.W.Frag):Sp:=fun vs H Q _=>∃ (l:Addr) (xs:List V) (st R:List (List Int)) (W:Nat),vs=[.ref l]∧SqL K H l xs∧RowsL K H xs st∧Mth.SF st∧Mth.Len 5 st∧st.length≤5∧Mth.BP st R∧(∀ h,h≤5→(Mth.Pd R h).natAbs<2 ^ W)∧(∀ r∈st,∀ k,Mth.Led r k→(r.getD k 0).natAbs<2 ^ W)∧W≤100000∧∀ H',Same H H'→Q (.int (Mth.Pd R 0)) H'
noncomputable def sp_weights_for (K:PySem.W.Frag):Sp:=fun vs H Q _=>∃ (l:Addr) (p B W:Nat) (xs:List V) (R:List (List Int)),vs=[.ref l,.int p,.int (Mth.Pd R 0)]∧SqL K H l xs∧RowsL K H xs R∧Mth.Tri R∧(∀ r∈R,Mth.BdM (2 ^ B) r)∧(∀ (h:Nat) (r:List Int),R[h]?=some r→(r.getD h 0).natAbs<2 ^ 9000)∧(Mth.Pd R 0).natAbs≤2 ^ W∧B≤41000∧W≤100000∧∀ t H' ws,Same H H'→SqT K H' t (ws.map V.int)→ws.length=5→Mth.WI R p (Mth.Pd R 0) ws→(∀ j,(ws.getD j 0).natAbs≤2 ^ (W+5*(B+4)))→Q (.ref t) H'
noncomputable def sp_key_of (K:PySem.W.Frag):Sp:=fun vs H Q _=>∃ (a:Addr) (ws:List Int) (ring:Int) (C:Nat),vs=[.ref a,.int ring]∧SqT K H a (ws.map V.int)∧ws.length=5∧0≤ring∧(∃ z∈ring::ws,z≠0)∧(∀ j,(ws.getD j 0).natAbs≤2 ^ C)∧ring.natAbs≤2 ^ C∧∀ t ra m q H',Same H H'→SqT K H' t [.ref ra,.int m]→SqT K H' ra (q.map V.int)→KeyOf ws ring (q,m)→KeyRg ring (q,m)→Few (C+1) q→Q (.ref t) H'
noncomputable def sp_keys_by_place (K:PySem.W.Frag):Sp:=fun vs H Q _=>∃ (l:Addr) (B:Nat) (xs:List V) (st:List (List Int)),vs=[.ref l]∧SqL K H l xs∧RowsL K H xs st∧Mth.SF st∧Mth.Len 5 st∧st.length≤5∧(∀ v∈st,Mth.BdM (2 ^ B) v)∧B≤5400∧∀ (l':Addr) (H':Hp) (ys:List V) (ks:List (List Int×Int)) (R:List (List Int)),H l'=none→Same H H'→H' l'=some (.lst ys)→KeysL K H' ys (ks.filter fun k=>k.2 != 1)→ks.length=5→Mth.BP st R→(∀ i k,ks[i]?=some k→KPR st R i k)→Q (.ref l') H'
noncomputable def sp_checked_keys (K:PySem.W.Frag):Sp:=fun vs H Q _=>∃ (l:Addr) (xs:List V) (ks:List (List Int×Int)),vs=[.ref l]∧SqL K H l xs∧KeysL K H xs ks∧ks.length≤6∧(∀ k∈ks,k.2=0∨2≤k.2)∧Q (.ref l) H
noncomputable def sp_lost_among (K:PySem.W.Frag):Sp:=fun vs H Q _=>∃ (l kt wa:Addr) (b R:Nat) (m:Int) (xs:List V) (st:List (List Int)) (ws:List Int),vs=[.ref l,.ref kt]∧SqL K H l xs∧RowsL K H xs st∧Mth.Len 5 st∧st.length≤5∧(∀ v∈st,Mth.BdM (2 ^ b) v)∧SqT K H kt [.ref wa,.int m]∧SqT K H wa (ws.map V.int)∧ws.length=5∧0≤m∧Few 99000 ws∧(∀ v∈st,(val ws m v).natAbs≤2 ^ b)∧m.natAbs≤2 ^ b∧b≤900000∧(m=0→st.length≤R)∧(m≠0→st.length+1≤R)∧Mth.ss b R<60000000∧TabK K H∧∀ l' H' ys st',H l'=none→SmT K H H'→TabK K H'→H' l'=some (.lst ys)→RowsL K H' ys st'→Mth.LostOf st ws m st'→st'.length≤5→Q (.ref l') H'
noncomputable def sp_lost (K:PySem.W.Frag):Sp:=fun vs H Q _=>∃ (l:Addr) (xs:List V) (ks:List (List Int×Int)) (P:Nat→List (List Int)→Prop),vs=[.ref l]∧SqL K H l xs∧KeysL K H xs ks∧ks.length≤6∧(∀ k∈ks,k.2=0∨2≤k.2)∧(∀ k∈ks,k.1.length=5∧Few 99000 k.1)∧P 0 Mth.ones5∧(∀ (i:Nat) k s s',ks[i]?=some k→Mth.Lo (ks.take i) s→P i s→Mth.LostOf s k.1 k.2 s'→P (i+1) s')∧(∀ (i:Nat) k s,ks[i]?=some k→Mth.Lo (ks.take i) s→P i s→∃ b R:Nat,b≤900000∧(∀ v∈s,Mth.BdM (2 ^ b) v)∧(∀ v∈s,(val k.1 k.2 v).natAbs≤2 ^ b)∧k.2.natAbs≤2 ^ b∧(k.2=0→s.length≤R)∧(k.2≠0→s.length+1≤R)∧Mth.ss b R<60000000)∧TabK K H∧∀ (l':Addr) (H':Hp) (ys:List V) (st:List (List Int)),H l'=none→SmT K H H'→TabK K H'→H' l'=some (.lst ys)→RowsL K H' ys st→Mth.Lo ks st→st.length≤5→P ks.length st→Q (.ref l') H'
noncomputable def sp_keys_for (K:PySem.W.Frag):Sp:=fun vs H Q _=>∃ (l:Addr) (b:Nat) (xs:List V) (rs:List (List Int)),vs=[.ref l]∧SqL K H l xs∧RowsL K H xs rs∧rs.length≤6∧Mth.Len 5 rs∧(∀ v∈rs,Mth.BdM (2 ^ b) v)∧b≤5400∧TabK K H∧(∀ st,Mth.SF st→Mth.Len 5 st→Mth.Eqv 5 rs st→∀ v∈st,Mth.BdM (2 ^ tb st.length) v)∧∀ (l':Addr) (H':Hp) (ys:List V) (st D:List (List Int)) (qs:List (List Int×Int)) (M:Int),H l'=none→SmT K H H'→TabK K H'→H' l'=some (.lst ys)→KeysL K H' ys (KF5.ks D qs)→KF5 rs st D qs M→Q (.ref l') H'
noncomputable def sp_law_cells (K:PySem.W.Frag):Sp:=fun vs H Q _=>∃ (a:Addr) (ns:List Int),vs=[.ref a]∧SqL K H a (ns.map V.int)∧∀ (l:Addr) (H':Hp) (cs:List Int),H l=none→Same H H'→H' l=some (.lst (cs.map V.int))→cs.length=63→Q (.ref l) H'
noncomputable def sp_law_near (K:PySem.W.Frag):Sp:=fun vs H Q _=>∃ (c m:Int),vs=[.int c,.int m]∧(0≤m∧m≤100000)∧Q (.int (nearZ c m)) H
noncomputable def sp_law_plus (K:PySem.W.Frag):Sp:=fun vs H Q _=>∃ (a b:Addr) (n:Int) (r q:List Int),vs=[.ref a,.int n,.ref b]∧SqT K H a (r.map V.int)∧SqT K H b (q.map V.int)∧r.length≤q.length∧r.length≤1000∧(∀ y∈q,CMulX n y)∧∀ p H',Same H H'→SqT K H' p ((withv r n (q.take r.length)).map V.int)→Q (.ref p) H'
noncomputable def sp_law_gathered (K:PySem.W.Frag):Sp:=fun vs H Q _=>∃ (l:Addr) (p n M A k:Nat) (xs:List V) (rs:List (List Int)),vs=[.ref l,.int (p:Int)]∧SqL K H l xs∧RowsL K H xs rs∧rs.length<64∧Mth.Len n rs∧n≤1000∧p<n∧(∀ v∈rs,Mth.BdM M v)∧(∀ v∈rs,Mth.at' p v≤A)∧0<A∧6*(M*(A*A))<2 ^ k∧k≤60000000∧(∀ (t l2:Addr) (H':Hp) (zs:List V) (os:List (List Int)),Same H H'→SqT K H' t [.non,.ref l2]→H l2=none→H' l2=some (.lst zs)→RowsL K H' zs os→(∀ v∈os,v.getD p 0=0)→(∀ v∈os,v.length=n)→(∀ v∈os,Mth.BdM (6*(M*(A*A))) v)→Mth.Eqv n rs (os)→os.length≤rs.length→Q (.ref t) H')∧∀ (t a l2:Addr) (H':Hp) (zs:List V) (os:List (List Int)) (s:List Int),Same H H'→SqT K H' t [.ref a,.ref l2]→SqT K H' a (s.map V.int)→H l2=none→H' l2=some (.lst zs)→RowsL K H' zs os→s.getD p 0≠0→Mth.at' p s≤A→(∀ v∈os,v.getD p 0=0)→(∀ v∈s::os,v.length=n)→(∀ v∈s::os,Mth.BdM (6*(M*(A*A))) v)→Mth.Eqv n rs (s::os)→os.length+1≤rs.length→Q (.ref t) H'
noncomputable def sp_law_steps (K:PySem.W.Frag):Sp:=fun vs H Q _=>∃ (l:Addr) (b:Nat) (xs:List V) (rs:List (List Int)),vs=[.ref l]∧SqL K H l xs∧RowsL K H xs rs∧rs.length<64∧Mth.Len 5 rs∧(∀ v∈rs,Mth.BdM (2 ^ b) v)∧Mth.gs b 5≤60000000∧∀ (l':Addr) (H':Hp) (ys:List V) (ps:List (Nat×List Int)),H l'=none→Same H H'→H' l'=some (.lst ys)→PlL K H' ys ps→Fol ps→ps.length≤5→Mth.Eqv 5 rs (ps.map Prod.snd)→(∀ p∈ps,Mth.BdM (2 ^ Mth.gs b 5) p.2)→Q (.ref l') H'
noncomputable def sp_law_is_made (K:PySem.W.Frag):Sp:=fun vs H Q _=>∃ (l a:Addr) (B C:Nat) (xs:List V) (ps:List (Nat×List Int)) (v:List Int),vs=[.ref l,.ref a]∧SqL K H l xs∧PlL K H xs ps∧Fol ps∧ps.length≤5∧(∀ p∈ps,Mth.BdM (2 ^ B) p.2)∧SqT K H a (v.map V.int)∧v.length=5∧Mth.BdM (2 ^ C) v∧C+6*(B+1)≤60000000∧∀ (b:Bool) (H':Hp),Same H H'→(b=true↔Mth.Span 5 (ps.map Prod.snd) v)→Q (.bl b) H'
noncomputable def sp_law_divisor (K:PySem.W.Frag):Sp:=fun vs H Q _=>∃ x y:Int,vs=[.int x,.int y]∧Q (.int (Int.gcd x y:Nat)) H
noncomputable def sp_law_lost (K:PySem.W.Frag):Sp:=fun vs H Q _=>∃ (l:Addr) (xs:List V) (ks:List (List Int×Int)),vs=[.ref l]∧SqL K H l xs∧KeysL K H xs ks∧ks.length≤6∧(∀ k∈ks,k.1.length=5∧Mth.BdM (2 ^ 22) k.1∧0≤k.2∧k.2≤16384)∧∀ (l':Addr) (H':Hp) (ys:List V) (st:List (List Int)),H l'=none→Same H H'→H' l'=some (.lst ys)→RowsL K H' ys st→LoR ks st→Q (.ref l') H'
noncomputable def sp_law_is_row (K:PySem.W.Frag):Sp:=fun vs H Q _=>∃ (a:Addr) (r:List Int),vs=[.ref a]∧SqT K H a (r.map V.int)∧r.length=5∧∀ H',Same H H'→Q (.bl true) H'
noncomputable def sp_law_any_rows (K:PySem.W.Frag):Sp:=fun vs H Q _=>∃ (a:Addr) (cs:List Int) (n:Nat) (m:Int),vs=[.ref a,.int (n:Int),.int m]∧SqL K H a (cs.map V.int)∧5*n≤cs.length∧n≤20∧(0≤m∧m≤100000)∧∀ (l':Addr) (H':Hp) (ys:List V) (rs:List (List Int)),H l'=none→Same H H'→H' l'=some (.lst ys)→RowsL K H' ys rs→rs.length=n→Mth.Len 5 rs→(∀ v∈rs,Mth.BdM m.natAbs v)→Q (.ref l') H'
noncomputable def sp_law_powered (K:PySem.W.Frag):Sp:=fun vs H Q _=>∃ (l:Addr) (c:Int) (M:Nat) (xs:List V) (rs:List (List Int)),vs=[.ref l,.int c]∧SqL K H l xs∧RowsL K H xs rs∧rs.length≤6∧Mth.Len 5 rs∧(∀ v∈rs,Mth.BdM M v)∧M≤9999∧∀ (l':Addr) (H':Hp) (ys:List V) (ts:List (List Int)),H l'=none→Same H H'→H' l'=some (.lst ys)→RowsL K H' ys ts→ts.length=rs.length→Mth.Len 5 ts→(∀ v∈ts,Mth.BdM (2 ^ 22) v)→Q (.ref l') H'
noncomputable def sp_law_keys_hold (K:PySem.W.Frag):Sp:=fun vs H Q _=>∃ (a:Addr) (n:Nat) (mo:Int) (cs:List Int),vs=[.ref a,.int (n:Int),.int mo]∧SqL K H a (cs.map V.int)∧cs.length=63∧n≤6∧(0≤mo∧mo≤9999)∧TabK K H∧∀ H',Q (.bl true) H'
section
variable {K:PySem.W.Frag} {H:Hp} {Q:VK} {E:XK}
theorem c_divisor_of {a:Addr} {zs:List Int} (ha:SqT K H a (zs.map V.int)) (k:Q (.int (gcdL zs:Nat)) H):sp_divisor_of K [.ref a] H Q E:=⟨a,zs,rfl,ha,k⟩
theorem c_over {a b:Addr} (r q:List Int) (ha:SqT K H a (r.map V.int)) (hb:SqT K H b (q.map V.int)) (hl:r.length=q.length) (hn:r.length≤1000) (k:∀ p H',Same H H'→H' p=some (.tup ((Mth.sub r q).map V.int))→Q (.ref p) H'):sp_over K [.ref a,.ref b] H Q E:=⟨a,b,r,q,rfl,ha,hb,hl,hn,k⟩
theorem c_power {a:Addr} {n:Int} (r:List Int) (ha:SqT K H a (r.map V.int)) (hn:r.length≤1000) (hm:∀ x∈r,CMulW x n) (k:∀ p H',Same H H'→H' p=some (.tup ((Mth.mulv r n).map V.int))→Q (.ref p) H'):sp_power K [.ref a,.int n] H Q E:=⟨a,r,n,rfl,ha,hn,hm,k⟩
theorem c_checked_commas {l:Addr} {ys:List V} (hl:SqL K H l ys) (hn:ys.length≤6) (k:Q (.ref l) H):sp_checked_commas K [.ref l] H Q E:=⟨l,ys,rfl,hl,hn,k⟩
theorem c_unit {p n:Nat} (hn:n≤1000) (k:∀ a H',Same H H'→H' a=some (.tup ((Mth.unitv p n).map V.int))→Q (.ref a) H'):sp_unit K [.int p,.int n] H Q E:=⟨p,n,rfl,hn,k⟩
theorem c_lead_place {a:Addr} {r:List Int} {k:Nat} (ha:SqT K H a (r.map V.int)) (hl:r.length≤1000) (hk:Mth.Led r k) (kk:∀ H',Same H H'→Q (.int k) H'):sp_lead_place K [.ref a] H Q E:=⟨a,r,k,rfl,ha,hl,hk,kk⟩
theorem c_lowered {a b:Addr} {p n M k:Nat} (v s:List Int) (ha:SqT K H a (v.map V.int)) (hb:SqT K H b (s.map V.int)) (lv:v.length=n) (ls:s.length=n) (hn:n≤1000) (hp:p<n) (h0:s.getD p 0≠0) (bv:Mth.BdM M v) (bs:Mth.BdM M s) (hM:M<2 ^ k) (hk:k≤60000000) (kk:∀ p' H',Same H H'→H' p'=some (.tup ((Mth.low1 p s v).map V.int))→Q (.ref p') H'):sp_lowered K [.ref a,.ref b,.int p] H Q E:=⟨a,b,p,n,M,k,v,s,rfl,ha,hb,lv,ls,hn,hp,h0,bv,bs,hM,hk,kk⟩
theorem c_parted {l:Addr} {p n M A k:Nat} {xs:List V} {rs:List (List Int)} (h:SqL K H l xs∧RowsL K H xs rs∧rs.length<64∧Mth.Len n rs∧n≤1000∧p<n∧(∀ v∈rs,Mth.BdM M v)∧(∀ v∈rs,Mth.at' p v≤A)∧0<A∧6*(M*(A*A))<2 ^ k∧k≤60000000∧TabK K H) (kk:∀ t l1 l2 H' ys zs led os,SmT K H H'→TabK K H'→SqT K H' t [.ref l1,.ref l2]→SqL K H' l1 ys→RowsL K H' ys led→SqL K H' l2 zs→RowsL K H' zs os→led.length≤1→(∀ v∈led,0<v.getD p 0)→(∀ v∈os,v.getD p 0=0)→(∀ v∈led++os,v.length=n)→(∀ v∈led++os,Mth.BdM (6*(M*(A*A))) v)→Mth.Eqv n rs (led++os)→led.length+os.length≤rs.length→(∀ v∈led,Mth.at' p v≤A)→(led=[]→∀ v∈os,Mth.BdM M v)→Q (.ref t) H'):sp_parted K [.ref l,.int p] H Q E:=let ⟨h1,h2,h3,h4,h5,h6,h7,h8,h9,h10,h11,h12⟩:=h;⟨l,p,n,M,A,k,xs,rs,rfl,h1,h2,h3,h4,h5,h6,h7,h8,h9,h10,h11,h12,kk⟩
theorem c_stepped {l:Addr} {n b R:Nat} {xs:List V} {rs us:List (List Int)} (h:SqL K H l xs∧RowsL K H xs rs∧rs.length<64∧Mth.Len n rs∧n≤1000∧(∀ v∈rs,Mth.BdM (2 ^ b) v)∧(Mth.Len n us∧(∀ r∈rs,Mth.Span n us r)∧us.length≤R)∧Mth.ss b R<60000000∧b≤2000000∧TabK K H) (k:∀ (l':Addr) (H':Hp) (ys:List V) (st lf:List (List Int)),H l'=none→SmT K H H'→TabK K H'→H' l'=some (.lst ys)→RowsL K H' ys st→Mth.SK n b rs n st lf→Q (.ref l') H'):sp_stepped K [.ref l,.int n] H Q E:=let ⟨h1,h2,h3,h4,h5,h6,h7,h8,h9,h10⟩:=h;⟨l,n,b,R,xs,rs,us,rfl,h1,h2,h3,h4,h5,h6,h7,h8,h9,h10,k⟩
theorem c_table {l:Addr} {b:Nat} {xs:List V} {rs:List (List Int)} (h:SqL K H l xs∧RowsL K H xs rs∧rs.length≤6∧Mth.Len 5 rs∧(∀ v∈rs,Mth.BdM (2 ^ b) v)∧b≤5400∧TabK K H) (kk:∀ l' H' ys st,H l'=none→SmT K H H'→TabK K H'→H' l'=some (.lst ys)→RowsL K H' ys st→Mth.SF st→Mth.Eqv 5 rs st→Mth.Len 5 st→st.length≤5→Q (.ref l') H'):sp_table K [.ref l] H Q E:=let ⟨h1,h2,h3,h4,h5,h6,h7⟩:=h;⟨l,b,xs,rs,rfl,h1,h2,h3,h4,h5,h6,h7,kk⟩
theorem c_heardG {w r:Addr} {kk:Bool} (ws rs:List Int) (hw:Sq kk K H w (ws.map V.int)) (hr:SqT K H r (rs.map V.int)) (hl:ws.length≤rs.length) (hn:rs.length≤1000) (hm:∀ i,i<ws.length→CMulB (rs.getD i 0) (ws.getD i 0)) (k:∀ H',Same H H'→Q (.int (Mth.dt rs ws)) H'):sp_heard K [.ref w,.ref r] H Q E:=⟨w,r,kk,ws,rs,rfl,hw,hr,hl,hn,hm,k⟩
theorem c_heard {w r:Addr} (ws rs:List Int) (hw:SqT K H w (ws.map V.int)) (hr:SqT K H r (rs.map V.int)) (hl:rs.length=ws.length) (hn:rs.length≤1000) (hm:∀ i,i<rs.length→CMulB (rs.getD i 0) (ws.getD i 0)) (k:∀ H',Same H H'→Q (.int (dot rs ws)) H'):sp_heard K [.ref w,.ref r] H Q E:=c_heardG ws rs (sqt_sq hw) hr (by lia) hn (fun i hi=>hm i (by lia)) k
theorem c_value {kk w r:Addr} {m:Int} (ws rs:List Int) (hk:SqT K H kk [.ref w,.int m]) (hw:SqT K H w (ws.map V.int)) (hr:SqT K H r (rs.map V.int)) (hl:rs.length=ws.length) (hn:rs.length≤1000) (hm:∀ i,i<rs.length→CMulB (rs.getD i 0) (ws.getD i 0)) (h0:0≤m) (k:∀ H',Same H H'→Q (.int (val ws m rs)) H'):sp_value K [.ref kk,.ref r] H Q E:=⟨kk,w,r,m,ws,rs,rfl,hk,hw,hr,hl,hn,hm,h0,k⟩
theorem c_by_place {l:Addr} {xs:List V} {st:List (List Int)} (h:SqL K H l xs∧RowsL K H xs st∧Mth.SF st∧Mth.Len 5 st∧st.length≤5) (k:∀ l' H' ys R,H l'=none→Same H H'→H' l'=some (.lst ys)→RowsL K H' ys R→Mth.BP st R→Q (.ref l') H'):sp_by_place K [.ref l] H Q E:=let ⟨h1,h2,h3,h4,h5⟩:=h;⟨l,xs,st,rfl,h1,h2,h3,h4,h5,k⟩
theorem c_product_of_leads {l:Addr} {xs:List V} {st R:List (List Int)} {W:Nat} (h:SqL K H l xs∧RowsL K H xs st∧Mth.SF st∧Mth.Len 5 st∧st.length≤5) (hb:Mth.BP st R) (hW:∀ h,h≤5→(Mth.Pd R h).natAbs<2 ^ W) (hL:∀ r∈st,∀ k,Mth.Led r k→(r.getD k 0).natAbs<2 ^ W) (hn:W≤100000) (k:∀ H',Same H H'→Q (.int (Mth.Pd R 0)) H'):sp_product_of_leads K [.ref l] H Q E:=let ⟨h1,h2,h3,h4,h5⟩:=h;⟨l,xs,st,R,W,rfl,h1,h2,h3,h4,h5,hb,hW,hL,hn,k⟩
theorem c_weights_for {l:Addr} {p B W:Nat} {xs:List V} {R:List (List Int)} (h:SqL K H l xs∧RowsL K H xs R∧Mth.Tri R∧(∀ r∈R,Mth.BdM (2 ^ B) r)∧(∀ (h:Nat) (r:List Int),R[h]?=some r→(r.getD h 0).natAbs<2 ^ 9000)∧(Mth.Pd R 0).natAbs≤2 ^ W∧B≤41000∧W≤100000) (k:∀ t H' ws,Same H H'→SqT K H' t (ws.map V.int)→ws.length=5→Mth.WI R p (Mth.Pd R 0) ws→(∀ j,(ws.getD j 0).natAbs≤2 ^ (W+5*(B+4)))→Q (.ref t) H'):sp_weights_for K [.ref l,.int p,.int (Mth.Pd R 0)] H Q E:=let ⟨h1,h2,h3,h4,h5,h6,h7,h8⟩:=h;⟨l,p,B,W,xs,R,rfl,h1,h2,h3,h4,h5,h6,h7,h8,k⟩
theorem c_key_of {a:Addr} {ws:List Int} {ring:Int} {C:Nat} (h:SqT K H a (ws.map V.int)∧ws.length=5∧0≤ring∧(∃ z∈ring::ws,z≠0)∧(∀ j,(ws.getD j 0).natAbs≤2 ^ C)∧ring.natAbs≤2 ^ C) (k:∀ t ra m q H',Same H H'→SqT K H' t [.ref ra,.int m]→SqT K H' ra (q.map V.int)→KeyOf ws ring (q,m)→KeyRg ring (q,m)→Few (C+1) q→Q (.ref t) H'):sp_key_of K [.ref a,.int ring] H Q E:=let ⟨h1,h2,h3,h4,h5,h6⟩:=h;⟨a,ws,ring,C,rfl,h1,h2,h3,h4,h5,h6,k⟩
theorem c_keys_by_place {l:Addr} {B:Nat} {xs:List V} {st:List (List Int)} (h:SqL K H l xs∧RowsL K H xs st∧Mth.SF st∧Mth.Len 5 st∧st.length≤5∧(∀ v∈st,Mth.BdM (2 ^ B) v)∧B≤5400) (k:∀ (l':Addr) (H':Hp) (ys:List V) (ks:List (List Int×Int)) (R:List (List Int)),H l'=none→Same H H'→H' l'=some (.lst ys)→KeysL K H' ys (ks.filter fun k=>k.2 != 1)→ks.length=5→Mth.BP st R→(∀ i k,ks[i]?=some k→KPR st R i k)→Q (.ref l') H'):sp_keys_by_place K [.ref l] H Q E:=let ⟨h1,h2,h3,h4,h5,h6,h7⟩:=h;⟨l,B,xs,st,rfl,h1,h2,h3,h4,h5,h6,h7,k⟩
theorem c_checked_keys {l:Addr} {xs:List V} {ks:List (List Int×Int)} (h:SqL K H l xs∧KeysL K H xs ks∧ks.length≤6∧(∀ k∈ks,k.2=0∨2≤k.2)) (k:Q (.ref l) H):sp_checked_keys K [.ref l] H Q E:=let ⟨h1,h2,h3,h4⟩:=h;⟨l,xs,ks,rfl,h1,h2,h3,h4,k⟩
theorem c_lost_among {l kt wa:Addr} {b R:Nat} {m:Int} {xs:List V} {st:List (List Int)} {ws:List Int} (h:SqL K H l xs∧RowsL K H xs st∧Mth.Len 5 st∧st.length≤5∧(∀ v∈st,Mth.BdM (2 ^ b) v)∧SqT K H kt [.ref wa,.int m]∧SqT K H wa (ws.map V.int)∧ws.length=5∧0≤m∧Few 99000 ws∧(∀ v∈st,(val ws m v).natAbs≤2 ^ b)∧m.natAbs≤2 ^ b∧b≤900000∧(m=0→st.length≤R)∧(m≠0→st.length+1≤R)∧Mth.ss b R<60000000∧TabK K H) (k:∀ (l':Addr) (H':Hp) (ys:List V) (st':List (List Int)),H l'=none→SmT K H H'→TabK K H'→H' l'=some (.lst ys)→RowsL K H' ys st'→Mth.LostOf st ws m st'→st'.length≤5→Q (.ref l') H'):sp_lost_among K [.ref l,.ref kt] H Q E:=let ⟨h1,h2,h3,h4,h5,h6,h7,h8,h9,h10,h11,h12,h13,h14,h15,h16,h17⟩:=h;⟨l,kt,wa,b,R,m,xs,st,ws,rfl,h1,h2,h3,h4,h5,h6,h7,h8,h9,h10,h11,h12,h13,h14,h15,h16,h17,k⟩
theorem c_lost {l:Addr} {xs:List V} {ks:List (List Int×Int)} (P:Nat→List (List Int)→Prop) (h:SqL K H l xs∧KeysL K H xs ks∧ks.length≤6∧(∀ k∈ks,k.2=0∨2≤k.2)∧(∀ k∈ks,k.1.length=5∧Few 99000 k.1)∧P 0 Mth.ones5∧(∀ (i:Nat) k s s',ks[i]?=some k→Mth.Lo (ks.take i) s→P i s→Mth.LostOf s k.1 k.2 s'→P (i+1) s')∧(∀ (i:Nat) k s,ks[i]?=some k→Mth.Lo (ks.take i) s→P i s→∃ b R:Nat,b≤900000∧(∀ v∈s,Mth.BdM (2 ^ b) v)∧(∀ v∈s,(val k.1 k.2 v).natAbs≤2 ^ b)∧k.2.natAbs≤2 ^ b∧(k.2=0→s.length≤R)∧(k.2≠0→s.length+1≤R)∧Mth.ss b R<60000000)∧TabK K H) (k:∀ (l':Addr) (H':Hp) (ys:List V) (st:List (List Int)),H l'=none→SmT K H H'→TabK K H'→H' l'=some (.lst ys)→RowsL K H' ys st→Mth.Lo ks st→st.length≤5→P ks.length st→Q (.ref l') H'):sp_lost K [.ref l] H Q E:=let ⟨h1,h2,h3,h4,h5,h6,h7,h8,h9⟩:=h;⟨l,xs,ks,P,rfl,h1,h2,h3,h4,h5,h6,h7,h8,h9,k⟩
theorem c_keys_for {l:Addr} {b:Nat} {xs:List V} {rs:List (List Int)} (h:SqL K H l xs∧RowsL K H xs rs∧rs.length≤6∧Mth.Len 5 rs∧(∀ v∈rs,Mth.BdM (2 ^ b) v)∧b≤5400∧TabK K H∧(∀ st,Mth.SF st→Mth.Len 5 st→Mth.Eqv 5 rs st→∀ v∈st,Mth.BdM (2 ^ tb st.length) v)) (k:∀ (l':Addr) (H':Hp) (ys:List V) (st D:List (List Int)) (qs:List (List Int×Int)) (M:Int),H l'=none→SmT K H H'→TabK K H'→H' l'=some (.lst ys)→KeysL K H' ys (KF5.ks D qs)→KF5 rs st D qs M→Q (.ref l') H'):sp_keys_for K [.ref l] H Q E:=let ⟨h1,h2,h3,h4,h5,h6,h7,h8⟩:=h;⟨l,b,xs,rs,rfl,h1,h2,h3,h4,h5,h6,h7,h8,k⟩
theorem c_law_cells {a:Addr} {ns:List Int} (ha:SqL K H a (ns.map V.int)) (k:∀ (l:Addr) (H':Hp) (cs:List Int),H l=none→Same H H'→H' l=some (.lst (cs.map V.int))→cs.length=63→Q (.ref l) H'):sp_law_cells K [.ref a] H Q E:=⟨a,ns,rfl,ha,k⟩
theorem c_law_near {c m:Int} (hm:0≤m∧m≤100000) (k:Q (.int (nearZ c m)) H):sp_law_near K [.int c,.int m] H Q E:=⟨c,m,rfl,hm,k⟩
theorem c_law_plusT {a b:Addr} {n:Int} (r q:List Int) (ha:SqT K H a (r.map V.int)) (hb:SqT K H b (q.map V.int)) (hl:r.length≤q.length) (h1:r.length≤1000) (hm:∀ y∈q,CMulX n y) (k:∀ p H',Same H H'→SqT K H' p ((withv r n (q.take r.length)).map V.int)→Q (.ref p) H'):sp_law_plus K [.ref a,.int n,.ref b] H Q E:=⟨a,b,n,r,q,rfl,ha,hb,hl,h1,hm,k⟩
theorem c_law_plusX {a b:Addr} {n:Int} (r q:List Int) (ha:SqT K H a (r.map V.int)) (hb:SqT K H b (q.map V.int)) (hl:r.length=q.length) (h1:r.length≤1000) (hm:∀ y∈q,CMulX n y) (k:∀ p H',Same H H'→SqT K H' p ((withv r n q).map V.int)→Q (.ref p) H'):sp_law_plus K [.ref a,.int n,.ref b] H Q E:=⟨a,b,n,r,q,rfl,ha,hb,Nat.le_of_eq hl,h1,hm,fun p H' s m=>k p H' s (by rw [List.take_of_length_le (Nat.le_of_eq hl.symm)] at m;exact m)⟩
theorem c_law_gathered {l:Addr} {p n M A k:Nat} {xs:List V} {rs:List (List Int)} (h:SqL K H l xs∧RowsL K H xs rs∧rs.length<64∧Mth.Len n rs∧n≤1000∧p<n∧(∀ v∈rs,Mth.BdM M v)∧(∀ v∈rs,Mth.at' p v≤A)∧0<A∧6*(M*(A*A))<2 ^ k∧k≤60000000) (k0:∀ (t l2:Addr) (H':Hp) (zs:List V) (os:List (List Int)),Same H H'→SqT K H' t [.non,.ref l2]→H l2=none→H' l2=some (.lst zs)→RowsL K H' zs os→(∀ v∈os,v.getD p 0=0)→(∀ v∈os,v.length=n)→(∀ v∈os,Mth.BdM (6*(M*(A*A))) v)→Mth.Eqv n rs (os)→os.length≤rs.length→Q (.ref t) H') (k1:∀ (t a l2:Addr) (H':Hp) (zs:List V) (os:List (List Int)) (s:List Int),Same H H'→SqT K H' t [.ref a,.ref l2]→SqT K H' a (s.map V.int)→H l2=none→H' l2=some (.lst zs)→RowsL K H' zs os→s.getD p 0≠0→Mth.at' p s≤A→(∀ v∈os,v.getD p 0=0)→(∀ v∈s::os,v.length=n)→(∀ v∈s::os,Mth.BdM (6*(M*(A*A))) v)→Mth.Eqv n rs (s::os)→os.length+1≤rs.length→Q (.ref t) H'):sp_law_gathered K [.ref l,.int (p:Int)] H Q E:=let ⟨h1,h2,h3,h4,h5,h6,h7,h8,h9,h10,h11⟩:=h;⟨l,p,n,M,A,k,xs,rs,rfl,h1,h2,h3,h4,h5,h6,h7,h8,h9,h10,h11,k0,k1⟩
theorem c_law_steps {l:Addr} {b:Nat} {xs:List V} {rs:List (List Int)} (h:SqL K H l xs∧RowsL K H xs rs∧rs.length<64∧Mth.Len 5 rs∧(∀ v∈rs,Mth.BdM (2 ^ b) v)∧Mth.gs b 5≤60000000) (k:∀ (l':Addr) (H':Hp) (ys:List V) (ps:List (Nat×List Int)),H l'=none→Same H H'→H' l'=some (.lst ys)→PlL K H' ys ps→Fol ps→ps.length≤5→Mth.Eqv 5 rs (ps.map Prod.snd)→(∀ p∈ps,Mth.BdM (2 ^ Mth.gs b 5) p.2)→Q (.ref l') H'):sp_law_steps K [.ref l] H Q E:=let ⟨h1,h2,h3,h4,h5,h6⟩:=h;⟨l,b,xs,rs,rfl,h1,h2,h3,h4,h5,h6,k⟩
theorem c_law_is_made {l a:Addr} {B C:Nat} {xs:List V} {ps:List (Nat×List Int)} {v:List Int} (h:SqL K H l xs∧PlL K H xs ps∧Fol ps∧ps.length≤5∧(∀ p∈ps,Mth.BdM (2 ^ B) p.2)∧SqT K H a (v.map V.int)∧v.length=5∧Mth.BdM (2 ^ C) v∧C+6*(B+1)≤60000000) (k:∀ (b:Bool) (H':Hp),Same H H'→(b=true↔Mth.Span 5 (ps.map Prod.snd) v)→Q (.bl b) H'):sp_law_is_made K [.ref l,.ref a] H Q E:=let ⟨h1,h2,h3,h4,h5,h6,h7,h8,h9⟩:=h;⟨l,a,B,C,xs,ps,v,rfl,h1,h2,h3,h4,h5,h6,h7,h8,h9,k⟩
theorem c_law_divisor {x y:Int} (k:Q (.int (Int.gcd x y:Nat)) H):sp_law_divisor K [.int x,.int y] H Q E:=⟨x,y,rfl,k⟩
theorem c_law_lost {l:Addr} {xs:List V} {ks:List (List Int×Int)} (h:SqL K H l xs∧KeysL K H xs ks∧ks.length≤6∧(∀ k∈ks,k.1.length=5∧Mth.BdM (2 ^ 22) k.1∧0≤k.2∧k.2≤16384)) (k:∀ (l':Addr) (H':Hp) (ys:List V) (st:List (List Int)),H l'=none→Same H H'→H' l'=some (.lst ys)→RowsL K H' ys st→LoR ks st→Q (.ref l') H'):sp_law_lost K [.ref l] H Q E:=let ⟨h1,h2,h3,h4⟩:=h;⟨l,xs,ks,rfl,h1,h2,h3,h4,k⟩
theorem c_law_is_row {a:Addr} {r:List Int} (ha:SqT K H a (r.map V.int)) (hl:r.length=5) (k:∀ H',Same H H'→Q (.bl true) H'):sp_law_is_row K [.ref a] H Q E:=⟨a,r,rfl,ha,hl,k⟩
theorem c_law_any_rows {a:Addr} {cs:List Int} {n:Nat} {m:Int} (ha:SqL K H a (cs.map V.int)) (hn:5*n≤cs.length) (h20:n≤20) (hm:0≤m∧m≤100000) (k:∀ (l':Addr) (H':Hp) (ys:List V) (rs:List (List Int)),H l'=none→Same H H'→H' l'=some (.lst ys)→RowsL K H' ys rs→rs.length=n→Mth.Len 5 rs→(∀ v∈rs,Mth.BdM m.natAbs v)→Q (.ref l') H'):sp_law_any_rows K [.ref a,.int (n:Int),.int m] H Q E:=⟨a,cs,n,m,rfl,ha,hn,h20,hm,k⟩
theorem c_law_powered {l:Addr} {c:Int} {M:Nat} {xs:List V} {rs:List (List Int)} (h:SqL K H l xs∧RowsL K H xs rs∧rs.length≤6∧Mth.Len 5 rs∧(∀ v∈rs,Mth.BdM M v)∧M≤9999) (k:∀ (l':Addr) (H':Hp) (ys:List V) (ts:List (List Int)),H l'=none→Same H H'→H' l'=some (.lst ys)→RowsL K H' ys ts→ts.length=rs.length→Mth.Len 5 ts→(∀ v∈ts,Mth.BdM (2 ^ 22) v)→Q (.ref l') H'):sp_law_powered K [.ref l,.int c] H Q E:=let ⟨h1,h2,h3,h4,h5,h6⟩:=h;⟨l,c,M,xs,rs,rfl,h1,h2,h3,h4,h5,h6,k⟩
theorem c_law_keys_hold {a:Addr} {n:Nat} {mo:Int} {cs:List Int} (h:SqL K H a (cs.map V.int)∧cs.length=63∧n≤6∧(0≤mo∧mo≤9999)∧TabK K H) (k:∀ H',Q (.bl true) H'):sp_law_keys_hold K [.ref a,.int (n:Int),.int mo] H Q E:=let ⟨h1,h2,h3,h4,h5⟩:=h;⟨a,n,mo,cs,rfl,h1,h2,h3,h4,h5,k⟩
end
local macro_rules|`(tactic| walk_at "hf") => `(tactic| first|assumption|exact L2.SqT.of (by assumption)|exact L2.SqL.of (by assumption)|exact L2.Fixed.at (by assumption)|((with_reducible apply L2.sqt_sq);(walk_at "hf"))|((with_reducible apply L2.sql_sq);(walk_at "hf"))|((with_reducible apply L2.Same.at);(assumption);(walk_at "hf"))|((with_reducible apply L2.Same.seq);(assumption);(walk_at "hf"))|((with_reducible apply L2.Same.lst);(assumption);(walk_at "hf"))|((with_reducible apply L2.Same.sq);(assumption);(walk_at "hf")))
local macro_rules|`(tactic| walk_at "sm") => `(tactic| first|exact L2.Same.refl _|assumption|((refine L2.Same.trans ?_ (by assumption));walk_at "sm"))
local macro_rules|`(tactic| walk_at "side") => `(tactic| first|(show (0 : Int)<_;first|decide|lia)|exact⟨by decide, by decide⟩|exact⟨by lia, by lia⟩|exact Or.inl ⟨by decide, by decide⟩|exact Or.inr ⟨by decide, by decide⟩|exact Or.inr ⟨by lia, by lia⟩|exact Or.inl ⟨by lia, by lia⟩|exact⟨by decide, by decide, by decide⟩|assumption)
local macro_rules|`(tactic| walk_at "p") => `(tactic| first
 | (with_reducible refine L2.r_seq ?_)|(with_reducible refine L2.r_asg ?_)|(with_reducible refine L2.r_gname ?_)|(with_reducible refine L2.r_ret ?_)|(with_reducible refine L2.r_drop ?_)|(with_reducible refine L2.r_next ?_)
 | ((with_reducible apply L2.r_var);(exact rfl))|(with_reducible refine L2.r_c ?_)|(with_reducible refine L2.r_op ?_)|(with_reducible refine L2.r_un ?_)|(with_reducible refine L2.r_b ?_)|(with_reducible refine L2.r_test ?_)|(with_reducible refine L2.r_isbl ?_)
 | (with_reducible refine L2.r_and ?_)|(with_reducible refine L2.r_or ?_)|(with_reducible refine L2.r_not ?_)|(with_reducible refine L2.r_andV ?_)|(with_reducible refine L2.r_notV ?_)|(with_reducible refine L2.r_ife ?_)
 | (with_reducible refine L2.r_I0 ?_)|((with_reducible refine L2.r_I ?_ ?_);(walk_at "side"))|(with_reducible refine L2.r_U ?_)|(with_reducible refine L2.r_eqI ?_)|(with_reducible refine L2.r_neI ?_)|(with_reducible refine L2.r_nil ?_)|(with_reducible refine L2.r_cons ?_)|(with_reducible refine L2.r_tup ?_)|(with_reducible refine L2.r_lst ?_)|((with_reducible refine L2.r_newT ?_ ?_);(first|exact Nat.le_of_ble_eq_true rfl|(focus (simp;done))|(focus (simp;lia)));intro p_ H_ s_ m_)|((with_reducible refine L2.r_newL ?_ ?_);(first|exact Nat.le_of_ble_eq_true rfl|(focus (simp;done))|(focus (simp;lia)));intro p_ H_ n_ s_ m_)
 | (with_reducible refine L2.r_cb ?_)|(with_reducible refine L2.r_call0 ?_)|(with_reducible refine L2.r_comp ?_)|(with_reducible refine L2.r_sl ?_)|(with_reducible refine L2.r_nopart ?_)|(with_reducible refine L2.r_part ?_)|(with_reducible refine L2.r_isint ?_)|(with_reducible refine L2.r_bm ?_)|(with_reducible refine L2.r_for ?_)|(with_reducible refine L2.r_ilist ?_)|(with_reducible refine L2.r_itup ?_)|(with_reducible refine L2.r_irng ?_)|(with_reducible refine L2.r_izip ?_)
 | ((with_reducible apply L2.r_isl);(walk_at "hf"))|((with_reducible apply L2.r_ist);(walk_at "hf"))|((with_reducible refine L2.r_isr ?_ ?_ ?_);(first|decide|lia);(first|decide|lia))|((with_reducible apply L2.r_isz);(walk_at "hf");(walk_at "hf"))
 | ((with_reducible apply L2.r_lenT);(walk_at "hf"))|((with_reducible apply L2.r_lenL);(walk_at "hf"))
 | ((with_reducible apply L2.r_tupleL);(walk_at "hf");intro p_ H_ s_ m_)|((with_reducible apply L2.r_listL);(walk_at "hf");intro p_ H_ n_ s_ m_)|(with_reducible refine L2.r_abs ?_)|(with_reducible refine L2.r_max ?_)|(with_reducible refine L2.r_int1b ?_)|((with_reducible apply L2.r_isiT);(walk_at "hf");(first|exact L2.kit_same _ _|exact rfl))|((with_reducible apply L2.r_isiL);(walk_at "hf");(first|exact L2.kit_same _ _|exact rfl))|((with_reducible apply L2.r_isiI);(first|exact L2.kit_same _ _|exact rfl))|((with_reducible refine L2.r_typed ?_ ?_);(first|exact rfl|exact Or.inl ⟨rfl,_,by walk_at "hf"⟩))
 | ((with_reducible apply L2.r_cat);(walk_at "hf");(walk_at "hf");(first|exact Nat.le_of_ble_eq_true rfl|(focus (simp;done))|(focus (simp;lia)));intro p_ H_ n_ s_ m_)
 | ((with_reducible apply L2.r_slL1);(walk_at "hf");intro p_ H_ n_ s_ m_)|((with_reducible apply L2.r_catT);(walk_at "hf");(walk_at "hf");(exact List.cons_ne_nil _ _);(exact List.cons_ne_nil _ _);(first|exact Nat.le_of_ble_eq_true rfl|(focus (simp;done))|(focus (simp;lia)));intro p_ H_ s_ m_)
 | (with_reducible refine L2.r_gsub ?_)|((with_reducible apply L2.r_inL);(walk_at "hf");(exact rfl);(exact rfl))
 | (with_reducible refine L2.r_irng3 ?_)|((with_reducible refine L2.r_isr3 ?_ ?_ ?_);(first|exact⟨by decide,by decide⟩|exact⟨by lia,by lia⟩);(first|exact⟨by decide,by decide⟩|exact⟨by lia,by lia⟩))|(with_reducible refine L2.r_sortL ?_)|(with_reducible refine L2.r_ienum ?_)|((with_reducible apply L2.r_isn);(walk_at "hf")))
local macro_rules|`(tactic| walk_at "q") => `(tactic| first|(walk_at "p")|(with_reducible refine L2.r_ifs ?_))
local macro_rules|`(tactic| walk_at "x") => `(tactic| first|((with_reducible apply L2.r_ixT);(walk_at "hf");(exact rfl))|((with_reducible apply L2.r_ixL);(walk_at "hf");(exact rfl)))
local macro_rules|`(tactic| walk_at "r") => `(tactic| first|(walk_at "q")|(walk_at "x"))
local macro_rules|`(tactic| walk_at "v") => `(tactic| repeat walk_at "q")
local macro_rules|`(tactic| walk_at "j") => `(tactic| repeat (first|(walk_at "p")|(walk_at "x")))
local macro_rules|`(tactic| walk_at "w") => `(tactic| repeat walk_at "r")
section
variable {P:Program} {w:World} {K:PySem.W.Frag} {mg:Str→Option Value} {base:Heap} {G:Adr}
theorem sc_divisor_of:FnScope ["numbers","found","number","other","left"] ["numbers"] (defScope s_divisor_of):=⟨rfl,rfl,rfl,by decide +kernel,rfl,by decide +kernel,by decide +kernel⟩
theorem ok_divisor_of (D:Def K mg "divisor_of" s_divisor_of ["numbers"]) (T:Txt K mg G) (Y:base.NoSeer∧P.given.tree=none):Ok P w K mg base 1 "divisor_of" ["numbers"] (sp_divisor_of K):=by
 have S:=sc_divisor_of
 refine D.ok S (fun vs H Q E h=>?_) (fun f cdv A outer s H vs Q E hr h=>?_)
 ·obtain ⟨a,zs,rfl,ha,k⟩:=h;rfl
 ·obtain ⟨a,zs,rfl,ha,k⟩:=h
  have hu:=hu_of hr
  have q_ONE:=T.q_ONE
  refine⟨_,(pss_cons (ps_set (i:=1) S.nd rfl (Or.inl rfl) pe_int) (pss_cons (ps_for PassesOwn.never rfl (kpi_tup K rfl (pv 0)) (pg_name (i:=2) S.nd rfl (Or.inl rfl)) (pss_cons (ps_set (i:=3) S.nd rfl (Or.inl rfl) (pe_callB callN_abs rfl T.b_abs PyProof.Rows.boot_abs (pa_cons (pv 2) pa_nil))) (pss_one (ps_while PassesOwn.never (pt_cmpR op_ne (pv 3) pe_int (nomark _)) (pss_cons (ps_set (i:=4) S.nd rfl (Or.inl rfl) (pe_op op_mod (pv 1) (pv 3))) (pss_cons (ps_set (i:=1) S.nd rfl (Or.inl rfl) (pv 3)) (pss_one (ps_set (i:=3) S.nd rfl (Or.inl rfl) (pv 4))))))))) (pss_one (ps_ret (pv 1))))),?_⟩
  walk_at "w"
  refine f_tupE ha (fun i σ=>∃ o1 o2 o3,σ=[some (.ref a),some (.int (gcdL (zs.take i):Nat)),o1,o2,o3]) ⟨_,_,_,rfl⟩ (fun i x σ hx hp=>?_) (fun σ hp=>?_)
  ·obtain ⟨o1,o2,o3,rfl⟩:=hp
   obtain ⟨rfl,hi⟩:=int_get hx
   have hget:zs[i]?=some (zs.getD i 0):=by rw [List.getD,List.getElem?_eq_getElem hi];rfl
   generalize zs.getD i 0=z at hget
   walk_at "w"
   have ez:(if z<0 then -z else z)=((z.natAbs:Nat):Int):=by split <;> lia
   rw [ez]
   have hnx:Nat.gcd (gcdL (zs.take i)) z.natAbs=gcdL (zs.take (i+1)):=by rw [Mth.take_snoc hget,gcdL_snoc]
   refine f_while (fun m σ' H'=>∃ (f:Nat) (o:Option V),σ'=[some (.ref a),some (.int f),some (.int z),some (.int m),o]∧H'=H∧Nat.gcd f m=gcdL (zs.take (i+1))) z.natAbs ⟨_,_,rfl,rfl,hnx⟩ (fun m σ' H' hw=>?_)
   obtain ⟨f,o,rfl,rfl,hg⟩:=hw
   walk_at "w"
   refine if_both (fun hc=>?_) (fun hc=>?_)
   ·have hm:0<m:=by simp at hc;lia
    refine w_go ?_
    walk_at "w"
    refine⟨f % m,Nat.mod_lt _ hm,m,_,by rw [Int.natCast_emod] <;> rfl,rfl,?_⟩
    rw [Mth.gcd_turn]
    exact hg
   ·have hm:m=0:=by simp at hc;lia
    subst hm
    rw [Nat.gcd_zero_right] at hg
    subst hg
    exact⟨⟨_,_,_,rfl⟩,rfl⟩
  ·obtain ⟨o1,o2,o3,rfl⟩:=hp
   rw [List.length_map,List.take_length]
   walk_at "w"
   exact k
theorem sc_over:FnScope ["one","other"] ["one","other"] (defScope s_over):=⟨rfl,rfl,rfl,by decide +kernel,rfl,by decide +kernel,by decide +kernel⟩
theorem ok_over (D:Def K mg "over" s_over ["one","other"]) (T:Txt K mg G) (Y:base.NoSeer∧P.given.tree=none):Ok P w K mg base 1 "over" ["one","other"] (sp_over K):=by
 have S:=sc_over
 refine D.ok S (fun vs H Q E h=>?_) (fun f cdv A outer s H vs Q E hr h=>?_)
 ·obtain ⟨a,b,r,q,rfl,ha,hb,hl,hn,k⟩:=h;rfl
 ·obtain ⟨a,b,r,q,rfl,ha,hb,hl,hn,k⟩:=h
  have hu:=hu_of hr
  have q_ONE:=T.q_ONE
  refine⟨_,(pss_one (ps_ret (pe_callTy (kN_tuple K rfl) rfl T.b_tuple PyProof.Rows.boot_tuple (pa_cons (pe_comp (N:=["number","taken"]) (ix:=[none,none]) rfl (kpi_zip2 K rfl true true rfl T.b_zip (pa_cons (pv 0) (pa_cons (pv 1) pa_nil))) (fun _ _ _ _ _=>(kpg_tup (n:=2) K rfl rfl (pgs_cons (pg_name (i:=0) (show List.Nodup (["number","taken"]:List Str) by decide +kernel) rfl (Or.inl rfl)) (pgs_cons (pg_name (i:=1) (show List.Nodup (["number","taken"]:List Str) by decide +kernel) rfl (Or.inl rfl)) pgs_nil)))) (fun _ _ _ _ _=>rfl) (fun _ _ _ _ _=>(pe_op op_sub (pv 0) (pv 1))) rfl (by decide +kernel) (by decide +kernel) rfl True.intro) pa_nil)))),?_⟩
  walk_at "w"
  refine rd_zipRows (r:=r) (q:=q) (· - ·) rfl ha hb hl hn fun l H1 hl1 s1 m1=>?_
  walk_at "w"
  rename_i p2 H2 s2 m2
  exact k _ _ (s1.trans s2) m2
theorem sc_power:FnScope ["row","n"] ["row","n"] (defScope s_power):=⟨rfl,rfl,rfl,by decide +kernel,rfl,by decide +kernel,by decide +kernel⟩
theorem ok_power (D:Def K mg "power" s_power ["row","n"]) (T:Txt K mg G) (Y:base.NoSeer∧P.given.tree=none):Ok P w K mg base 1 "power" ["row","n"] (sp_power K):=by
 have S:=sc_power
 refine D.ok S (fun vs H Q E h=>?_) (fun f cdv A outer s H vs Q E hr h=>?_)
 ·obtain ⟨a,r,n,rfl,ha,hn,hm,k⟩:=h;rfl
 ·obtain ⟨a,r,n,rfl,ha,hn,hm,k⟩:=h
  have hu:=hu_of hr
  have q_ONE:=T.q_ONE
  refine⟨_,(pss_one (ps_ret (pe_callTy (kN_tuple K rfl) rfl T.b_tuple PyProof.Rows.boot_tuple (pa_cons (pe_comp (N:=["number","n"]) (ix:=[none,some 1]) rfl (kpi_tup K rfl (pv 0)) (fun _ _ _ _ _=>(pg_name (i:=0) (show List.Nodup (["number","n"]:List Str) by decide +kernel) rfl (Or.inl rfl))) (fun _ _ _ _ _=>rfl) (fun _ _ _ _ _=>(pe_op op_mulW (pv 0) (pv 1))) rfl (by decide +kernel) (by decide +kernel) rfl ⟨⟨rfl,Or.inr (Or.inl rfl),rfl,rfl⟩,True.intro⟩) pa_nil)))),?_⟩
  walk_at "w"
  refine rd_mapRow (r:=r) (fun x=>.int (x*n)) [some (.int n)] rfl ha hn (fun x H' Qc hx s kc=>?_) (fun l H1 hl s1 m1=>?_)
  ·walk_at "w"
   refine r_I (C:=CMulW) (hm x hx) ?_
   exact kc _ (Same.refl _)
  walk_at "w"
  rename_i p2 H2 s2 m2
  refine k _ _ (s1.trans s2) ?_
  rw [m2,Mth.mulv,List.map_map]
  rfl
theorem sc_checked_commas:FnScope ["commas"] ["commas"] (defScope s_checked_commas):=⟨rfl,rfl,rfl,by decide +kernel,rfl,by decide +kernel,by decide +kernel⟩
theorem ok_checked_commas (D:Def K mg "checked_commas" s_checked_commas ["commas"]) (T:Txt K mg G) (Y:base.NoSeer∧P.given.tree=none):Ok P w K mg base 1 "checked_commas" ["commas"] (sp_checked_commas K):=by
 have S:=sc_checked_commas
 refine D.ok S (fun vs H Q E h=>?_) (fun f cdv A outer s H vs Q E hr h=>?_)
 ·obtain ⟨l,ys,rfl,hl,hn,k⟩:=h;rfl
 ·obtain ⟨l,ys,rfl,hl,hn,k⟩:=h
  have hu:=hu_of hr
  have q_ONE:=T.q_ONE
  refine⟨_,(pss_cons (ps_if (pt_cmpR op_gt (pe_callB (kN_len K rfl) rfl T.b_len PySem.boot_len (pa_cons (pv 0) pa_nil)) (pe_glob (v:=V.int 6) rfl T.g_MOST_COMMAS ⟨_,rfl⟩) (nomark _)) (pss_one ps_never) pss_nil) (pss_one (ps_ret (pv 0)))),?_⟩
  walk_at "w"
  refine if_ff (by simp;lia) ?_
  walk_at "w"
  exact k
theorem sc_unit:FnScope ["place","size"] ["place","size"] (defScope s_unit):=⟨rfl,rfl,rfl,by decide +kernel,rfl,by decide +kernel,by decide +kernel⟩
theorem ok_unit (D:Def K mg "unit" s_unit ["place","size"]) (T:Txt K mg G) (Y:base.NoSeer∧P.given.tree=none):Ok P w K mg base 1 "unit" ["place","size"] (sp_unit K):=by
 have S:=sc_unit
 refine D.ok S (fun vs H Q E h=>?_) (fun f cdv A outer s H vs Q E hr h=>?_)
 ·obtain ⟨p,n,rfl,hn,k⟩:=h;rfl
 ·obtain ⟨p,n,rfl,hn,k⟩:=h
  have hu:=hu_of hr
  have q_ONE:=T.q_ONE
  refine⟨_,(pss_one (ps_ret (pe_callTy (kN_tuple K rfl) rfl T.b_tuple PyProof.Rows.boot_tuple (pa_cons (pe_comp (N:=["here","place"]) (ix:=[none,some 0]) rfl (pi_range1 rfl T.b_range (pa_cons (pv 1) pa_nil)) (fun _ _ _ _ _=>(pg_name (i:=0) (show List.Nodup (["here","place"]:List Str) by decide +kernel) rfl (Or.inl rfl))) (fun _ _ _ _ _=>rfl) (fun _ _ _ _ _=>(pe_ifExp (pt_cmpR op_eq (pv 0) (pv 1) (nomark _)) pe_int pe_int)) rfl (by decide +kernel) (by decide +kernel) rfl ⟨⟨rfl,Or.inr (Or.inl rfl),rfl,rfl⟩,True.intro⟩) pa_nil)))),?_⟩
  walk_at "w"
  refine rd_range (n:=n) (fun i=>.int (if i=(p:Int) then 1 else 0)) [some (.int p)] rfl (by lia) (fun i H' Qc hi s kc=>?_) (fun l H1 hl s1 m1=>?_)
  ·walk_at "w"
   refine if_both (fun hc=>?_) (fun hc=>?_)
   ·have:=kc _ (Same.refl _)
    rw [if_pos (of_decide_eq_true hc)] at this
    walk_at "w"
    exact this
   ·have:=kc _ (Same.refl _)
    rw [if_neg (of_decide_eq_false hc)] at this
    walk_at "w"
    exact this
  have e:(List.range n).map (fun (i:Nat)=>V.int (if (i:Int)=(p:Int) then 1 else 0))=(Mth.unitv p n).map V.int:=by
   rw [Mth.unitv,List.map_map]
   refine List.map_congr_left fun i _=>?_
   simp only [Function.comp_apply,Int.ofNat_inj]
  rw [e] at m1
  walk_at "w"
  rename_i p2 H2 s2 m2
  exact k _ _ (s1.trans s2) m2
theorem sc_lead_place:FnScope ["row"] ["row"] (defScope s_lead_place):=⟨rfl,rfl,rfl,by decide +kernel,rfl,by decide +kernel,by decide +kernel⟩
theorem ok_lead_place (D:Def K mg "lead_place" s_lead_place ["row"]) (T:Txt K mg G) (Y:base.NoSeer∧P.given.tree=none):Ok P w K mg base 1 "lead_place" ["row"] (sp_lead_place K):=by
 have S:=sc_lead_place
 refine D.ok S (fun vs H Q E h=>?_) (fun f cdv A outer s H vs Q E hr h=>?_)
 ·obtain ⟨a,r,k,rfl,ha,hl,hk,kk⟩:=h;rfl
 ·obtain ⟨a,r,k,rfl,ha,hl,hk,kk⟩:=h
  have hu:=hu_of hr
  have q_ONE:=T.q_ONE
  refine⟨_,(pss_one (ps_ret (pe_callB (kN_maxL K rfl rfl) rfl T.b_max PyProof.Rows.boot_max (pa_cons (pe_comp (N:=["place","number"]) (ix:=[none,none]) rfl (kpi_enum K rfl true rfl T.b_enumerate (pa_cons (pv 0) pa_nil)) (fun _ _ _ _ _=>(kpg_tup (n:=2) K rfl rfl (pgs_cons (pg_name (i:=0) (show List.Nodup (["place","number"]:List Str) by decide +kernel) rfl (Or.inl rfl)) (pgs_cons (pg_name (i:=1) (show List.Nodup (["place","number"]:List Str) by decide +kernel) rfl (Or.inl rfl)) pgs_nil)))) (fun _ _ _ _ _=>(pt_cmpR op_ne (pv 1) pe_int (nomark _))) (fun _ _ _ _ _=>(pv 0)) rfl (by decide +kernel) (by decide +kernel) rfl True.intro) pa_nil)))),?_⟩
  have hkl:k<r.length:=by
   have:=hk.1
   by_cases h:k<r.length
   ·exact h
   ·rw [List.getD,List.getElem?_eq_none (by lia)] at this
    exact absurd this (by decide)
  walk_at "w"
  refine rd_filterN (r:=r) [] (fun i=>r.getD i 0 != 0) rfl ha hl (fun i H' Qt hi s kt=>?_) (fun i H' Qc s kc=>?_) (fun l H1 n1 s1 m1=>?_)
  ·walk_at "w"
   have e:(!decide (r.getD i 0=0))=(r.getD i 0 != 0):=by
    by_cases h:r.getD i 0=0
    ·rw [h];rfl
    ·rw [decide_eq_false h,bne_iff_ne.mpr h];rfl
   rw [e]
   exact kt
  ·walk_at "w"
   exact kc
  walk_at "w"
  have hmem:(k:Int)∈((List.range r.length).filter fun i=>r.getD i 0 != 0).map fun (i:Nat)=>(i:Int):=by
   refine List.mem_map.mpr ⟨k,List.mem_filter.mpr ⟨List.mem_range.mpr hkl,?_⟩,rfl⟩
   have:=hk.1
   exact bne_iff_ne.mpr (by lia)
  refine r_maxL (SqL.of m1) (fun z=>by rw [z] at hmem;simp at hmem) fun m hm hx=>?_
  have e:m=k:=by
   have h1:=hx _ hmem
   obtain ⟨j,hj,rfl⟩:=List.mem_map.mp hm
   have h2:=(List.mem_filter.mp hj).2
   by_cases c:k<j
   ·rw [hk.2 j c] at h2
    exact absurd h2 (by decide)
   ·lia
  rw [e]
  exact kk _ s1
theorem sc_lowered:FnScope ["vector","step","place"] ["vector","step","place"] (defScope s_lowered):=⟨rfl,rfl,rfl,by decide +kernel,rfl,by decide +kernel,by decide +kernel⟩
structure Os_lowered (P:Program) (w:World) (K:PySem.W.Frag) (mg:Str→Option Value) (base:Heap) (G:Adr):Prop where
 over:Ok P w K mg base 1 "over" ["one","other"] (sp_over K)
 power:Ok P w K mg base 1 "power" ["row","n"] (sp_power K)
theorem ok_lowered (D:Def K mg "lowered" s_lowered ["vector","step","place"]) (T:Txt K mg G) (O:Os_lowered P w K mg base G) (Y:base.NoSeer∧P.given.tree=none):Ok P w K mg base 34 "lowered" ["vector","step","place"] (sp_lowered K):=by
 have S:=sc_lowered
 refine D.ok S (fun vs H Q E h=>?_) (fun f cdv A outer s H vs Q E hr h=>?_)
 ·obtain ⟨a,b,p,n,M,k,v,s,rfl,ha,hb,lv,ls,hn,hp,h0,bv,bs,hM,hk,kk⟩:=h;rfl
 ·obtain ⟨a,b,p,n,M,k,v,s,rfl,ha,hb,lv,ls,hn,hp,h0,bv,bs,hM,hk,kk⟩:=h
  have hu:=hu_of hr
  have q_ONE:=T.q_ONE
  refine⟨_,(pss_one (ps_ret (pcall O.over (hr.mono (by decide)) (pa_cons (pv 0) (pa_cons (pcall O.power (hr.mono (by decide)) (pa_cons (pv 1) (pa_cons (pe_op (op_fdivP Y rfl rfl rfl rfl rfl (hr.mono (by decide))) (pe_ix (kx_seq K rfl) (pv 0) (pv 2) (fun _ _=>rfl)) (pe_ix (kx_seq K rfl) (pv 1) (pv 2) (fun _ _=>rfl))) pa_nil))) pa_nil))))),?_⟩
  walk_at "v"
  refine r_ixT ha (atI_nat (int_at (by lia))) ?_
  walk_at "v"
  refine r_ixT hb (atI_nat (int_at (by lia))) ?_
  walk_at "w"
  refine c_power s hb (by lia) (fun x hx=>?_) fun p1 H1 s1 m1=>?_
  ·have b1:bitsI x≤k:=by
    rw [Mth.bits_bl]
    exact Mth.bl_le (Nat.lt_of_le_of_lt (mem_bd bs hx) hM)
   have b2:bitsI ((v.getD p 0).fdiv (s.getD p 0))≤k:=by
    rw [Mth.bits_bl]
    exact Mth.bl_le (Nat.lt_of_le_of_lt (Nat.le_trans (Mth.fdiv_le _ h0) (bv p)) hM)
   unfold CMulW
   lia
  walk_at "w"
  refine c_over v (Mth.mulv s ((v.getD p 0).fdiv (s.getD p 0))) (s1.at ha) (SqT.of m1) (by rw [lv,Mth.mulv_len ls]) (by lia) fun p2 H2 s2 m2=>?_
  exact kk _ _ (s1.trans s2) m2
theorem sc_parted:FnScope ["vectors","place","led","others","least","left"] ["vectors","place"] (defScope s_parted):=⟨rfl,rfl,rfl,by decide +kernel,rfl,by decide +kernel,by decide +kernel⟩
structure Os_parted (P:Program) (w:World) (K:PySem.W.Frag) (mg:Str→Option Value) (base:Heap) (G:Adr):Prop where
 power:Ok P w K mg base 1 "power" ["row","n"] (sp_power K)
 lowered:Ok P w K mg base 34 "lowered" ["vector","step","place"] (sp_lowered K)
set_option maxHeartbeats 4000000 in
theorem ok_parted (D:DefT K mg "parted" s_parted ["vectors","place"] G.c_lam) (T:Txt K mg G) (O:Os_parted P w K mg base G) (Y:base.NoSeer∧P.given.tree=none) (B:PySem.W.CodeHd base G.c_lam (tabP K "parted")∧base.BuiltinsAt mg (tabP K "parted")):Ok P w K mg base 35 "parted" ["vectors","place"] (sp_parted K):=by
 have S:=sc_parted
 refine D.ok S (fun vs H Q E h=>?_) (fun f A outer s H vs Q E hr h=>?_)
 ·obtain ⟨l,p,n,M,A,k,xs,rs,rfl,hl,hrs,h64,hln,hn,hp,hbd,hA,hA0,hMk,hk,hT,kk⟩:=h;rfl
 ·obtain ⟨l,p,n,M,A,k,xs,rs,rfl,hl,hrs,h64,hln,hn,hp,hbd,hA,hA0,hMk,hk,hT,kk⟩:=h
  have hu:=hu_of hr
  have q_ONE:=T.q_ONE
  refine⟨_,(pss_cons (ps_setC (k:=2) (N:=["vector","place"]) (ix:=[none,some 1]) S.nd rfl (Or.inl rfl) rfl (kpi_list K rfl (pv 0)) (fun _ _ _ _ _=>(pg_name (i:=0) (show List.Nodup (["vector","place"]:List Str) by decide +kernel) rfl (Or.inl rfl))) (fun _ _ _ _ _=>(pt_cmpR op_ne (pe_ix (kx_seq K rfl) (pv 0) (pv 1) (fun _ _=>rfl)) pe_int (nomark _))) (fun _ _ _ _ _=>(pv 0)) rfl (by decide +kernel) (by decide +kernel) rfl ⟨⟨rfl,Or.inr (Or.inl rfl),rfl,rfl⟩,True.intro⟩) (pss_cons (ps_setC (k:=3) (N:=["vector","place"]) (ix:=[none,some 1]) S.nd rfl (Or.inl rfl) rfl (kpi_list K rfl (pv 0)) (fun _ _ _ _ _=>(pg_name (i:=0) (show List.Nodup (["vector","place"]:List Str) by decide +kernel) rfl (Or.inl rfl))) (fun _ _ _ _ _=>(pt_cmpR op_eq (pe_ix (kx_seq K rfl) (pv 0) (pv 1) (fun _ _=>rfl)) pe_int (nomark _))) (fun _ _ _ _ _=>(pv 0)) rfl (by decide +kernel) (by decide +kernel) rfl ⟨⟨rfl,Or.inr (Or.inl rfl),rfl,rfl⟩,True.intro⟩) (pss_cons (ps_while PassesOwn.never (pt_cmpR op_gt (pe_callB (kN_len K rfl) rfl T.b_len PySem.boot_len (pa_cons (pv 2) pa_nil)) pe_int (nomark _)) (pss_cons (ps_set (i:=2) S.nd rfl (Or.inl rfl) (kpe_sortL (k:=0) (q:="parted.<locals>.<lambda>") (lp:=lpP) (y:="vector") (fns:=["place"]) (ixs:=[some 1]) K rfl rfl (hr.mono (by decide)) (pv 2) rfl B.1 B.2 (fun _ _ _ _ _=>rfl) (fun _ _ _ _=>(pe_callB callN_abs rfl T.b_abs PyProof.Rows.boot_abs (pa_cons (pe_ix (kx_seq K rfl) (pv 0) (pv 1) (fun _ _=>rfl)) pa_nil))) rfl rfl rfl rfl (by decide +kernel) rfl ⟨⟨rfl,Or.inr (Or.inl rfl),rfl,rfl⟩,True.intro⟩ rfl rfl T.b_sorted PyProof.Rows.boot_sorted)) (pss_cons (ps_set (i:=4) S.nd rfl (Or.inr rfl) (pe_ix (kx_seq K rfl) (pv 2) pe_int (fun _ _=>rfl))) (pss_cons (ps_setC (k:=5) (N:=["vector","least","place"]) (ix:=[none,some 4,some 1]) S.nd rfl (Or.inl rfl) rfl (kpi_list K rfl (pe_slice (ksl_list K rfl) (pv 2) (po_some pe_int) po_none)) (fun _ _ _ _ _=>(pg_name (i:=0) (show List.Nodup (["vector","least","place"]:List Str) by decide +kernel) rfl (Or.inl rfl))) (fun _ _ _ _ _=>rfl) (fun _ _ _ _ _=>(pcall O.lowered (hr.mono (by decide)) (pa_cons (pv 0) (pa_cons (pv 1) (pa_cons (pv 2) pa_nil))))) rfl (by decide +kernel) (by decide +kernel) rfl ⟨⟨rfl,Or.inr (Or.inl rfl),rfl,rfl⟩,⟨⟨rfl,Or.inr (Or.inl rfl),rfl,rfl⟩,True.intro⟩⟩) (pss_cons (ps_set (i:=2) S.nd rfl (Or.inl rfl) (pe_op op_cat (pe_lst (pa_cons (pv 4) pa_nil)) (pe_comp (N:=["vector","place"]) (ix:=[none,some 1]) rfl (kpi_list K rfl (pv 5)) (fun _ _ _ _ _=>(pg_name (i:=0) (show List.Nodup (["vector","place"]:List Str) by decide +kernel) rfl (Or.inl rfl))) (fun _ _ _ _ _=>(pt_cmpR op_ne (pe_ix (kx_seq K rfl) (pv 0) (pv 1) (fun _ _=>rfl)) pe_int (nomark _))) (fun _ _ _ _ _=>(pv 0)) rfl (by decide +kernel) (by decide +kernel) rfl ⟨⟨rfl,Or.inr (Or.inl rfl),rfl,rfl⟩,True.intro⟩))) (pss_one (ps_set (i:=3) S.nd rfl (Or.inl rfl) (pe_op op_cat (pv 3) (pe_comp (N:=["vector","place"]) (ix:=[none,some 1]) rfl (kpi_list K rfl (pv 5)) (fun _ _ _ _ _=>(pg_name (i:=0) (show List.Nodup (["vector","place"]:List Str) by decide +kernel) rfl (Or.inl rfl))) (fun _ _ _ _ _=>(pt_cmpR op_eq (pe_ix (kx_seq K rfl) (pv 0) (pv 1) (fun _ _=>rfl)) pe_int (nomark _))) (fun _ _ _ _ _=>(pv 0)) rfl (by decide +kernel) (by decide +kernel) rfl ⟨⟨rfl,Or.inr (Or.inl rfl),rfl,rfl⟩,True.intro⟩))))))))) (pss_one (ps_ret (pe_tup (pa_cons (pe_comp (N:=["vector","place"]) (ix:=[none,some 1]) rfl (kpi_list K rfl (pv 2)) (fun _ _ _ _ _=>(pg_name (i:=0) (show List.Nodup (["vector","place"]:List Str) by decide +kernel) rfl (Or.inl rfl))) (fun _ _ _ _ _=>rfl) (fun _ _ _ _ _=>(pe_ifExp (pt_cmpR op_lt (pe_ix (kx_seq K rfl) (pv 0) (pv 1) (fun _ _=>rfl)) pe_int (nomark _)) (pcall O.power (hr.mono (by decide)) (pa_cons (pv 0) (pa_cons (pe_un un_neg pe_int) pa_nil))) (pv 0))) rfl (by decide +kernel) (by decide +kernel) rfl ⟨⟨rfl,Or.inr (Or.inl rfl),rfl,rfl⟩,True.intro⟩) (pa_cons (pv 3) pa_nil)))))))),?_⟩
  walk_at "w"
  refine rd_filterRows [some (.int p)] (fun v=>v.getD p 0 != 0) rfl hl hrs (by lia) (fun a r H' Qt hr s ha kt=>?_) (fun a H' Qc s kc=>?_) (fun l1 H1 ys n1 s1 m1 r1=>?_)
  ·walk_at "v"
   refine r_ixT ha (atI_nat (int_at (by rw [hln r hr];exact hp))) ?_
   walk_at "w"
   exact kt _ (Same.refl _)
  ·walk_at "w"
   exact kc
  walk_at "w"
  have hrs1:=hrs.same s1
  refine rd_filterRows [some (.int p)] (fun v=>v.getD p 0 == 0) rfl (s1.seq hl) hrs1 (by lia) (fun a r H' Qt hr s ha kt=>?_) (fun a H' Qc s kc=>?_) (fun l2 H2 zs n2 s2 m2 r2=>?_)
  ·walk_at "v"
   refine r_ixT ha (atI_nat (int_at (by rw [hln r hr];exact hp))) ?_
   walk_at "w"
   exact kt _ (Same.refl _)
  ·walk_at "w"
   exact kc
  walk_at "j"
  refine join (fun σ' H'=>∃ (o4 o5:Option V) (l1 l2:Addr) (ys zs:List V) (led os:List (List Int)),σ'=[some (.ref l),some (.int p),some (.ref l1),some (.ref l2),o4,o5]∧SmT K H H'∧TabK K H'∧H' l1=some (.lst ys)∧H' l2=some (.lst zs)∧RowsL K H' ys led∧RowsL K H' zs os∧Mth.PJ n p M A led os∧Mth.Eqv n rs (led++os)∧led.length+os.length≤rs.length∧led.length≤1∧(∀ v∈led,Mth.at' p v≤A)∧(led=[]→∀ v∈os,Mth.BdM M v)) (fun nx kn=>?_) (fun σ' H' hP=>?_)
  ·refine f_while (fun m σ' H'=>∃ (o4 o5:Option V) (l1 l2:Addr) (ys zs:List V) (led os:List (List Int)),σ'=[some (.ref l),some (.int p),some (.ref l1),some (.ref l2),o4,o5]∧SmT K H H'∧TabK K H'∧H' l1=some (.lst ys)∧H' l2=some (.lst zs)∧RowsL K H' ys led∧RowsL K H' zs os∧Mth.PJ n p M A led os∧Mth.Eqv n rs (led++os)∧led.length+os.length≤rs.length∧(∀ v∈led,Mth.at' p v≤A)∧(led=[]→∀ v∈os,Mth.BdM M v)∧m=Mth.mz p led) (Mth.mz p (rs.filter fun v=>v.getD p 0 != 0)) ?_ (fun m σ' H' hw=>?_)
   ·have hc2:=cnt2 (fun v:List Int=>v.getD p 0 == 0) rs
    refine⟨_,_,l1,l2,ys,zs,_,_,rfl,SameT.of (s1.trans s2),hT.same (s1.trans s2),s2 _ _ m1,m2,r1.same s2,r2,⟨fun v hv=>?_,fun v hv=>?_,fun v hv=>?_,(fun v hv=>hA v (List.mem_filter.mp hv).1),.inl fun v hv=>?_⟩,Mth.Eqv.mem fun x=>?_,Nat.le_of_eq hc2,(fun v hv=>hA v (List.mem_filter.mp hv).1),(fun _ v hv=>hbd v (List.mem_filter.mp hv).1),rfl⟩
    ·exact (List.mem_append.mp hv).elim (fun z=>hln v (List.mem_filter.mp z).1) fun z=>hln v (List.mem_filter.mp z).1
    ·simpa using (List.mem_filter.mp hv).2
    ·simpa using (List.mem_filter.mp hv).2
    ·exact (List.mem_append.mp hv).elim (fun z=>hbd v (List.mem_filter.mp z).1) fun z=>hbd v (List.mem_filter.mp z).1
    ·rw [List.mem_append,List.mem_filter,List.mem_filter]
     constructor
     ·intro h
      by_cases e:x.getD p 0=0
      ·exact .inr ⟨h,by simpa using e⟩
      ·exact .inl ⟨h,by simpa using e⟩
     ·rintro (h|h) <;> exact h.1
   obtain ⟨o4,o5,l3,l4,ys3,zs3,led,os,rfl,sm3,hT3,e3,e4,r3,r4,hPI,hE,hlen,hMp,hnn,rfl⟩:=hw
   walk_at "w"
   refine if_both (fun hc=>?_) (fun hc=>?_)
   ·refine w_go ?_
    walk_at "w"
    have hc':1<ys3.length:=by have:=of_decide_eq_true hc;lia
    have lys:=r3.length
    refine rd_sortL (led.map fun v=>((Mth.at' p v:Nat):Int)) hT3 (SqL.of e3) (by rw [List.length_map,r3.length]) (by lia) (fun i x nn hx hnn H5 s5=>?_) (fun pS H5 ysS s5 hT5 m5 so=>?_)
    ·obtain ⟨a,r,rfl,ha,hi⟩:=r3.get hx
     have er:nn=((Mth.at' p r:Nat):Int):=by rw [List.getElem?_map,hi] at hnn;exact (Option.some.inj hnn).symm
     subst er
     have hr5:=s5.at hT3 ha
     walk_at "v"
     refine r_ixT hr5 (atI_nat (int_at (by rw [hPI.1 r (List.mem_append_left _ (mem_of hi))];exact hp))) ?_
     walk_at "w"
     refine⟨?_,Same.refl _⟩
     unfold Mth.at'
     congr 1
     split <;> lia
    obtain ⟨qs,rq,pq,wq⟩:=sorted_rows (fun v=>((Mth.at' p v:Nat):Int)) r3 so (Same.refl _)
    have rq5:=rq.sameT s5 hT3
    have lq:=pq.length_eq
    obtain ⟨sL,rest,rfl⟩:∃ sL rest,qs=sL::rest:=by
     cases qs with
     | nil=>simp at lq;lia
     | cons x y=>exact⟨x,y,rfl⟩
    have hrne:rest≠[]:=fun z=>by rw [z] at lq;simp at lq;lia
    have hle:∀ v∈rest,Mth.at' p sL≤Mth.at' p v:=fun v hv=>by have:=(List.pairwise_cons.mp wq).1 v hv;lia
    obtain ⟨tPI,tmz,tE⟩:=hPI.turn hA0 pq hrne hle
    have e4':=s5.lst hT3 e4
    have r4':=r4.sameT s5 hT3
    obtain ⟨aL,ysR,rfl,haL,hR⟩:=rq5.uncons
    have mq:∀ v,v∈sL::rest→v∈led:=fun v hv=>pq.mem_iff.mp hv
    have hB:=hPI.bd hA0
    have lsL:sL.length=n:=hPI.1 sL (List.mem_append_left _ (mq sL (.head _)))
    have lrs:∀ v∈rest,v.length=n:=fun v hv=>hPI.1 v (List.mem_append_left _ (mq v (List.mem_cons_of_mem _ hv)))
    have lrest:rest.length≤63:=by have:=lq;simp at this;lia
    walk_at "w"
    refine r_ixL (SqL.of m5) (atI_nat (j:=0) rfl) ?_
    walk_at "w"
    rename_i p6 H6 n6 s6 m6
    refine rd_mapRows [some (.ref aL),some (.int p)] (Mth.low1 p sL) rfl (SqL.of m6) (hR.same s6) (by lia) (fun a r H7 Qc hr s7 ha kc=>?_) (fun l7 H7 ys7 n7 s7 m7 r7=>?_)
    ·walk_at "w"
     exact c_lowered r sL ha ((s6.trans s7).at haL) (lrs r hr) lsL hn hp (hPI.2.1 sL (mq sL (.head _))) (hB r (List.mem_append_left _ (mq r (List.mem_cons_of_mem _ hr)))) (hB sL (List.mem_append_left _ (mq sL (.head _)))) hMk hk fun p8 H8 s8 m8=>kc _ _ s8 (SqT.of m8)
    have ll7:∀ r∈rest.map (Mth.low1 p sL),r.length=n:=fun r hr=>by
     obtain ⟨u,hu,rfl⟩:=List.mem_map.mp hr
     exact Mth.low1_len (lrs u hu) lsL
    walk_at "w"
    rename_i p8 H8 n8 s8 m8
    refine rd_filterRows [some (.int p)] (fun v=>v.getD p 0 != 0) rfl (SqL.of (s8 _ _ m7)) (r7.same s8) (by rw [List.length_map];lia) (fun a r H9 Qt hr s9 ha kt=>?_) (fun a H9 Qc s9 kc=>?_) (fun l9 H9 ys9 n9 s9 m9 r9=>?_)
    ·walk_at "v"
     refine r_ixT ha (atI_nat (int_at (by rw [ll7 r hr];exact hp))) ?_
     walk_at "w"
     exact kt _ (Same.refl _)
    ·walk_at "w"
     exact kc
    have cnt:=left_cnt p sL rest
    have lq':rest.length+1=led.length:=by simpa using lq
    have l9':ys9.length=(Mth.left1 p sL rest).length:=r9.length.symm
    walk_at "w"
    rename_i p10 H10 n10 s10 m10
    have s710:=(s8.trans s9).trans s10
    refine rd_filterRows [some (.int p)] (fun v=>v.getD p 0 == 0) rfl (SqL.of (s710 _ _ m7)) (r7.same s710) (by rw [List.length_map];lia) (fun a r H9 Qt hr s9 ha kt=>?_) (fun a H9 Qc s9 kc=>?_) (fun l11 H11 ys11 n11 s11 m11 r11=>?_)
    ·walk_at "v"
     refine r_ixT ha (atI_nat (int_at (by rw [ll7 r hr];exact hp))) ?_
     walk_at "w"
     exact kt _ (Same.refl _)
    ·walk_at "w"
     exact kc
    have l11':ys11.length=(Mth.left0 p sL rest).length:=r11.length.symm
    have lz:zs3.length=os.length:=r4.length.symm
    have s511:=((s6.trans s7).trans s710).trans s11
    walk_at "w"
    refine r_cat (s511 _ _ e4') m11 (by lia) fun p12 H12 n12 s12 m12=>?_
    have s512:=s511.trans s12
    refine⟨_,tmz,_,_,p10,p12,.ref aL::ys9,zs3++ys11,sL::Mth.left1 p sL rest,os++Mth.left0 p sL rest,rfl,sm3.trans (s5.trans (SameT.of s512)),hT5.same s512,s12 _ _ (s11 _ _ m10),m12,.cons (s512.at haL) (r9.same ((s10.trans s11).trans s12)),(r4'.same s512).append (r11.same s12),tPI,hE.trans tE,by simp;lia,fun v hv=>?_,(fun z=>nomatch z),rfl⟩
    rcases List.mem_cons.mp hv with rfl|hv
    ·exact hMp _ (mq _ (.head _))
    ·obtain ⟨u,hu,rfl⟩:=List.mem_map.mp (List.mem_filter.mp hv).1
     exact Nat.le_trans (Nat.le_of_lt (Mth.low1_lt (lrs u hu) lsL (hPI.2.1 sL (mq sL (.head _))))) (hMp _ (mq _ (.head _)))
   ·exact kn _ _ ⟨o4,o5,l3,l4,ys3,zs3,led,os,rfl,sm3,hT3,e3,e4,r3,r4,hPI,hE,hlen,by have:=r3.length;have:=of_decide_eq_false hc;lia,hMp,hnn⟩
  obtain ⟨o4,o5,l3,l4,ys3,zs3,led,os,rfl,sm3,hT3,e3,e4,r3,r4,hPI,hE,hlen,h1,hMp,hnn⟩:=hP
  have hB:=hPI.bd hA0
  walk_at "w"
  refine rd_mapRows [some (.int p)] (pos1 p) rfl (SqL.of e3) r3 (by lia) (fun a r H7 Qc hr s7 ha kc=>?_) (fun l7 H7 ys7 n7 s7 m7 r7=>?_)
  ·have lr:=hPI.1 r (List.mem_append_left _ hr)
   walk_at "v"
   refine r_ixT ha (atI_nat (int_at (by rw [lr];exact hp))) ?_
   walk_at "w"
   refine if_both (fun hc=>?_) (fun hc=>?_)
   ·walk_at "w"
    refine c_power r ha (by lia) (fun x hx=>?_) fun p8 H8 s8 m8=>kc _ _ s8 ?_
    ·have b1:bitsI x≤k:=by
      rw [Mth.bits_bl]
      exact Mth.bl_le (Nat.lt_of_le_of_lt (mem_bd (hB r (List.mem_append_left _ hr)) hx) hMk)
     have b2:bitsI (-1)≤1:=by decide
     unfold CMulW
     lia
    ·unfold pos1
     rw [if_pos (of_decide_eq_true hc)]
     exact SqT.of m8
   ·walk_at "w"
    refine kc _ _ (Same.refl _) ?_
    unfold pos1
    rw [if_neg (of_decide_eq_false hc)]
    exact ha
  walk_at "w"
  rename_i p8 H8 s8 m8
  have s78:=s7.trans s8
  have mp:∀ v∈led.map (pos1 p),∃ u∈led,pos1 p u=v:=fun v hv=>by obtain ⟨u,hu,e⟩:=List.mem_map.mp hv;exact⟨u,hu,e⟩
  refine kk p8 l7 l4 H8 ys7 zs3 (led.map (pos1 p)) os (sm3.trans (SameT.of s78)) (hT3.same s78) (SqT.of m8) (SqL.of (s8 _ _ m7)) (r7.same s8) (SqL.of (s78 _ _ e4)) (r4.same s78) (by rw [List.length_map];exact h1) (fun v hv=>?_) hPI.2.2.1 (fun v hv=>?_) (fun v hv=>?_) (hE.trans ?_) (by rw [List.length_map];exact hlen) (fun v hv=>by obtain ⟨u,hu,rfl⟩:=mp v hv;rw [pos1_at];exact hMp u hu) (fun z=>hnn (List.map_eq_nil_iff.mp z))
  ·obtain ⟨u,hu,rfl⟩:=mp v hv
   exact pos1_pos (hPI.2.1 u hu)
  ·rcases List.mem_append.mp hv with z|z
   ·obtain ⟨u,hu,rfl⟩:=mp v z
    exact pos1_len (hPI.1 u (List.mem_append_left _ hu))
   ·exact hPI.1 v (List.mem_append_right _ z)
  ·rcases List.mem_append.mp hv with z|z
   ·obtain ⟨u,hu,rfl⟩:=mp v z
    exact pos1_bd (hB u (List.mem_append_left _ hu))
   ·exact hB v (List.mem_append_right _ z)
  ·match led,h1,hPI with
   | [],_,_=>exact Mth.Eqv.refl
   | [u],_,hPI =>
    show Mth.Eqv n (u::os) (pos1 p u::os)
    unfold pos1
    split
    ·exact Mth.Eqv.flip (hPI.1 u (.head _))
    ·exact Mth.Eqv.refl
theorem sc_stepped:FnScope ["vectors","size","steps","left","place","parts","lead"] ["vectors","size"] (defScope s_stepped):=⟨rfl,rfl,rfl,by decide +kernel,rfl,by decide +kernel,by decide +kernel⟩
structure Os_stepped (P:Program) (w:World) (K:PySem.W.Frag) (mg:Str→Option Value) (base:Heap) (G:Adr):Prop where
 lowered:Ok P w K mg base 34 "lowered" ["vector","step","place"] (sp_lowered K)
 parted:Ok P w K mg base 35 "parted" ["vectors","place"] (sp_parted K)
set_option maxHeartbeats 8000000 in
theorem ok_stepped (D:Def K mg "stepped" s_stepped ["vectors","size"]) (T:Txt K mg G) (O:Os_stepped P w K mg base G) (Y:base.NoSeer∧P.given.tree=none):Ok P w K mg base 36 "stepped" ["vectors","size"] (sp_stepped K):=by
 have S:=sc_stepped
 refine D.ok S (fun vs H Q E h=>?_) (fun f cdv A outer s H vs Q E hr h=>?_)
 ·obtain ⟨l,n,b,R,xs,rs,us,rfl,hl,hrs,h64,hln,hn,hbd,⟨lus,hus,hR⟩,hss,hb2,hT,kk⟩:=h;rfl
 ·obtain ⟨l,n,b,R,xs,rs,us,rfl,hl,hrs,h64,hln,hn,hbd,⟨lus,hus,hR⟩,hss,hb2,hT,kk⟩:=h
  have hu:=hu_of hr
  have q_ONE:=T.q_ONE
  refine⟨_,(pss_cons (ps_set (i:=2) S.nd rfl (Or.inl rfl) (pe_lst pa_nil)) (pss_cons (ps_set (i:=3) S.nd rfl (Or.inl rfl) (pv 0)) (pss_cons (ps_for PassesOwn.never rfl (pi_range3 rfl T.b_range (pa_cons (pe_op op_sub (pv 1) pe_int) (pa_cons (pe_un un_neg pe_int) (pa_cons (pe_un un_neg pe_int) pa_nil)))) (pg_name (i:=4) S.nd rfl (Or.inr rfl)) (pss_cons (ps_set (i:=5) S.nd rfl (Or.inl rfl) (pcall O.parted (hr.mono (by decide)) (pa_cons (pv 3) (pa_cons (pv 4) pa_nil)))) (pss_cons (ps_set (i:=3) S.nd rfl (Or.inl rfl) (pe_ix (kx_seq K rfl) (pv 5) pe_int (fun _ _=>rfl))) (pss_one (ps_for PassesOwn.never rfl (kpi_list K rfl (pe_ix (kx_seq K rfl) (pv 5) pe_int (fun _ _=>rfl))) (pg_name (i:=6) S.nd rfl (Or.inr rfl)) (pss_one (ps_set (i:=2) S.nd rfl (Or.inl rfl) (pe_op op_cat (pe_comp (N:=["step","lead","place"]) (ix:=[none,some 6,some 4]) rfl (kpi_list K rfl (pv 2)) (fun _ _ _ _ _=>(pg_name (i:=0) (show List.Nodup (["step","lead","place"]:List Str) by decide +kernel) rfl (Or.inl rfl))) (fun _ _ _ _ _=>rfl) (fun _ _ _ _ _=>(pcall O.lowered (hr.mono (by decide)) (pa_cons (pv 0) (pa_cons (pv 1) (pa_cons (pv 2) pa_nil))))) rfl (by decide +kernel) (by decide +kernel) rfl ⟨⟨rfl,Or.inr (Or.inl rfl),rfl,rfl⟩,⟨⟨rfl,Or.inr (Or.inl rfl),rfl,rfl⟩,True.intro⟩⟩) (pe_lst (pa_cons (pv 6) pa_nil)))))))))) (pss_one (ps_ret (pv 2)))))),?_⟩
  walk_at "w"
  rename_i ls0 H1 n1 s1 m1
  refine f_invD (fun i σ H'=>∃ (o1 o2 o3:Option V) (ls ll:Addr) (ys zs:List V) (st lf:List (List Int)),σ=[some (.ref l),some (.int n),some (.ref ls),some (.ref ll),o1,o2,o3]∧H ls=none∧SmT K H H'∧TabK K H'∧H' ls=some (.lst ys)∧RowsL K H' ys st∧SqL K H' ll zs∧RowsL K H' zs lf∧Mth.SK n b rs i st lf) ⟨_,_,_,ls0,l,[],xs,[],rs,rfl,n1,SameT.of s1,hT.same s1,m1,.nil,s1.seq hl,hrs.same s1,Mth.SK.start hln hbd⟩ (fun i σ H' hi hp=>?_) (fun σ H' hp=>?_)
  ·obtain ⟨o1,o2,o3,ls,ll,ys,zs,st,lf,rfl,hno,sm,hT2,e1,r1,e2,r2,hI⟩:=hp
   have hiw:i<n:=by lia
   obtain ⟨p,hpp⟩:∃ p:Nat,(n:Int) - 1 - i=p:=⟨n - 1 - i,by lia⟩
   rw [hpp]
   have hp1:p+i+1=n:=by lia
   have c1:=hI.c1
   have c2:=hI.c2
   have hgo:(∃ v∈lf,v.getD p 0≠0)→Mth.gs b (st.length+1)≤60000000∧Mth.ss b (st.length+1)<60000000:=fun hex=>by
    have h1:=Mth.ss_le b (hI.room hp1 hex lus hus hR)
    have h2:Mth.ss b (st.length+1)=Mth.ss b st.length+Mth.gs b (st.length+1)+1:=rfl
    lia
   have hgc:Mth.gs b st.length+3≤60000000:=gs_c hI lus hus hR hss hb2
   obtain ⟨A,k,hA0,hA,hAk,hk,hor⟩:∃ A k:Nat,0<A∧(∀ v∈lf,Mth.at' p v≤A)∧6*(2 ^ Mth.gs b st.length*(A*A))<2 ^ k∧k≤60000000∧((A=2 ^ Mth.gs b st.length∧Mth.ss b (st.length+1)<60000000)∨∀ v∈lf,v.getD p 0=0):=by
    by_cases hex:∃ v∈lf,v.getD p 0≠0
    ·exact⟨2 ^ Mth.gs b st.length,Mth.gs b (st.length+1),Nat.two_pow_pos _,fun v hv=>hI.bl v hv p,Mth.gs_step b st.length,(hgo hex).1,.inl ⟨rfl,(hgo hex).2⟩⟩
    ·have hz:∀ v∈lf,v.getD p 0=0:=fun v hv=>Classical.byContradiction fun z=>hex ⟨v,hv,z⟩
     refine⟨1,Mth.gs b st.length+3,by decide,fun v hv=>by unfold Mth.at';rw [hz v hv];decide,?_,hgc,.inr hz⟩
     rw [Nat.mul_one,Nat.pow_add,Nat.mul_comm]
     exact Nat.mul_lt_mul_of_pos_left (by decide) (Nat.two_pow_pos _)
   walk_at "w"
   refine c_parted (M:=2 ^ Mth.gs b st.length) (A:=A) (k:=k) (n:=n) (p:=p) ⟨e2,r2,by lia,hI.llf,hn,by lia,hI.bl,hA,hA0,hAk,hk,hT2⟩ fun t l1 l2 H3 ys3 zs3 led os sm3 hT3 mt q1 qr1 q2 qr2 h1 hpos h0 hlen hb3 hE hcnt hat hnn=>?_
   have hled:led≠[]→A=2 ^ Mth.gs b st.length∧Mth.ss b (st.length+1)<60000000:=fun hne=>by
    rcases hor with z|z
    ·exact z
    ·match led,hne,hpos,hE with
     | s::_,_,hpos,hE =>
      have:=Mth.Span.at0 (i:=p) hI.llf (hE.2 s (.head _)) z
      have:=hpos s (.head _)
      lia
   have e13:=sm3.lst hT2 e1
   have r13:=r1.sameT sm3 hT2
   have lq:=qr1.length
   have lst:=r1.length
   walk_at "w"
   refine f_invL (xs:=ys3) (fun j σ H4=>∃ (o3:Option V) (ls:Addr) (ys:List V),σ=[some (.ref l),some (.int n),some (.ref ls),some (.ref l2),some (.int p),some (.ref t),o3]∧H ls=none∧Same H3 H4∧H4 ls=some (.lst ys)∧RowsL K H4 ys ((led.take j).foldl (fun st s=>st.map (Mth.low1 p s)++[s]) st)) ⟨_,ls,ys,rfl,hno,Same.refl _,e13,r13⟩ (fun j σ H4 hp=>by obtain ⟨o3,ls,ys,rfl,_,s4,_⟩:=hp;exact s4.seq q1) (fun j x σ H4 hx hp=>?_) (fun σ H4 hp=>?_)
   ·obtain ⟨o4,ls4,ys4,rfl,hno4,s4,e4,r4⟩:=hp
    have hj:j=0:=by have:=(List.getElem?_eq_some_iff.mp hx).1;lia
    subst hj
    rw [List.take_zero,List.foldl_nil] at r4
    obtain ⟨a,sv,rfl,ha,hi3⟩:=qr1.get hx
    have hsm:=mem_of hi3
    have l4:=r4.length
    obtain ⟨rfl,hssc⟩:=hled (fun z=>by rw [z] at hsm;cases hsm)
    walk_at "w"
    refine rd_mapRows [some (.ref a),some (.int p)] (Mth.low1 p sv) rfl (SqL.of e4) r4 (by lia) (fun a5 r5 H5 Qc hr5 s5 ha5 kc=>?_) (fun l7 H7 ys7 n7 s7 m7 r7=>?_)
    ·walk_at "w"
     exact c_lowered (M:=2 ^ Mth.ss b (st.length+1)) (k:=Mth.ss b (st.length+1)+1) r5 sv ha5 ((s4.trans s5).at ha) (hI.lst r5 hr5) (hlen sv (List.mem_append_left _ hsm)) hn (by lia) (by have:=hpos sv hsm;lia) ((hI.bs r5 hr5).mono (Nat.pow_le_pow_right (by decide) (by rw [Mth.ss];lia))) ((hb3 sv (List.mem_append_left _ hsm)).mono (Nat.le_trans (Nat.le_of_lt (Mth.gs_step b st.length)) (Nat.pow_le_pow_right (by decide) (by rw [Mth.ss];lia)))) (Nat.pow_lt_pow_right (by decide) (Nat.lt_succ_self _)) (by lia) fun p8 H8 s8 m8=>kc _ _ s8 (SqT.of m8)
    have l7':=r7.length
    rw [List.length_map] at l7'
    walk_at "w"
    rename_i p8 H8 n8 s8 m8 p9 H9 n9 s9 m9
    refine⟨_,p9,ys7++[.ref a],rfl,?_,((s4.trans s7).trans s8).trans s9,m9,?_⟩
    ·exact sm.new hT2 (sm3.new hT3 (((s4.trans s7).trans s8).new n9))
    ·rw [Mth.take_snoc hi3]
     exact (r7.same (s8.trans s9)).append (.cons ((((s4.trans s7).trans s8).trans s9).at ha) .nil)
   ·obtain ⟨o4,ls4,ys4,rfl,hno4,s4,e4,r4⟩:=hp
    rw [← lq,List.take_length] at r4
    refine⟨_,_,_,ls4,l2,ys4,zs3,_,os,rfl,hno4,sm.trans (sm3.trans (SameT.of s4)),hT3.same s4,e4,r4,s4.seq q2,qr2.same s4,?_⟩
    match led,h1,hE,hcnt,hb3,hlen,hpos,hled,hnn with
    | [],_,hE,hcnt,_,hlen,_,_,hnn=>exact hI.none hp1 hE h0 hlen (hnn rfl) (by simpa using hcnt)
    | [s],_,hE,hcnt,hb3,hlen,hpos,hled,_ =>
     obtain ⟨rfl,_⟩:=hled (fun z=>nomatch z)
     exact hI.one hp1 hE (hpos s (.head _)) h0 hlen hb3 (by simp at hcnt;lia)
  ·obtain ⟨o1,o2,o3,ls,ll,ys,zs,st,lf,rfl,hno,sm,hT2,e1,r1,e2,r2,hI⟩:=hp
   rw [show ((n:Int) - 1 - -1).toNat=n by lia] at hI
   walk_at "w"
   exact kk ls H' ys st lf hno sm hT2 e1 r1 hI
theorem sc_table:FnScope ["commas"] ["commas"] (defScope s_table):=⟨rfl,rfl,rfl,by decide +kernel,rfl,by decide +kernel,by decide +kernel⟩
structure Os_table (P:Program) (w:World) (K:PySem.W.Frag) (mg:Str→Option Value) (base:Heap) (G:Adr):Prop where
 checked_commas:Ok P w K mg base 1 "checked_commas" ["commas"] (sp_checked_commas K)
 stepped:Ok P w K mg base 36 "stepped" ["vectors","size"] (sp_stepped K)
theorem ok_table (D:Def K mg "table" s_table ["commas"]) (T:Txt K mg G) (O:Os_table P w K mg base G) (Y:base.NoSeer∧P.given.tree=none):Ok P w K mg base 37 "table" ["commas"] (sp_table K):=by
 have S:=sc_table
 refine D.ok S (fun vs H Q E h=>?_) (fun f cdv A outer s H vs Q E hr h=>?_)
 ·obtain ⟨l,b,xs,rs,rfl,hl,hrs,h6,hln,hbd,hb,hT,kk⟩:=h;rfl
 ·obtain ⟨l,b,xs,rs,rfl,hl,hrs,h6,hln,hbd,hb,hT,kk⟩:=h
  have hu:=hu_of hr
  have q_ONE:=T.q_ONE
  refine⟨_,(pss_one (ps_ret (pcall O.stepped (hr.mono (by decide)) (pa_cons (pcall O.checked_commas (hr.mono (by decide)) (pa_cons (pv 0) pa_nil)) (pa_cons (pe_glob (v:=V.int 5) rfl T.g_WIDTH ⟨_,rfl⟩) pa_nil))))),?_⟩
  have lr:=hrs.length
  have hss:Mth.ss b 5<60000000:=ss5 hb
  walk_at "w"
  refine c_checked_commas hl (by lia) ?_
  walk_at "w"
  refine c_stepped (n:=5) (b:=b) (R:=5) (us:=Mth.units5) ⟨hl,hrs,by lia,hln,by decide,hbd,⟨len_units,fun r hr=>in_units (hln r hr),by decide⟩,hss,by lia,hT⟩ fun l' H' ys st lf hn sm hT' e r hI=>?_
  have hc:=hI.c2
  exact kk l' H' ys st hn sm hT' e r hI.all.1 hI.all.2 hI.lst hc
theorem sc_heard:FnScope ["weights","row"] ["weights","row"] (defScope s_heard):=⟨rfl,rfl,rfl,by decide +kernel,rfl,by decide +kernel,by decide +kernel⟩
theorem ok_heard (D:Def K mg "heard" s_heard ["weights","row"]) (T:Txt K mg G) (Y:base.NoSeer∧P.given.tree=none):Ok P w K mg base 1 "heard" ["weights","row"] (sp_heard K):=by
 have S:=sc_heard
 refine D.ok S (fun vs H Q E h=>?_) (fun f cdv A outer s H vs Q E hr h=>?_)
 ·obtain ⟨w,r,kk,ws,rs,rfl,hw,hra,hl,hn,hm,k⟩:=h;rfl
 ·obtain ⟨w,r,kk,ws,rs,rfl,hw,hra,hl,hn,hm,k⟩:=h
  have hu:=hu_of hr
  have q_ONE:=T.q_ONE
  refine⟨_,(pss_one (ps_ret (pe_callB (kN_sum K rfl rfl) rfl T.b_sum PyProof.Rows.boot_sum (pa_cons (pe_comp (N:=["number","weight"]) (ix:=[none,none]) rfl (kpi_zip2 K rfl true kk rfl T.b_zip (pa_cons (pv 1) (pa_cons (pv 0) pa_nil))) (fun _ _ _ _ _=>(kpg_tup (n:=2) K rfl rfl (pgs_cons (pg_name (i:=0) (show List.Nodup (["number","weight"]:List Str) by decide +kernel) rfl (Or.inl rfl)) (pgs_cons (pg_name (i:=1) (show List.Nodup (["number","weight"]:List Str) by decide +kernel) rfl (Or.inl rfl)) pgs_nil)))) (fun _ _ _ _ _=>rfl) (fun _ _ _ _ _=>(pe_op op_mulB (pv 0) (pv 1))) rfl (by decide +kernel) (by decide +kernel) rfl True.intro) pa_nil)))),?_⟩
  walk_at "w"
  refine rd_zipT (r:=rs) (q:=ws) rfl (sqt_sq hra) hw hl hn hm fun l H1 hl1 s1 m1=>?_
  walk_at "w"
  refine r_sum (SqL.of m1) ?_
  exact k _ s1
theorem sc_value:FnScope ["key","row","total"] ["key","row"] (defScope s_value):=⟨rfl,rfl,rfl,by decide +kernel,rfl,by decide +kernel,by decide +kernel⟩
structure Os_value (P:Program) (w:World) (K:PySem.W.Frag) (mg:Str→Option Value) (base:Heap) (G:Adr):Prop where
 heard:Ok P w K mg base 1 "heard" ["weights","row"] (sp_heard K)
theorem ok_value (D:Def K mg "value" s_value ["key","row"]) (T:Txt K mg G) (O:Os_value P w K mg base G) (Y:base.NoSeer∧P.given.tree=none):Ok P w K mg base 2 "value" ["key","row"] (sp_value K):=by
 have S:=sc_value
 refine D.ok S (fun vs H Q E h=>?_) (fun f cdv A outer s H vs Q E hr h=>?_)
 ·obtain ⟨kk,w,r,m,ws,rs,rfl,hk,hw,hra,hl,hn,hm,h0,k⟩:=h;rfl
 ·obtain ⟨kk,w,r,m,ws,rs,rfl,hk,hw,hra,hl,hn,hm,h0,k⟩:=h
  have hu:=hu_of hr
  have q_ONE:=T.q_ONE
  refine⟨_,(pss_cons (ps_set (i:=2) S.nd rfl (Or.inl rfl) (pcall O.heard (hr.mono (by decide)) (pa_cons (pe_ix (kx_seq K rfl) (pv 0) pe_int (fun _ _=>rfl)) (pa_cons (pv 1) pa_nil)))) (pss_one (ps_ret (pe_ifExp (pt_cmpR op_eq (pe_ix (kx_seq K rfl) (pv 0) pe_int (fun _ _=>rfl)) pe_int (nomark _)) (pv 2) (pe_op op_mod (pv 2) (pe_ix (kx_seq K rfl) (pv 0) pe_int (fun _ _=>rfl))))))),?_⟩
  walk_at "w"
  refine c_heard ws rs hw hra hl hn hm fun H1 s1=>?_
  walk_at "w"
  refine if_both (fun hc=>?_) (fun hc=>?_)
  ·walk_at "w"
   unfold val at k
   rw [if_pos (of_decide_eq_true hc)] at k
   exact k _ s1
  ·have hz:m≠0:=of_decide_eq_false hc
   unfold val at k
   rw [if_neg hz] at k
   walk_at "w"
   exact k _ s1
theorem sc_by_place:FnScope ["steps","rows","step"] ["steps"] (defScope s_by_place):=⟨rfl,rfl,rfl,by decide +kernel,rfl,by decide +kernel,by decide +kernel⟩
structure Os_by_place (P:Program) (w:World) (K:PySem.W.Frag) (mg:Str→Option Value) (base:Heap) (G:Adr):Prop where
 unit:Ok P w K mg base 1 "unit" ["place","size"] (sp_unit K)
 lead_place:Ok P w K mg base 1 "lead_place" ["row"] (sp_lead_place K)
set_option maxHeartbeats 4000000 in
theorem ok_by_place (D:Def K mg "by_place" s_by_place ["steps"]) (T:Txt K mg G) (O:Os_by_place P w K mg base G) (Y:base.NoSeer∧P.given.tree=none):Ok P w K mg base 2 "by_place" ["steps"] (sp_by_place K):=by
 have S:=sc_by_place
 refine D.ok S (fun vs H Q E h=>?_) (fun f cdv A outer s H vs Q E hr h=>?_)
 ·obtain ⟨l,xs,st,rfl,hl,hrs,sf,hln,h5,k⟩:=h;rfl
 ·obtain ⟨l,xs,st,rfl,hl,hrs,sf,hln,h5,k⟩:=h
  have hu:=hu_of hr
  have q_ONE:=T.q_ONE
  refine⟨_,(pss_cons (ps_setC (k:=1) (N:=["place"]) (ix:=[none]) S.nd rfl (Or.inl rfl) rfl (pi_range1 rfl T.b_range (pa_cons (pe_glob (v:=V.int 5) rfl T.g_WIDTH ⟨_,rfl⟩) pa_nil)) (fun _ _ _ _ _=>(pg_name (i:=0) (show List.Nodup (["place"]:List Str) by decide +kernel) rfl (Or.inl rfl))) (fun _ _ _ _ _=>rfl) (fun _ _ _ _ _=>(pcall O.unit (hr.mono (by decide)) (pa_cons (pv 0) (pa_cons (pe_glob (v:=V.int 5) rfl T.g_WIDTH ⟨_,rfl⟩) pa_nil)))) rfl (by decide +kernel) (by decide +kernel) rfl True.intro) (pss_cons (ps_for PassesOwn.never rfl (kpi_list K rfl (pv 0)) (pg_name (i:=2) S.nd rfl (Or.inl rfl)) (pss_one (ps_asg (pv 2) (pg_sub (pv 1) (pcall O.lead_place (hr.mono (by decide)) (pa_cons (pv 2) pa_nil)) set_list)))) (pss_one (ps_ret (pv 1))))),?_⟩
  have lr:=hrs.length
  walk_at "w"
  refine rd_rangeRowsX (K:=K) (n:=5) [] (fun i=>Mth.unitv i 5) rfl (by decide) (fun i H' Qc hi s kc=>?_) (fun l1 H1 ys n1 s1 m1 r1=>?_)
  ·walk_at "w"
   exact c_unit (n:=5) (by decide) fun p H5 s5 m5=>kc _ _ s5 (SqT.of m5)
  walk_at "w"
  refine f_invL (xs:=xs) (fun i σ H2=>∃ (o:Option V) (ys:List V) (R:List (List Int)),σ=[some (.ref l),some (.ref l1),o]∧Same H H2∧H2 l1=some (.lst ys)∧RowsL K H2 ys R∧Mth.BP (st.take i) R) ⟨_,ys,_,rfl,s1,m1,r1,bp_start⟩ (fun i σ H2 hp=>by obtain ⟨o,ys,R,rfl,s2,_⟩:=hp;exact s2.seq hl) (fun i x σ H2 hx hp=>?_) (fun σ H2 hp=>?_)
  ·obtain ⟨o,ys,R,rfl,s2,e2,r2,hb⟩:=hp
   obtain ⟨c,s,rfl,hc,hi⟩:=hrs.get hx
   have ls:=hln s (mem_of hi)
   obtain ⟨kk,hk⟩:=sf.1 s (mem_of hi)
   have hk5:=Mth.led5 ls hk
   have ly:=r2.length
   rw [hb.len] at ly
   walk_at "w"
   refine c_lead_place (s2.at hc) (by lia) hk fun H3 s3=>?_
   have s23:=s2.trans s3
   have e23:=s3 _ _ e2
   walk_at "v"
   refine r_setL (j:=kk) e23 (ixN_nat (by lia)) ?_
   exact⟨_,ys.set kk (.ref c),R.set kk s,rfl,s23.upd_old n1,upd_same,rows_set kk ((r2.same s3).off e23) (upd_sqT (s23.at hc) e23),bp_step sf hb hi hk hk5⟩
  obtain ⟨o,ys,R,rfl,s2,e2,r2,hb⟩:=hp
  rw [← lr,List.take_length] at hb
  walk_at "w"
  exact k _ _ ys R n1 s2 e2 r2 hb
theorem sc_product_of_leads:FnScope ["steps","product","step"] ["steps"] (defScope s_product_of_leads):=⟨rfl,rfl,rfl,by decide +kernel,rfl,by decide +kernel,by decide +kernel⟩
structure Os_product_of_leads (P:Program) (w:World) (K:PySem.W.Frag) (mg:Str→Option Value) (base:Heap) (G:Adr):Prop where
 lead_place:Ok P w K mg base 1 "lead_place" ["row"] (sp_lead_place K)
set_option maxHeartbeats 4000000 in
theorem ok_product_of_leads (D:Def K mg "product_of_leads" s_product_of_leads ["steps"]) (T:Txt K mg G) (O:Os_product_of_leads P w K mg base G) (Y:base.NoSeer∧P.given.tree=none):Ok P w K mg base 2 "product_of_leads" ["steps"] (sp_product_of_leads K):=by
 have S:=sc_product_of_leads
 refine D.ok S (fun vs H Q E h=>?_) (fun f cdv A outer s H vs Q E hr h=>?_)
 ·obtain ⟨l,xs,st,R,W,rfl,hl,hrs,sf,hln,h5,hb,hW,hL,hWn,k⟩:=h;rfl
 ·obtain ⟨l,xs,st,R,W,rfl,hl,hrs,sf,hln,h5,hb,hW,hL,hWn,k⟩:=h
  have hu:=hu_of hr
  have q_ONE:=T.q_ONE
  refine⟨_,(pss_cons (ps_set (i:=1) S.nd rfl (Or.inl rfl) pe_int) (pss_cons (ps_for PassesOwn.never rfl (kpi_list K rfl (pv 0)) (pg_name (i:=2) S.nd rfl (Or.inl rfl)) (pss_one (ps_set (i:=1) S.nd rfl (Or.inl rfl) (pe_op op_mulB (pv 1) (pe_ix (kx_seq K rfl) (pv 2) (pcall O.lead_place (hr.mono (by decide)) (pa_cons (pv 2) pa_nil)) (fun _ _=>rfl)))))) (pss_one (ps_ret (pv 1))))),?_⟩
  have lr:=hrs.length
  walk_at "w"
  refine f_invL (xs:=xs) (fun i σ H2=>∃ (o:Option V) (kp:Nat),σ=[some (.ref l),some (.int (Mth.Pd R kp)),o]∧Same H H2∧kp≤5∧((i=0∧kp=5)∨∃ j a,j+1=i∧st[j]?=some a∧Mth.Led a kp)) ⟨_,5,rfl,Same.refl _,Nat.le_refl _,.inl ⟨rfl,rfl⟩⟩ (fun i σ H2 hp=>by obtain ⟨o,kp,rfl,s2,_⟩:=hp;exact s2.seq hl) (fun i x σ H2 hx hp=>?_) (fun σ H2 hp=>?_)
  ·obtain ⟨o,kp,rfl,s2,hkp,hlast⟩:=hp
   obtain ⟨c,s,rfl,hc,hi⟩:=hrs.get hx
   have ls:=hln s (mem_of hi)
   obtain ⟨kk,hk⟩:=sf.1 s (mem_of hi)
   have hk5:=Mth.led5 ls hk
   have hmul:CMulB (Mth.Pd R kp) (s.getD kk 0):=by
    have b1:bitsI (Mth.Pd R kp)≤W:=by rw [Mth.bits_bl];exact Mth.bl_le (hW kp hkp)
    have b2:bitsI (s.getD kk 0)≤W:=by rw [Mth.bits_bl];exact Mth.bl_le (hL s (mem_of hi) kk hk)
    unfold CMulB
    lia
   walk_at "w"
   refine c_lead_place (s2.at hc) (by lia) hk fun H3 s3=>?_
   walk_at "v"
   refine r_ixT ((s2.trans s3).at hc) (atI_nat (int_at (by lia))) ?_
   walk_at "w"
   refine⟨some (.ref c),kk,?_,s2.trans s3,by lia,.inr ⟨i,s,rfl,hi,hk⟩⟩
   rw [← Mth.Pd_lead hb sf hln hi hk hlast]
   rfl
  obtain ⟨o,kp,rfl,s2,hkp,hlast⟩:=hp
  have he:Mth.Pd R kp=Mth.Pd R 0:=Mth.Pd_whole hb sf hln (by
   rcases hlast with ⟨z1,z2⟩|⟨j,a,z1,z2⟩
   ·exact .inl ⟨List.length_eq_zero_iff.mp (by lia),z2⟩
   ·exact .inr ⟨j,a,by lia,z2⟩)
  rw [he]
  walk_at "w"
  exact k _ s2
theorem sc_weights_for:FnScope ["rows","place","whole","weights","here","row","wanted"] ["rows","place","whole"] (defScope s_weights_for):=⟨rfl,rfl,rfl,by decide +kernel,rfl,by decide +kernel,by decide +kernel⟩
structure Os_weights_for (P:Program) (w:World) (K:PySem.W.Frag) (mg:Str→Option Value) (base:Heap) (G:Adr):Prop where
 heard:Ok P w K mg base 1 "heard" ["weights","row"] (sp_heard K)
set_option maxHeartbeats 4000000 in
theorem ok_weights_for (D:Def K mg "weights_for" s_weights_for ["rows","place","whole"]) (T:Txt K mg G) (O:Os_weights_for P w K mg base G) (Y:base.NoSeer∧P.given.tree=none):Ok P w K mg base 2 "weights_for" ["rows","place","whole"] (sp_weights_for K):=by
 have S:=sc_weights_for
 refine D.ok S (fun vs H Q E h=>?_) (fun f cdv A outer s H vs Q E hr h=>?_)
 ·obtain ⟨l,p,B,W,xs,R,rfl,hl,hrs,hT3,hbd,h9,hPd,hB,hW,k⟩:=h;rfl
 ·obtain ⟨l,p,B,W,xs,R,rfl,hl,hrs,hT3,hbd,h9,hPd,hB,hW,k⟩:=h
  have hu:=hu_of hr
  have q_ONE:=T.q_ONE
  refine⟨_,(pss_cons (ps_set (i:=3) S.nd rfl (Or.inl rfl) (pe_lst pa_nil)) (pss_cons (ps_for PassesOwn.never rfl (kpi_enum K rfl false rfl T.b_enumerate (pa_cons (pv 0) pa_nil)) (kpg_tup (n:=2) K rfl rfl (pgs_cons (pg_name (i:=4) S.nd rfl (Or.inl rfl)) (pgs_cons (pg_name (i:=5) S.nd rfl (Or.inl rfl)) pgs_nil))) (pss_cons (ps_set (i:=6) S.nd rfl (Or.inl rfl) (pe_ifExp (pt_cmpR op_eq (pv 4) (pv 1) (nomark _)) (pv 2) pe_int)) (pss_one (ps_expr (pe_bm PySem.F.plainAttrs_list PySem.F.slot_list_append PySem.F.type_list_append mt_append (pv 3) (pa_cons (pe_op op_fdivNB (pe_op op_sub (pv 6) (pcall O.heard (hr.mono (by decide)) (pa_cons (pv 3) (pa_cons (pv 5) pa_nil)))) (pe_ix (kx_seq K rfl) (pv 5) (pv 4) (fun _ _=>rfl))) pa_nil)))))) (pss_one (ps_ret (pe_callTy (kN_tuple K rfl) rfl T.b_tuple PyProof.Rows.boot_tuple (pa_cons (pv 3) pa_nil)))))),?_⟩
  have lr:=hrs.length
  rw [hT3.len] at lr
  walk_at "w"
  rename_i lw H1 n1 s1 m1
  generalize hwh:Mth.Pd R 0=whole at *
  refine f_invN (k:=false) (xs:=xs) (fun i σ H2=>∃ (o1 o2 o3:Option V) (ws:List Int),σ=[some (.ref l),some (.int p),some (.int whole),some (.ref lw),o1,o2,o3]∧Same H H2∧H2 lw=some (.lst (ws.map V.int))∧ws.length=i∧Mth.WI R p whole ws∧∀ j,(ws.getD j 0).natAbs≤2 ^ (W+i*(B+4))) ⟨_,_,_,[],rfl,s1,m1,rfl,Mth.WI.start _ _ _,fun j=>by simp⟩ (fun i σ H2 hp=>by obtain ⟨o1,o2,o3,ws,rfl,s2,_⟩:=hp;exact sql_sq (s2.seq hl)) (fun i x σ H2 H3 hx hp s3=>?_) (fun σ H2 hp=>?_)
  ·obtain ⟨o1,o2,o3,ws,rfl,s2,e2,hwi,hWI,hwb⟩:=hp
   obtain ⟨c,r,rfl,hc,hi⟩:=hrs.get hx
   have hi5:i<5:=by have:=(List.getElem?_eq_some_iff.mp hx).1;lia
   have s23:=s2.trans s3
   have e3:=s3 _ _ e2
   have hc3:=s23.at hc
   have lr5:=hT3.row r (mem_of hi)
   have hpos:=hT3.pos i r hi
   have hrb:=hbd r (mem_of hi)
   have hexp:W+i*(B+4)≤400000:=by
    have:i*(B+4)≤4*(B+4):=Nat.mul_le_mul_right _ (by lia)
    lia
   have hmul:∀ j,j<ws.length→CMulB (r.getD j 0) (ws.getD j 0):=fun j _=>by
    have b1:bitsI (r.getD j 0)≤B+1:=by rw [Mth.bits_bl];exact Mth.bl_le (Nat.lt_of_le_of_lt (hrb j) (Nat.pow_lt_pow_right (by decide) (Nat.lt_succ_self _)))
    have b2:bitsI (ws.getD j 0)≤W+i*(B+4)+1:=by rw [Mth.bits_bl];exact Mth.bl_le (Nat.lt_of_le_of_lt (hwb j) (Nat.pow_lt_pow_right (by decide) (Nat.lt_succ_self _)))
    unfold CMulB
    lia
   refine r_seq ?_
   refine r_asg ?_
   refine joinE (fun v H'=>v=.int (if ws.length=p then whole else 0)∧H'=H3) (fun Q' hQ'=>?_) (fun v H' hP=>?_)
   ·walk_at "w"
    refine if_both (fun h4=>?_) (fun h4=>?_)
    ·walk_at "w"
     exact hQ' _ _ ⟨by rw [if_pos (by have:=of_decide_eq_true h4;lia)],rfl⟩
    ·walk_at "w"
     exact hQ' _ _ ⟨by rw [if_neg (by have:=of_decide_eq_false h4;lia)],rfl⟩
   obtain ⟨rfl,rfl⟩:=hP
   obtain ⟨hex,hnx⟩:=hWI.next hT3 hwh.symm (by rw [hwi];exact hi)
   rw [hwi] at hex hnx ⊢
   walk_at "w"
   refine c_heardG (kk:=false) ws r (sql_sq (SqL.of e3)) hc3 (by lia) (by lia) hmul fun H4 s4=>?_
   walk_at "v"
   refine r_ixT (s4.at hc3) (atI_nat (int_at (by lia))) ?_
   walk_at "v"
   refine r_I (C:=CDivNB) ⟨by lia,(Nat.log2_lt (by lia)).mpr (h9 i r hi)⟩ ?_
   walk_at "w"
   refine r_append (s4 _ _ e3) (by simp;lia) ?_
   refine⟨_,_,_,ws++[((if i=p then whole else 0) - Mth.dt r ws).fdiv (r.getD i 0)],rfl,(s23.trans s4).upd_old n1,by rw [List.map_append];exact upd_same,by simp [hwi],hnx,fun j=>?_⟩
   have hd:=dt_bd (a:=r) (b:=ws) hrb hwb
   rw [hwi] at hd
   have hS:0<(2:Nat) ^ (W+i*(B+4)):=Nat.two_pow_pos _
   have hB0:0<(2:Nat) ^ B:=Nat.two_pow_pos _
   have hWS:(2:Nat) ^ W≤2 ^ (W+i*(B+4)):=Nat.pow_le_pow_right (by decide) (by lia)
   have epow:(2:Nat) ^ (W+(i+1)*(B+4))=16*(2 ^ B*2 ^ (W+i*(B+4))):=by
    rw [show W+(i+1)*(B+4)=4+(B+(W+i*(B+4))) by rw [Nat.add_mul];lia,Nat.pow_add,Nat.pow_add]
   have hprod:2 ^ (W+i*(B+4))≤2 ^ B*2 ^ (W+i*(B+4)):=Nat.le_mul_of_pos_left _ hB0
   have hi4:i*(2 ^ B*2 ^ (W+i*(B+4)))≤4*(2 ^ B*2 ^ (W+i*(B+4))):=Nat.mul_le_mul_right _ (by lia)
   rw [epow]
   by_cases cj:j<ws.length
   ·rw [List.getD,List.getElem?_append_left cj]
    have:=hwb j
    rw [List.getD] at this
    lia
   ·by_cases ce:j=ws.length
    ·subst ce
     rw [List.getD,List.getElem?_append_right (Nat.le_refl _),Nat.sub_self]
     show (((if i=p then whole else 0) - Mth.dt r ws).fdiv (r.getD i 0)).natAbs≤_
     have h1:=Mth.fdiv_le ((if i=p then whole else 0) - Mth.dt r ws) (show r.getD i 0≠0 by lia)
     have h2:((if i=p then whole else 0) - Mth.dt r ws).natAbs≤2 ^ W+i*(2 ^ B*2 ^ (W+i*(B+4))):=by
      have h3:(if i=p then whole else 0:Int).natAbs≤2 ^ W:=by
       split
       ·exact hPd
       ·exact Nat.zero_le _
      exact Nat.le_trans (Int.natAbs_sub_le _ _) (Nat.add_le_add h3 hd)
     lia
    ·rw [List.getD,List.getElem?_eq_none (by simp;lia)]
     exact Nat.zero_le _
  obtain ⟨o1,o2,o3,ws,rfl,s2,e2,hwi,hWI,hwb⟩:=hp
  rw [← lr] at hwi hwb
  walk_at "w"
  rename_i t H3 s3 m3
  exact k t H3 ws (s2.trans s3) (SqT.of m3) hwi hWI hwb
theorem sc_key_of:FnScope ["weights","ring","divisor","row"] ["weights","ring"] (defScope s_key_of):=⟨rfl,rfl,rfl,by decide +kernel,rfl,by decide +kernel,by decide +kernel⟩
structure Os_key_of (P:Program) (w:World) (K:PySem.W.Frag) (mg:Str→Option Value) (base:Heap) (G:Adr):Prop where
 divisor_of:Ok P w K mg base 1 "divisor_of" ["numbers"] (sp_divisor_of K)
set_option maxHeartbeats 4000000 in
theorem ok_key_of (D:Def K mg "key_of" s_key_of ["weights","ring"]) (T:Txt K mg G) (O:Os_key_of P w K mg base G) (Y:base.NoSeer∧P.given.tree=none):Ok P w K mg base 34 "key_of" ["weights","ring"] (sp_key_of K):=by
 have S:=sc_key_of
 refine D.ok S (fun vs H Q E h=>?_) (fun f cdv A outer s H vs Q E hr h=>?_)
 ·obtain ⟨a,ws,ring,C,rfl,ha,h5,hr0,⟨z,hz1,hz2⟩,hwb,hrb,k⟩:=h;rfl
 ·obtain ⟨a,ws,ring,C,rfl,ha,h5,hr0,⟨z,hz1,hz2⟩,hwb,hrb,k⟩:=h
  have hu:=hu_of hr
  have q_ONE:=T.q_ONE
  refine⟨_,(pss_cons (ps_set (i:=2) S.nd rfl (Or.inr rfl) (pcall O.divisor_of (hr.mono (by decide)) (pa_cons (pe_op (kop_catT K rfl) (pe_tup (pa_cons (pv 1) pa_nil)) (pv 0)) pa_nil))) (pss_cons (ps_set (i:=3) S.nd rfl (Or.inl rfl) (pe_callTy (kN_tuple K rfl) rfl T.b_tuple PyProof.Rows.boot_tuple (pa_cons (pe_comp (N:=["number","divisor"]) (ix:=[none,some 2]) rfl (kpi_tup K rfl (pv 0)) (fun _ _ _ _ _=>(pg_name (i:=0) (show List.Nodup (["number","divisor"]:List Str) by decide +kernel) rfl (Or.inl rfl))) (fun _ _ _ _ _=>rfl) (fun _ _ _ _ _=>(pe_op (op_fdivPB Y rfl rfl rfl rfl rfl (hr.mono (by decide))) (pv 0) (pv 1))) rfl (by decide +kernel) (by decide +kernel) rfl ⟨⟨rfl,Or.inr (Or.inl rfl),rfl,rfl⟩,True.intro⟩) pa_nil))) (pss_cons (ps_if (pt_cmpR op_eq (pv 1) pe_int (nomark _)) (pss_one (ps_ret (pe_tup (pa_cons (pv 3) (pa_cons pe_int pa_nil))))) pss_nil) (pss_one (ps_ret (pe_tup (pa_cons (pe_callTy (kN_tuple K rfl) rfl T.b_tuple PyProof.Rows.boot_tuple (pa_cons (pe_comp (N:=["number","ring","divisor"]) (ix:=[none,some 1,some 2]) rfl (kpi_tup K rfl (pv 3)) (fun _ _ _ _ _=>(pg_name (i:=0) (show List.Nodup (["number","ring","divisor"]:List Str) by decide +kernel) rfl (Or.inl rfl))) (fun _ _ _ _ _=>rfl) (fun _ _ _ _ _=>(pe_op op_mod (pv 0) (pe_op (op_fdivPB Y rfl rfl rfl rfl rfl (hr.mono (by decide))) (pv 1) (pv 2)))) rfl (by decide +kernel) (by decide +kernel) rfl ⟨⟨rfl,Or.inr (Or.inl rfl),rfl,rfl⟩,⟨⟨rfl,Or.inr (Or.inl rfl),rfl,rfl⟩,True.intro⟩⟩) pa_nil)) (pa_cons (pe_op (op_fdivPB Y rfl rfl rfl rfl rfl (hr.mono (by decide))) (pv 1) (pv 2)) pa_nil)))))))),?_⟩
  have hg:0<gcdL (ring::ws):=gcdL_pos hz1 hz2
  have hgi:(0:Int)<(gcdL (ring::ws):Nat):=by lia
  walk_at "w"
  rename_i p1 H1 s1 m1
  refine r_catT (SqT.of m1) (s1.at ha) (List.cons_ne_nil _ _) (fun z=>by rw [List.map_eq_nil_iff] at z;rw [z] at h5;simp at h5) (by simp;lia) fun p2 H2 s2 m2=>?_
  walk_at "w"
  refine c_divisor_of (zs:=ring::ws) (SqT.of m2) ?_
  generalize hgd:gcdL (ring::ws)=g at hg hgi ⊢
  have s12:=s1.trans s2
  walk_at "w"
  refine rd_mapRow (r:=ws) (fun x=>.int (x / (g:Int))) [some (.int g)] rfl (s12.at ha) (by lia) (fun x H' Qc hx s kc=>?_) (fun l3 H3 n3 s3 m3=>?_)
  ·walk_at "w"
   exact kc _ (Same.refl _)
  have eq3:ws.map (fun x=>V.int (x / (g:Int)))=(ws.map (· / (g:Int))).map V.int:=by rw [List.map_map];rfl
  rw [eq3] at m3
  have lq:(ws.map (· / (g:Int))).length=5:=by simp [h5]
  have emul:ws=Mth.mulv (ws.map (· / (g:Int))) g:=by
   unfold Mth.mulv
   rw [List.map_map]
   conv=>lhs;rw [← List.map_id ws]
   refine List.map_congr_left fun x hx=>?_
   have hd:((gcdL (ring::ws):Nat):Int) ∣ x:=gcdL_dvd (List.mem_cons_of_mem _ hx)
   rw [hgd] at hd
   exact (Int.ediv_mul_cancel hd).symm
  have hdr:(g:Int) ∣ ring:=by
   have hd:((gcdL (ring::ws):Nat):Int) ∣ ring:=gcdL_dvd (List.mem_cons_self ..)
   rw [hgd] at hd
   exact hd
  have hqb:∀ x∈ws.map (· / (g:Int)),x.natAbs≤2 ^ C:=fun x hx=>by
   obtain ⟨y,hy,rfl⟩:=List.mem_map.mp hx
   obtain ⟨j,hj,e⟩:=List.getElem_of_mem hy
   have h1:=hwb j
   rw [List.getD,List.getElem?_eq_getElem hj,e] at h1
   have h2:=Mth.fdiv_le y (show (g:Int)≠0 by lia)
   rw [Int.fdiv_eq_ediv_of_nonneg _ (by lia)] at h2
   exact Nat.le_trans h2 h1
  generalize ws.map (· / (g:Int))=q at m3 lq emul hqb
  walk_at "w"
  rename_i p4 H4 s4 m4
  refine if_both (fun h4=>?_) (fun h4=>?_)
  ·have hz:=of_decide_eq_true h4
   walk_at "w"
   rename_i p5 H5 s5 m5
   refine k p5 p4 0 q H5 (((s12.trans s3).trans s4).trans s5) (SqT.of m5) (SqT.of (s5 _ _ m4)) (by rw [hz];exact key_zero hgi lq emul) ⟨fun _=>rfl,fun z=>absurd hz z⟩ fun x hx=>?_
   rw [Mth.bits_bl]
   exact Mth.bl_le (Nat.lt_of_le_of_lt (hqb x hx) (Nat.pow_lt_pow_right (by decide) (Nat.lt_succ_self _)))
  ·have hz:=of_decide_eq_false h4
   have hrp:0<ring:=by lia
   have hmp:0<ring / (g:Int):=Int.ediv_pos_of_pos_of_dvd hrp (by lia) hdr
   have hmr:ring=(g:Int)*(ring / (g:Int)):=(Int.mul_ediv_cancel' hdr).symm
   have hml:(ring / (g:Int)).natAbs≤2 ^ C:=by
    have h2:=Mth.fdiv_le ring (show (g:Int)≠0 by lia)
    rw [Int.fdiv_eq_ediv_of_nonneg _ (by lia)] at h2
    lia
   walk_at "w"
   refine rd_mapRow (r:=q) (fun x=>.int (x % (ring / (g:Int)))) [some (.int ring),some (.int g)] rfl (SqT.of m4) (by lia) (fun x H' Qc hx s kc=>?_) (fun l5 H5 n5 s5 m5=>?_)
   ·walk_at "w"
    exact kc _ (Same.refl _)
   have eq5:q.map (fun x=>V.int (x % (ring / (g:Int))))=(q.map (· % (ring / (g:Int)))).map V.int:=by rw [List.map_map];rfl
   rw [eq5] at m5
   walk_at "w"
   rename_i p6 H6 s6 m6 p7 H7 s7 m7
   refine k p7 p6 (ring / (g:Int)) (q.map (· % (ring / (g:Int)))) H7 (((((s12.trans s3).trans s4).trans s5).trans s6).trans s7) (SqT.of m7) (SqT.of (s7 _ _ m6)) (by have:=key_ring hgi hmp lq emul;rw [← hmr] at this;exact this) ⟨fun z=>absurd z hz,fun _=>⟨hmp,⟨(g:Int),by rw [Int.mul_comm];exact hmr⟩,fun x hx=>by obtain ⟨y,_,rfl⟩:=List.mem_map.mp hx;exact⟨Int.emod_nonneg y (show ring / (g:Int)≠0 by lia),Int.emod_lt_of_pos y hmp⟩⟩⟩ fun x hx=>?_
   obtain ⟨y,hy,rfl⟩:=List.mem_map.mp hx
   have b1:=Int.emod_nonneg y (show ring / (g:Int)≠0 by lia)
   have b2:=Int.emod_lt_of_pos y hmp
   rw [Mth.bits_bl]
   refine Mth.bl_le (Nat.lt_of_le_of_lt (m:=2 ^ C) ?_ (Nat.pow_lt_pow_right (by decide) (Nat.lt_succ_self _)))
   lia
theorem sc_keys_by_place:FnScope ["steps","rows","whole","leads","keys"] ["steps"] (defScope s_keys_by_place):=⟨rfl,rfl,rfl,by decide +kernel,rfl,by decide +kernel,by decide +kernel⟩
structure Os_keys_by_place (P:Program) (w:World) (K:PySem.W.Frag) (mg:Str→Option Value) (base:Heap) (G:Adr):Prop where
 lead_place:Ok P w K mg base 1 "lead_place" ["row"] (sp_lead_place K)
 by_place:Ok P w K mg base 2 "by_place" ["steps"] (sp_by_place K)
 product_of_leads:Ok P w K mg base 2 "product_of_leads" ["steps"] (sp_product_of_leads K)
 weights_for:Ok P w K mg base 2 "weights_for" ["rows","place","whole"] (sp_weights_for K)
 key_of:Ok P w K mg base 34 "key_of" ["weights","ring"] (sp_key_of K)
set_option maxHeartbeats 4000000 in
theorem ok_keys_by_place (D:Def K mg "keys_by_place" s_keys_by_place ["steps"]) (T:Txt K mg G) (O:Os_keys_by_place P w K mg base G) (Y:base.NoSeer∧P.given.tree=none):Ok P w K mg base 35 "keys_by_place" ["steps"] (sp_keys_by_place K):=by
 have S:=sc_keys_by_place
 refine D.ok S (fun vs H Q E h=>?_) (fun f cdv A outer s H vs Q E hr h=>?_)
 ·obtain ⟨l,B,xs,st,rfl,hl,hrs,sf,hln,h5,hbd,hB,k⟩:=h;rfl
 ·obtain ⟨l,B,xs,st,rfl,hl,hrs,sf,hln,h5,hbd,hB,k⟩:=h
  have hu:=hu_of hr
  have q_ONE:=T.q_ONE
  refine⟨_,(pss_cons (ps_set (i:=1) S.nd rfl (Or.inr rfl) (pcall O.by_place (hr.mono (by decide)) (pa_cons (pv 0) pa_nil))) (pss_cons (ps_set (i:=2) S.nd rfl (Or.inr rfl) (pcall O.product_of_leads (hr.mono (by decide)) (pa_cons (pv 0) pa_nil))) (pss_cons (ps_set (i:=3) S.nd rfl (Or.inr rfl) (pe_comp (N:=["step"]) (ix:=[none]) rfl (kpi_list K rfl (pv 0)) (fun _ _ _ _ _=>(pg_name (i:=0) (show List.Nodup (["step"]:List Str) by decide +kernel) rfl (Or.inl rfl))) (fun _ _ _ _ _=>rfl) (fun _ _ _ _ _=>(pcall O.lead_place (hr.mono (by decide)) (pa_cons (pv 0) pa_nil))) rfl (by decide +kernel) (by decide +kernel) rfl True.intro)) (pss_cons (ps_setC (k:=4) (N:=["place","rows","whole","leads"]) (ix:=[none,some 1,some 2,some 3]) S.nd rfl (Or.inl rfl) rfl (pi_range1 rfl T.b_range (pa_cons (pe_glob (v:=V.int 5) rfl T.g_WIDTH ⟨_,rfl⟩) pa_nil)) (fun _ _ _ _ _=>(pg_name (i:=0) (show List.Nodup (["place","rows","whole","leads"]:List Str) by decide +kernel) rfl (Or.inl rfl))) (fun _ _ _ _ _=>rfl) (fun _ _ _ _ _=>(pcall O.key_of (hr.mono (by decide)) (pa_cons (pcall O.weights_for (hr.mono (by decide)) (pa_cons (pv 1) (pa_cons (pv 0) (pa_cons (pv 2) pa_nil)))) (pa_cons (pe_ifExp (pt_cmpR (kop_in K rfl) (pv 0) (pv 3) (by with_unfolding_all rfl)) (pv 2) pe_int) pa_nil)))) rfl (by decide +kernel) (by decide +kernel) rfl ⟨⟨rfl,Or.inr (Or.inl rfl),rfl,rfl⟩,⟨⟨rfl,Or.inr (Or.inl rfl),rfl,rfl⟩,⟨⟨rfl,Or.inr (Or.inl rfl),rfl,rfl⟩,True.intro⟩⟩⟩) (pss_one (ps_ret (pe_comp (N:=["key"]) (ix:=[none]) rfl (kpi_list K rfl (pv 4)) (fun _ _ _ _ _=>(pg_name (i:=0) (show List.Nodup (["key"]:List Str) by decide +kernel) rfl (Or.inl rfl))) (fun _ _ _ _ _=>(pt_cmpR op_ne (pe_ix (kx_seq K rfl) (pv 0) pe_int (fun _ _=>rfl)) pe_int (nomark _))) (fun _ _ _ _ _=>(pv 0)) rfl (by decide +kernel) (by decide +kernel) rfl True.intro))))))),?_⟩
  have lr:=hrs.length
  walk_at "w"
  refine c_by_place ⟨hl,hrs,sf,hln,h5⟩ fun l1 H1 ys R n1 s1 m1 r1 hBP=>?_
  have hTri:=hBP.tri hln
  have hdg:∀ (h:Nat) (r:List Int),R[h]?=some r→(r.getD h 0).natAbs≤2 ^ B:=fun h r hr=>by
   rcases hBP.at_ h r hr with ⟨z1,z2⟩|⟨_,z2⟩
   ·exact hbd r z1 h
   ·have hh:h<5:=by have:=(List.getElem?_eq_some_iff.mp hr).1;rw [hBP.len] at this;exact this
    rw [z2,Mth.unitv_at hh,if_pos rfl]
    exact Nat.two_pow_pos _
  have hPd:∀ h,h≤5→(Mth.Pd R h).natAbs≤2 ^ 27000:=fun h hh=>Nat.le_trans (Pd_bd (lam:=fun _=>B) hTri hdg (5 - h) h (by lia)) (Nat.pow_le_pow_right (by decide) (Nat.le_trans (sumL_mono _ _ _ (by lia)) (by show B+(B+(B+(B+(B+0))))≤27000;lia)))
  have hRb:∀ r∈R,Mth.BdM (2 ^ B) r:=fun r hr=>by
   obtain ⟨h,hh,e⟩:=List.getElem_of_mem hr
   rcases hBP.at_ h r (by rw [List.getElem?_eq_getElem hh,e]) with ⟨z1,_⟩|⟨_,z2⟩
   ·exact hbd r z1
   ·rw [z2];exact Mth.unitv_bd _ _ _
  have hl1:=s1.seq hl
  have hrs1:=hrs.same s1
  walk_at "w"
  refine c_product_of_leads (W:=28000) ⟨hl1,hrs1,sf,hln,h5⟩ hBP (fun h hh=>Nat.lt_of_le_of_lt (hPd h hh) (Nat.pow_lt_pow_right (by decide) (by decide))) (fun r hr kk hk=>Nat.lt_of_le_of_lt (hbd r hr kk) (Nat.pow_lt_pow_right (by decide) (by lia))) (by decide) fun H2 s2=>?_
  obtain ⟨kz,hkz1,hkz2⟩:=leads_of sf.1
  have s12:=s1.trans s2
  have hl2:=s12.seq hl
  walk_at "w"
  refine rd_compL (xs:=xs) [] (fun i=>.int ((kz.getD i 0:Nat):Int)) rfl hl2 (by lia) (fun i x H' Qc hx s kc=>?_) (fun l3 H3 n3 s3 m3=>?_)
  ·obtain ⟨c,sv,rfl,hc,hi⟩:=(hrs.same s12).get hx
   obtain ⟨kk,hk1,hk2⟩:=hkz2 i sv hi
   have ek:kz.getD i 0=kk:=by rw [List.getD,hk1];rfl
   rw [ek] at kc
   walk_at "w"
   exact c_lead_place (s.at hc) (by rw [hln sv (mem_of hi)];decide) hk2 fun H5 s5=>kc _ s5
  have ekz:(List.range xs.length).map (fun i=>V.int ((kz.getD i 0:Nat):Int))=kz.map fun (k:Nat)=>V.int (k:Int):=by
   rw [← lr,← hkz1]
   exact range_map kz 0 (fun (k:Nat)=>V.int (k:Int))
  rw [ekz] at m3
  have s13:=s2.trans s3
  have m13:=s13 _ _ m1
  have r13:=r1.same s13
  have hmem:∀ p,p∈kz↔∃ s∈st,Mth.Led s p:=fun p=>by
   constructor
   ·intro hp
    obtain ⟨i,hi,e⟩:=List.getElem_of_mem hp
    have his:st[i]?=some (st[i]'(by lia)):=List.getElem?_eq_getElem _
    obtain ⟨kk,hk1,hk2⟩:=hkz2 i _ his
    rw [List.getElem?_eq_getElem hi,e] at hk1
    cases hk1
    exact⟨_,List.getElem_mem _,hk2⟩
   ·rintro ⟨s,hs,hsp⟩
    obtain ⟨i,hi,e⟩:=List.getElem_of_mem hs
    obtain ⟨kk,hk1,hk2⟩:=hkz2 i s (by rw [List.getElem?_eq_getElem hi,e])
    rw [hsp.uniq hk2]
    exact List.mem_of_getElem? hk1
  have hwp:0<Mth.Pd R 0:=Mth.Pd_pos hTri (by decide)
  walk_at "w"
  refine rd_rangeKeys (K:=K) (n:=5) [some (.ref l1),some (.int (Mth.Pd R 0)),some (.ref l3)] (KPR st R) rfl (by decide) (fun p H' Qc hp s kc=>?_) (fun l4 H4 zs ks n4 s4 m4 hk4 hn4 hP4=>?_)
  ·have m1':=s _ _ m13
   have m3':=s _ _ m3
   walk_at "w"
   refine c_weights_for (p:=p) (B:=B) (W:=27000) ⟨SqL.of m1',r13.same s,hTri,hRb,fun h r hr=>Nat.lt_of_le_of_lt (hdg h r hr) (Nat.pow_lt_pow_right (by decide) (by lia)),hPd 0 (by decide),by lia,by decide⟩ fun t H5 ws s5 mt hw5 hWI hwb=>?_
   have m3'':=s5 _ _ m3'
   have hC:27000+5*(B+4)≤399999:=by lia
   have hwC:∀ j,(ws.getD j 0).natAbs≤2 ^ 399999:=fun j=>Nat.le_trans (hwb j) (Nat.pow_le_pow_right (by decide) hC)
   walk_at "w"
   refine r_inL (SqL.of m3'') rfl (flat_ints kz) ?_
   walk_at "w"
   refine if_both (fun h4=>?_) (fun h4=>?_)
   ·have hin:=(hmem p).mp (in_leads.mp h4)
    walk_at "w"
    exact c_key_of (ring:=Mth.Pd R 0) (C:=399999) ⟨mt,hw5,Int.le_of_lt hwp,⟨Mth.Pd R 0,List.mem_cons_self ..,by lia⟩,hwC,Nat.le_trans (hPd 0 (by decide)) (Nat.pow_le_pow_right (by decide) (by decide))⟩ fun t6 ra m q H6 s6 m6 mq hKO hKR hfew=>kc t6 ra (q,m) H6 (s5.trans s6) m6 mq ⟨ws,Mth.Pd R 0,hWI,hw5,.inl ⟨hin,rfl⟩,hKO,hKR,hfew⟩
   ·have hout:∀ s∈st,¬ Mth.Led s p:=fun s hs hsp=>by
     have:=in_leads.mpr ((hmem p).mpr ⟨s,hs,hsp⟩)
     rw [this] at h4
     cases h4
    obtain ⟨rp,hrp⟩:=Mth.get5 hTri.len hp
    have hone:rp.getD p 0=1:=by
     have:=hBP.one hp hout
     rwa [Mth.getD_of' hrp] at this
    have hwsp:ws.getD p 0=Mth.Pd R 0:=by
     have e1:=hWI.all hTri hw5 p rp hrp
     rw [if_pos rfl,Mth.dt_one (hTri.row rp (mem_of hrp)) hw5 hp (fun i hi hne=>by
      rcases (show i<p∨p<i by lia) with c|c
      ·exact .inr (hWI.lo i (by lia) c)
      ·exact .inl (hTri.zero p rp i hrp c)),hone,Int.one_mul] at e1
     exact e1
    walk_at "w"
    exact c_key_of (ring:=0) (C:=399999) ⟨mt,hw5,Int.le_refl _,⟨ws.getD p 0,List.mem_cons_of_mem _ (getD_mem (by lia)),by lia⟩,hwC,Nat.zero_le _⟩ fun t6 ra m q H6 s6 m6 mq hKO hKR hfew=>kc t6 ra (q,m) H6 (s5.trans s6) m6 mq ⟨ws,0,hWI,hw5,.inr ⟨hout,rfl⟩,hKO,hKR,hfew⟩
  walk_at "w"
  refine rd_filterKeys (K:=K) [] (fun k=>k.2 != 1) rfl (SqL.of m4) hk4 (by lia) (fun a w kk H' Qt hkk s ha hw kt=>?_) (fun a H' Qc s kc=>?_) (fun l5 H5 us n5 s5 m5 hk5=>?_)
  ·walk_at "w"
   have e:(!decide (kk.2=1))=(kk.2 != 1):=by
    by_cases h:kk.2=1
    ·rw [h];rfl
    ·rw [decide_eq_false h,bne_iff_ne.mpr h];rfl
   rw [e]
   exact kt _ (Same.refl _)
  ·walk_at "w"
   exact kc
  have sall:=((s12.trans s3).trans s4).trans s5
  exact k l5 H5 us ks R (((s12.trans s3).trans s4).new n5) sall m5 hk5 hn4 hBP hP4
theorem sc_checked_keys:FnScope ["keys","key"] ["keys"] (defScope s_checked_keys):=⟨rfl,rfl,rfl,by decide +kernel,rfl,by decide +kernel,by decide +kernel⟩
theorem ok_checked_keys (D:Def K mg "checked_keys" s_checked_keys ["keys"]) (T:Txt K mg G) (Y:base.NoSeer∧P.given.tree=none):Ok P w K mg base 1 "checked_keys" ["keys"] (sp_checked_keys K):=by
 have S:=sc_checked_keys
 refine D.ok S (fun vs H Q E h=>?_) (fun f cdv A outer s H vs Q E hr h=>?_)
 ·obtain ⟨l,xs,ks,rfl,hl,hk,h6,hg,k⟩:=h;rfl
 ·obtain ⟨l,xs,ks,rfl,hl,hk,h6,hg,k⟩:=h
  have hu:=hu_of hr
  have q_ONE:=T.q_ONE
  refine⟨_,(pss_cons (ps_if (pt_cmpR op_gt (pe_callB (kN_len K rfl) rfl T.b_len PySem.boot_len (pa_cons (pv 0) pa_nil)) (pe_glob (v:=V.int 6) rfl T.g_MOST_KEYS ⟨_,rfl⟩) (nomark _)) (pss_one ps_never) pss_nil) (pss_cons (ps_for PassesOwn.never rfl (kpi_list K rfl (pv 0)) (pg_name (i:=1) S.nd rfl (Or.inl rfl)) (pss_one (ps_if (PW.pt (pw_or (pt_cmpR op_lt (pe_ix (kx_seq K rfl) (pv 1) pe_int (fun _ _=>rfl)) pe_int (nomark _)) (pw_or1 (pt_cmpR op_eq (pe_ix (kx_seq K rfl) (pv 1) pe_int (fun _ _=>rfl)) pe_int (nomark _))))) (pss_one ps_never) pss_nil))) (pss_one (ps_ret (pv 0))))),?_⟩
  have lk:=hk.length
  walk_at "w"
  refine if_ff (by simp;lia) ?_
  walk_at "w"
  refine f_invL (xs:=xs) (fun i σ H2=>∃ o:Option V,σ=[some (.ref l),o]∧H2=H) ⟨_,rfl,rfl⟩ (fun i σ H2 hp=>by obtain ⟨o,rfl,rfl⟩:=hp;exact hl) (fun i x σ H2 hx hp=>?_) (fun σ H2 hp=>?_)
  ·obtain ⟨o,rfl,rfl⟩:=hp
   obtain ⟨a,w,kk,rfl,h1,h2,h3⟩:=hk.get hx
   have hm:=hg kk (List.mem_of_getElem? h3)
   walk_at "w"
   refine if_ff (decide_eq_false (by lia)) ?_
   walk_at "w"
   refine if_ff (decide_eq_false (by lia)) ?_
   exact⟨_,rfl,rfl⟩
  obtain ⟨o,rfl,rfl⟩:=hp
  walk_at "w"
  exact k
theorem sc_lost_among:FnScope ["rows","key","valued"] ["rows","key"] (defScope s_lost_among):=⟨rfl,rfl,rfl,by decide +kernel,rfl,by decide +kernel,by decide +kernel⟩
structure Os_lost_among (P:Program) (w:World) (K:PySem.W.Frag) (mg:Str→Option Value) (base:Heap) (G:Adr):Prop where
 stepped:Ok P w K mg base 36 "stepped" ["vectors","size"] (sp_stepped K)
 value:Ok P w K mg base 2 "value" ["key","row"] (sp_value K)
set_option maxHeartbeats 4000000 in
theorem ok_lost_among (D:Def K mg "lost_among" s_lost_among ["rows","key"]) (T:Txt K mg G) (O:Os_lost_among P w K mg base G) (Y:base.NoSeer∧P.given.tree=none):Ok P w K mg base 37 "lost_among" ["rows","key"] (sp_lost_among K):=by
 have S:=sc_lost_among
 refine D.ok S (fun vs H Q E h=>?_) (fun f cdv A outer s H vs Q E hr h=>?_)
 ·obtain ⟨l,kt,wa,b,R,m,xs,st,ws,rfl,hl,hrs,h5,hc5,hbd,hkt,hwa,lw,hm0,hfew,hvb,hmb,hb,hR0,hR1,hss,hT,k⟩:=h;rfl
 ·obtain ⟨l,kt,wa,b,R,m,xs,st,ws,rfl,hl,hrs,h5,hc5,hbd,hkt,hwa,lw,hm0,hfew,hvb,hmb,hb,hR0,hR1,hss,hT,k⟩:=h
  have hu:=hu_of hr
  have q_ONE:=T.q_ONE
  refine⟨_,(pss_cons (ps_set (i:=2) S.nd rfl (Or.inl rfl) (pe_op op_cat (pe_comp (N:=["row","key"]) (ix:=[none,some 1]) rfl (kpi_list K rfl (pv 0)) (fun _ _ _ _ _=>(pg_name (i:=0) (show List.Nodup (["row","key"]:List Str) by decide +kernel) rfl (Or.inl rfl))) (fun _ _ _ _ _=>rfl) (fun _ _ _ _ _=>(pe_op (kop_catT K rfl) (pv 0) (pe_tup (pa_cons (pcall O.value (hr.mono (by decide)) (pa_cons (pv 1) (pa_cons (pv 0) pa_nil))) pa_nil)))) rfl (by decide +kernel) (by decide +kernel) rfl ⟨⟨rfl,Or.inr (Or.inl rfl),rfl,rfl⟩,True.intro⟩) (pe_lst (pa_cons (pe_op (kop_catT K rfl) (pe_glob (v:=V.ref G.a_ONE) rfl T.g_ONE rfl) (pe_tup (pa_cons (pe_ix (kx_seq K rfl) (pv 1) pe_int (fun _ _=>rfl)) pa_nil))) pa_nil)))) (pss_one (ps_ret (pe_comp (N:=["vector"]) (ix:=[none]) rfl (kpi_list K rfl (pcall O.stepped (hr.mono (by decide)) (pa_cons (pv 2) (pa_cons (pe_op op_add (pe_glob (v:=V.int 5) rfl T.g_WIDTH ⟨_,rfl⟩) pe_int) pa_nil)))) (fun _ _ _ _ _=>(pg_name (i:=0) (show List.Nodup (["vector"]:List Str) by decide +kernel) rfl (Or.inl rfl))) (fun _ _ _ _ _=>(pt_cmpR op_eq (pe_ix (kx_seq K rfl) (pv 0) (pe_glob (v:=V.int 5) rfl T.g_WIDTH ⟨_,rfl⟩) (fun _ _=>rfl)) pe_int (nomark _))) (fun _ _ _ _ _=>(pe_slice (ksl_tupV K rfl) (pv 0) po_none (po_some (pe_glob (v:=V.int 5) rfl T.g_WIDTH ⟨_,rfl⟩)))) rfl (by decide +kernel) (by decide +kernel) rfl True.intro)))),?_⟩
  have lr:=hrs.length
  walk_at "w"
  refine rd_mapRows [some (.ref kt)] (fun r=>r++[val ws m r]) rfl hl hrs (by lia) (fun a r H' Qc hr s ha kc=>?_) (fun l1 H1 ys n1 s1 m1 r1=>?_)
  ·have lr5:=h5 r hr
   walk_at "w"
   refine c_value ws r (s.at hkt) (s.at hwa) ha (by lia) (by lia) (Few.mul (fewB (hbd r hr) (by lia:b<900001)) hfew (by decide) (by lia)) hm0 fun H2 s2=>?_
   walk_at "w"
   rename_i p3 H3 s3 m3
   refine r_catT ((s2.trans s3).at ha) (SqT.of m3) (fun z=>by rw [List.map_eq_nil_iff] at z;rw [z] at lr5;simp at lr5) (by simp) (by simp;lia) fun p4 H4 s4 m4=>?_
   refine kc p4 H4 ((s2.trans s3).trans s4) ?_
   rw [List.map_append]
   exact SqT.of m4
  have q1:=q_ONE H1
  walk_at "w"
  rename_i pa Ha sa ma pb Hb sb mb pc Hc nc sc mc
  have s1c:=(sa.trans sb).trans sc
  have ly:=r1.length
  rw [List.length_map] at ly
  refine r_cat (s1c _ _ m1) mc (by simp;lia) fun l2 H2 n2 s2 m2=>?_
  have hrow:RowsL K H2 (ys++[.ref pb]) (Mth.valued (val ws m) st m):=(r1.same (s1c.trans s2)).append (.cons ((sc.trans s2).at (SqT.of mb)) .nil)
  have s12:=(s1.trans s1c).trans s2
  have hT2:=hT.same s12
  have lv:(Mth.valued (val ws m) st m).length=st.length+1:=by simp [Mth.valued]
  have hlv:Mth.Len 6 (Mth.valued (val ws m) st m):=fun v hv=>by
   rcases List.mem_append.mp hv with z|z
   ·obtain ⟨r,hr,rfl⟩:=List.mem_map.mp z
    simp [h5 r hr]
   ·rw [List.mem_singleton.mp z];rfl
  have hbv:∀ v∈Mth.valued (val ws m) st m,Mth.BdM (2 ^ b) v:=fun v hv=>by
   rcases List.mem_append.mp hv with z|z
   ·obtain ⟨r,hr,rfl⟩:=List.mem_map.mp z
    exact Mth.app_bd (hbd r hr) (bd_mem fun x hx=>by rw [List.mem_singleton.mp hx];exact hvb r hr)
   ·rw [List.mem_singleton.mp z]
    exact Mth.app_bd (fun i=>by rw [Mth.zer_at];exact Nat.zero_le _) (bd_mem fun x hx=>by rw [List.mem_singleton.mp hx];exact hmb)
  walk_at "w"
  obtain ⟨uv,lu,hu6,hRu⟩:∃ uv:List (List Int),Mth.Len 6 uv∧(∀ r∈Mth.valued (val ws m) st m,Mth.Span 6 uv r)∧uv.length≤R:=by
   by_cases h0:m=0
   ·refine⟨st.map fun r=>r++[val ws m r],fun v hv=>hlv v (List.mem_append_left _ hv),fun r hr=>?_,by rw [List.length_map];exact hR0 h0⟩
    rcases List.mem_append.mp hr with z|z
    ·exact Mth.Span.mem z
    ·rw [List.mem_singleton.mp z,h0]
     exact Mth.Span.zero
   ·exact⟨Mth.valued (val ws m) st m,hlv,fun r hr=>Mth.Span.mem hr,by rw [lv];exact hR1 h0⟩
  refine c_stepped (n:=6) (b:=b) (R:=R) (us:=uv) ⟨SqL.of m2,hrow,by lia,hlv,by decide,hbv,⟨lu,hu6,hRu⟩,hss,by lia,hT2⟩ fun l3 H3 ys3 S lf n3 sm3 hT3 e3 r3 hI=>?_
  have hS:=hI.all
  have hc:=hI.c2
  walk_at "w"
  refine rd_filterMapRows [] (fun v=>v.getD 5 0 == 0) (List.take 5) rfl (SqL.of e3) r3 (by lia) (fun a r H' Qt hr s ha kt=>?_) (fun a r H' Qc hr hf s ha kc=>?_) (fun l4 H4 us n4 s4 m4 r4=>?_)
  ·walk_at "v"
   refine r_ixT ha (atI_nat (j:=5) (int_at (by rw [hI.lst r hr];decide))) ?_
   walk_at "w"
   exact kt _ (Same.refl _)
  ·walk_at "w"
   refine r_slV ha fun p5 H5 s5 m5=>?_
   rw [show (some (5:Int))=some ((5:Nat):Int) from rfl,cutV_hi,← List.map_take] at m5
   exact kc p5 H5 s5 m5
  have hLO:=Mth.lost_of (f:=val ws m) h5 lw (fun r hr=>val_dvd ws m r) hS.1 hI.lst hS.2
  exact k l4 H4 us _ (s12.new (sm3.new hT3 n4)) ((SameT.of s12).trans (sm3.trans (SameT.of s4))) (hT3.same s4) m4 r4 hLO (Mth.SF.count hLO.sf fun r hr j hj=>Mth.led5 (hLO.len r hr) hj)
theorem sc_lost:FnScope ["keys","found","key"] ["keys"] (defScope s_lost):=⟨rfl,rfl,rfl,by decide +kernel,rfl,by decide +kernel,by decide +kernel⟩
structure Os_lost (P:Program) (w:World) (K:PySem.W.Frag) (mg:Str→Option Value) (base:Heap) (G:Adr):Prop where
 unit:Ok P w K mg base 1 "unit" ["place","size"] (sp_unit K)
 stepped:Ok P w K mg base 36 "stepped" ["vectors","size"] (sp_stepped K)
 checked_keys:Ok P w K mg base 1 "checked_keys" ["keys"] (sp_checked_keys K)
 lost_among:Ok P w K mg base 37 "lost_among" ["rows","key"] (sp_lost_among K)
set_option maxHeartbeats 4000000 in
theorem ok_lost (D:Def K mg "lost" s_lost ["keys"]) (T:Txt K mg G) (O:Os_lost P w K mg base G) (Y:base.NoSeer∧P.given.tree=none):Ok P w K mg base 38 "lost" ["keys"] (sp_lost K):=by
 have S:=sc_lost
 refine D.ok S (fun vs H Q E h=>?_) (fun f cdv A outer s H vs Q E hr h=>?_)
 ·obtain ⟨l,xs,ks,P',rfl,hl,hk,h6,hg,hw,hP0,hPs,hPb,hT,k⟩:=h;rfl
 ·obtain ⟨l,xs,ks,P',rfl,hl,hk,h6,hg,hw,hP0,hPs,hPb,hT,k⟩:=h
  have hu:=hu_of hr
  have q_ONE:=T.q_ONE
  refine⟨_,(pss_cons (ps_set (i:=1) S.nd rfl (Or.inl rfl) (pcall O.stepped (hr.mono (by decide)) (pa_cons (pe_comp (N:=["place"]) (ix:=[none]) rfl (pi_range1 rfl T.b_range (pa_cons (pe_glob (v:=V.int 5) rfl T.g_WIDTH ⟨_,rfl⟩) pa_nil)) (fun _ _ _ _ _=>(pg_name (i:=0) (show List.Nodup (["place"]:List Str) by decide +kernel) rfl (Or.inl rfl))) (fun _ _ _ _ _=>rfl) (fun _ _ _ _ _=>(pcall O.unit (hr.mono (by decide)) (pa_cons (pv 0) (pa_cons (pe_glob (v:=V.int 5) rfl T.g_WIDTH ⟨_,rfl⟩) pa_nil)))) rfl (by decide +kernel) (by decide +kernel) rfl True.intro) (pa_cons (pe_glob (v:=V.int 5) rfl T.g_WIDTH ⟨_,rfl⟩) pa_nil)))) (pss_cons (ps_for PassesOwn.never rfl (kpi_list K rfl (pcall O.checked_keys (hr.mono (by decide)) (pa_cons (pv 0) pa_nil))) (pg_name (i:=2) S.nd rfl (Or.inl rfl)) (pss_one (ps_set (i:=1) S.nd rfl (Or.inl rfl) (pcall O.lost_among (hr.mono (by decide)) (pa_cons (pv 1) (pa_cons (pv 2) pa_nil)))))) (pss_one (ps_ret (pv 1))))),?_⟩
  have lk:=hk.length
  walk_at "w"
  refine rd_rangeRowsX (K:=K) (n:=5) [] (fun i=>Mth.unitv i 5) rfl (by decide) (fun i H' Qc hi s kc=>?_) (fun l1 H1 ys n1 s1 m1 r1=>?_)
  ·walk_at "w"
   exact c_unit (n:=5) (by decide) fun p H5 s5 m5=>kc _ _ s5 (SqT.of m5)
  have hT1:=hT.same s1
  have l5u:Mth.Len 5 ((List.range 5).map fun i=>Mth.unitv i 5):=fun v hv=>by obtain ⟨i,_,rfl⟩:=List.mem_map.mp hv;exact Mth.unitv_len _ _
  walk_at "w"
  refine c_stepped (n:=5) (b:=0) (R:=5) (us:=Mth.units5) ⟨SqL.of m1,r1,by simp,l5u,by decide,fun v hv=>by obtain ⟨i,_,rfl⟩:=List.mem_map.mp hv;exact Mth.unitv_bd _ _ _,⟨len_units,fun r hr=>in_units (l5u r hr),by decide⟩,by decide,by decide,hT1⟩ fun l2 H2 ys2 st0 lf n2 sm2 hT2 e2 r2 hI=>?_
  have est:st0=Mth.ones5:=Mth.ones5_eq hI.all.1 hI.lst hI.all.2
  subst est
  have n2H:H l2=none:=s1.new n2
  have sm12:=(SameT.of s1).trans sm2
  have hl2:=sm12.seq hT hl
  have hk2:=hk.sameT sm12 hT
  walk_at "w"
  refine c_checked_keys ⟨hl2,hk2,h6,hg⟩ ?_
  walk_at "w"
  refine f_invL (xs:=xs) (fun i σ H3=>∃ (o:Option V) (lf:Addr) (ys:List V) (st:List (List Int)),σ=[some (.ref l),some (.ref lf),o]∧H lf=none∧SmT K H H3∧TabK K H3∧H3 lf=some (.lst ys)∧RowsL K H3 ys st∧Mth.Lo (ks.take i) st∧st.length≤5∧P' i st) ⟨_,l2,ys2,_,rfl,n2H,sm12,hT2,e2,r2,Mth.Lo.start,by decide,hP0⟩ (fun i σ H3 hp=>by obtain ⟨o,lf,ys,st,rfl,_,sm,_⟩:=hp;exact sm.seq hT hl) (fun i x σ H3 hx hp=>?_) (fun σ H3 hp=>?_)
  ·obtain ⟨o,lf,ys,st,rfl,nf,sm3,hT3,e3,r3,hLo,h5,hP⟩:=hp
   obtain ⟨a,w,kk,rfl,h1,h2,h3⟩:=hk.get hx
   obtain ⟨q1,q2⟩:=hw kk (List.mem_of_getElem? h3)
   have hm:=hg kk (List.mem_of_getElem? h3)
   obtain ⟨b,R,hb,b1,b2,b3,hR0,hR1,hss⟩:=hPb i kk st h3 hLo hP
   walk_at "w"
   refine c_lost_among (b:=b) (R:=R) ⟨SqL.of e3,r3,hLo.len,h5,b1,sm3.at hT h1,sm3.at hT h2,q1,by lia,q2,b2,b3,hb,hR0,hR1,hss,hT3⟩ fun l4 H4 ys4 st4 n4 sm4 hT4 e4 r4 hLO h54=>?_
   refine⟨_,l4,ys4,st4,rfl,sm3.new hT3 n4,sm3.trans sm4,hT4,e4,r4,?_,h54,hPs i kk st st4 h3 hLo hP hLO⟩
   rw [Mth.take_snoc h3]
   exact hLo.next hLO
  obtain ⟨o,lf,ys,st,rfl,nf,sm3,hT3,e3,r3,hLo,h5,hP⟩:=hp
  rw [← lk] at hLo hP
  rw [List.take_length] at hLo
  walk_at "w"
  exact k lf H3 ys st nf sm3 hT3 e3 r3 hLo h5 hP
theorem sc_keys_for:FnScope ["commas","steps","deaf"] ["commas"] (defScope s_keys_for):=⟨rfl,rfl,rfl,by decide +kernel,rfl,by decide +kernel,by decide +kernel⟩
structure Os_keys_for (P:Program) (w:World) (K:PySem.W.Frag) (mg:Str→Option Value) (base:Heap) (G:Adr):Prop where
 table:Ok P w K mg base 37 "table" ["commas"] (sp_table K)
 keys_by_place:Ok P w K mg base 35 "keys_by_place" ["steps"] (sp_keys_by_place K)
 lost:Ok P w K mg base 38 "lost" ["keys"] (sp_lost K)
set_option maxHeartbeats 4000000 in
theorem ok_keys_for (D:Def K mg "keys_for" s_keys_for ["commas"]) (T:Txt K mg G) (O:Os_keys_for P w K mg base G) (Y:base.NoSeer∧P.given.tree=none):Ok P w K mg base 39 "keys_for" ["commas"] (sp_keys_for K):=by
 have S:=sc_keys_for
 refine D.ok S (fun vs H Q E h=>?_) (fun f cdv A outer s H vs Q E hr h=>?_)
 ·obtain ⟨l,b,xs,rs,rfl,hl,hrs,h6,hln,hbd,hb,hT,hti,k⟩:=h;rfl
 ·obtain ⟨l,b,xs,rs,rfl,hl,hrs,h6,hln,hbd,hb,hT,hti,k⟩:=h
  have hu:=hu_of hr
  have q_ONE:=T.q_ONE
  refine⟨_,(pss_cons (ps_set (i:=1) S.nd rfl (Or.inl rfl) (pcall O.table (hr.mono (by decide)) (pa_cons (pv 0) pa_nil))) (pss_cons (ps_set (i:=2) S.nd rfl (Or.inl rfl) (pcall O.lost (hr.mono (by decide)) (pa_cons (pe_comp (N:=["step"]) (ix:=[none]) rfl (kpi_list K rfl (pv 1)) (fun _ _ _ _ _=>(pg_name (i:=0) (show List.Nodup (["step"]:List Str) by decide +kernel) rfl (Or.inl rfl))) (fun _ _ _ _ _=>rfl) (fun _ _ _ _ _=>(pe_tup (pa_cons (pv 0) (pa_cons pe_int pa_nil)))) rfl (by decide +kernel) (by decide +kernel) rfl True.intro) pa_nil))) (pss_one (ps_ret (pe_op op_cat (pe_comp (N:=["row"]) (ix:=[none]) rfl (kpi_list K rfl (pv 2)) (fun _ _ _ _ _=>(pg_name (i:=0) (show List.Nodup (["row"]:List Str) by decide +kernel) rfl (Or.inl rfl))) (fun _ _ _ _ _=>rfl) (fun _ _ _ _ _=>(pe_tup (pa_cons (pv 0) (pa_cons pe_int pa_nil)))) rfl (by decide +kernel) (by decide +kernel) rfl True.intro) (pe_comp (N:=["key"]) (ix:=[none]) rfl (kpi_list K rfl (pcall O.keys_by_place (hr.mono (by decide)) (pa_cons (pv 1) pa_nil))) (fun _ _ _ _ _=>(pg_name (i:=0) (show List.Nodup (["key"]:List Str) by decide +kernel) rfl (Or.inl rfl))) (fun _ _ _ _ _=>(pt_cmpR op_ne (pe_ix (kx_seq K rfl) (pv 0) pe_int (fun _ _=>rfl)) pe_int (nomark _))) (fun _ _ _ _ _=>(pv 0)) rfl (by decide +kernel) (by decide +kernel) rfl True.intro)))))),?_⟩
  have lr:=hrs.length
  walk_at "w"
  refine c_table (b:=b) ⟨hl,hrs,h6,hln,hbd,hb,hT⟩ fun l1 H1 ys1 st n1 sm1 hT1 m1 r1 sf eqv l5 h5=>?_
  have hst:=hti st sf l5 eqv
  have ls:=r1.length
  walk_at "w"
  refine rd_rowsKeys [] (fun r=>(r,0)) rfl (SqL.of m1) r1 (by lia) (fun a r H' Qc hr s ha kc=>?_) (fun l2 H2 ys2 n2 s2 m2 k2=>?_)
  ·walk_at "w"
   rename_i p5 H5 s5 m5
   exact kc p5 a H5 s5 (SqT.of m5) (s5.at ha)
  have hT2:=hT1.same s2
  have lk2:(st.map fun s=>(s,(0:Int))).length≤5:=by rw [List.length_map];exact h5
  walk_at "w"
  refine c_lost (PE' (tb st.length)) ⟨SqL.of m2,k2,by lia,fun q hq=>?_,fun q hq=>?_,ones_bd,fun i q s s' hq hLo hP hL=>PE'.next l5 hst hq hLo hP hL,fun i q s hq hLo hP=>PE'.fits sf l5 h5 hst hq hLo hP,hT2⟩ fun l3 H3 ys3 D n3 sm3 hT3 m3 r3 hLo hD5 hDb=>?_
  ·obtain ⟨s,_,rfl⟩:=List.mem_map.mp hq
   exact .inl rfl
  ·obtain ⟨s,hs,rfl⟩:=List.mem_map.mp hq
   exact⟨l5 s hs,few99 (hst s hs) (by have:=tb_le st.length;lia)⟩
  rw [List.length_map] at hDb
  have ld:=r3.length
  have m13:=sm3.lst hT2 (s2 _ _ m1)
  have r13:=(r1.same s2).sameT sm3 hT2
  walk_at "w"
  refine rd_rowsKeys [] (fun r=>(r,0)) rfl (SqL.of m3) r3 (by lia) (fun a r H' Qc hr s ha kc=>?_) (fun l4 H4 ys4 n4 s4 m4 k4=>?_)
  ·walk_at "w"
   rename_i p5 H5 s5 m5
   exact kc p5 a H5 s5 (SqT.of m5) (s5.at ha)
  have m14:=s4 _ _ m13
  have r14:=r13.same s4
  walk_at "w"
  refine c_keys_by_place (B:=tb st.length) ⟨SqL.of m14,r14,sf,l5,h5,hst,tb_le _⟩ fun l6 H6 ys6 ks R n6 s6 m6 k6 hk5 hBP hKP=>?_
  have lf6:(ks.filter fun k=>k.2 != 1).length≤5:=Nat.le_trans (List.length_filter_le _ _) (by lia)
  walk_at "w"
  refine rd_filterKeys (K:=K) [] (fun k=>k.2 != 0) rfl (SqL.of m6) k6 (by lia) (fun a w kk H' Qt hkk s ha hw kt=>?_) (fun a H' Qc s kc=>?_) (fun l7 H7 ys7 n7 s7 m7 k7=>?_)
  ·walk_at "w"
   have e:(!decide (kk.2=0))=(kk.2 != 0):=by
    by_cases h:kk.2=0
    ·rw [h];rfl
    ·rw [decide_eq_false h,bne_iff_ne.mpr h];rfl
   rw [e]
   exact kt _ (Same.refl _)
  ·walk_at "w"
   exact kc
  have s67:=s6.trans s7
  have l4k:=k4.length
  have l7k:=k7.length
  rw [List.length_map] at l4k
  have lf7:((ks.filter fun k=>k.2 != 1).filter fun k=>k.2 != 0).length≤5:=Nat.le_trans (List.length_filter_le _ _) lf6
  refine r_cat (s67 _ _ m4) m7 (by lia) fun p8 H8 n8 s8 m8=>?_
  have s18:=s67.trans s8
  have sm8:SmT K H H8:=((sm1.trans (SameT.of s2)).trans sm3).trans (SameT.of (s4.trans s18))
  obtain ⟨pb,p0⟩:=pd_bits l5 hBP hst
  refine k p8 H8 _ st D ((ks.filter fun k=>k.2 != 1).filter fun k=>k.2 != 0) (Mth.Pd R 0) ?_ sm8 (hT3.same (s4.trans s18)) m8 ((k4.same s18).append (k7.same s8)) ⟨sf,l5,h5,eqv,hDb,hLo,fun q hq=>?_,p0,pb,fun x lx=>?_,few_keys l5 hLo hk5 hKP⟩
  ·exact sm1.new hT1 (s2.new (sm3.new hT3 (s4.new (s67.new n8))))
  ·obtain ⟨q1,q2⟩:=List.mem_filter.mp hq
   obtain ⟨q3,q4⟩:=List.mem_filter.mp q1
   rw [bne_iff_ne] at q2 q4
   obtain ⟨i,hi,e⟩:=List.getElem_of_mem q3
   obtain ⟨z1,z2,z3,z4,_⟩:=(hKP i q (by rw [List.getElem?_eq_getElem hi,e])).ring q2
   exact⟨z4,by lia,z2,z3⟩
  ·refine Iff.trans ⟨fun h k hk=>?_,fun h k hk=>?_⟩ (keys_hear eqv sf l5 hLo hk5 hBP hKP lx)
   ·exact (val_zero k.1 k.2 x).mpr (h k hk)
   ·exact (val_zero k.1 k.2 x).mp (h k hk)
theorem sc_law_cells:FnScope ["_law_script","_law_found","_law_k","_law_cell","_law_near_here","_law_far"] ["_law_script"] (defScope s_law_cells):=⟨rfl,rfl,rfl,by decide +kernel,rfl,by decide +kernel,by decide +kernel⟩
set_option maxHeartbeats 4000000 in
theorem ok_law_cells (D:Def K mg "_law_cells" s_law_cells ["_law_script"]) (T:Txt K mg G) (Y:base.NoSeer∧P.given.tree=none):Ok P w K mg base 1 "_law_cells" ["_law_script"] (sp_law_cells K):=by
 have S:=sc_law_cells
 refine D.ok S (fun vs H Q E h=>?_) (fun f cdv A outer s H vs Q E hr h=>?_)
 ·obtain ⟨a,ns,rfl,ha,k⟩:=h;rfl
 ·obtain ⟨a,ns,rfl,ha,k⟩:=h
  have hu:=hu_of hr
  have q_ONE:=T.q_ONE
  refine⟨_,(pss_cons (ps_set (i:=1) S.nd rfl (Or.inl rfl) (pe_lst pa_nil)) (pss_cons (ps_for PassesOwn.never rfl (pi_range1 rfl T.b_range (pa_cons pe_int pa_nil)) (pg_name (i:=2) S.nd rfl (Or.inl rfl)) (pss_cons (ps_set (i:=3) S.nd rfl (Or.inl rfl) pe_int) (pss_cons (ps_if (pt_cmpR op_lt (pv 2) (pe_callB (kN_len K rfl) rfl T.b_len PySem.boot_len (pa_cons (pv 0) pa_nil)) (nomark _)) (pss_one (ps_set (i:=3) S.nd rfl (Or.inl rfl) (pe_ix (kx_seq K rfl) (pv 0) (pv 2) (fun _ _=>rfl)))) pss_nil) (pss_one (ps_if (PW.pt (pw_and (pt_cmpR op_gt (pe_callB (kN_len K rfl) rfl T.b_len PySem.boot_len (pa_cons (pv 0) pa_nil)) pe_int (nomark _)) (pw_and1 (pt_cmpR op_eq (pe_op op_mod (pe_ix (kx_seq K rfl) (pv 0) pe_int (fun _ _=>rfl)) pe_int) pe_int (nomark _))))) (pss_one (ps_expr (pe_bm PySem.F.plainAttrs_list PySem.F.slot_list_append PySem.F.type_list_append mt_append (pv 1) (pa_cons (pe_op op_mod (pv 3) (pe_op op_pow pe_int pe_int)) pa_nil)))) (pss_cons (ps_set (i:=4) S.nd rfl (Or.inl rfl) (pe_op op_mod (pe_op op_mul (pe_op op_add (pe_op op_mod (pv 3) pe_int) (pe_op op_mul pe_int (pe_op op_add (pv 2) pe_int))) pe_int) pe_int)) (pss_cons (ps_set (i:=5) S.nd rfl (Or.inl rfl) (pe_op op_mod (pe_op op_mul (pe_op op_mod (pe_op op_mul (pv 4) pe_int) pe_int) pe_int) pe_int)) (pss_one (ps_expr (pe_bm PySem.F.plainAttrs_list PySem.F.slot_list_append PySem.F.type_list_append mt_append (pv 1) (pa_cons (pe_op op_add (pe_op op_mul (pe_op op_add (pe_op op_mul (pv 4) pe_int) (pv 5)) pe_int) (pe_op op_mod (pe_op op_mul (pv 5) pe_int) pe_int)) pa_nil))))))))))) (pss_one (ps_ret (pv 1))))),?_⟩
  walk_at "w"
  rename_i l H1 n1 s1 m1
  refine f_invR (fun i σ' H'=>∃ (o2 o3 o4 o5:Option V) (cs:List Int),σ'=[some (.ref a),some (.ref l),o2,o3,o4,o5]∧Same H H'∧H' l=some (.lst (cs.map V.int))∧cs.length=i) ⟨_,_,_,_,[],rfl,s1,m1,rfl⟩ (fun i σ' H' hi hP=>?_) (fun σ' H' hP=>?_)
  ·obtain ⟨o2,o3,o4,o5,cs,rfl,sH,ml,hlen⟩:=hP
   have ha':=sH.seq ha
   have fin:∀ (z:Int) (x3 x4 x5:Option V) (x2:Option V),(∃ (o2 o3 o4 o5:Option V) (cs':List Int),[some (.ref a),some (.ref l),x2,x3,x4,x5]=[some (.ref a),some (.ref l),o2,o3,o4,o5]∧Same H (upd H' l (.lst (cs.map V.int++[.int z])))∧(upd H' l (.lst (cs.map V.int++[.int z]))) l=some (.lst (cs'.map V.int))∧cs'.length=i+1):=fun z x3 x4 x5 x2=>⟨_,_,_,_,cs++[z],rfl,sH.upd_old n1,by rw [upd_same,List.map_append];rfl,by rw [List.length_append,List.length_singleton,hlen]⟩
   have hi':i<63:=by have:i<(63:Int).toNat:=hi;exact this
   rw [Int.zero_add]
   walk_at "j"
   refine join (fun σ' H2=>∃ (c:Int),σ'=[some (.ref a),some (.ref l),some (.int (i:Int)),some (.int c),o4,o5]∧H2=H') (fun nx hnx=>?_) (fun σ' H2 hP=>?_)
   ·walk_at "w"
    refine if_both (fun h=>?_) (fun h=>?_)
    ·have h':=of_decide_eq_true h
     have hil:i<ns.length:=by rw [List.length_map] at h';lia
     walk_at "w"
     refine r_ixL ha' (atI_nat (j:=i) (int_at hil)) ?_
     walk_at "w"
     exact hnx _ _ ⟨_,rfl,rfl⟩
    ·walk_at "w"
     exact hnx _ _ ⟨_,rfl,rfl⟩
   obtain ⟨c,rfl,hH⟩:=hP
   subst hH
   have e60:(0:Int)<10 ^ Int.toNat 60:=by decide
   have elseW:∀ (R:St→Hp→Prop),True:=fun _=>trivial
   walk_at "w"
   refine if_both (fun h=>?_) (fun h=>?_)
   ·have h':=of_decide_eq_true h
    rw [List.length_map] at h'
    walk_at "w"
    refine r_ixL ha' (atI_nat (j:=0) (int_at (by lia))) ?_
    walk_at "w"
    refine if_both (fun h2=>?_) (fun h2=>?_)
    ·walk_at "w"
     refine r_append ml (by simp;lia) ?_
     exact fin _ _ _ _ _
    ·walk_at "w"
     refine r_append ml (by simp;lia) ?_
     exact fin _ _ _ _ _
   ·walk_at "w"
    refine iteF ?_
    walk_at "w"
    refine r_append ml (by simp;lia) ?_
    exact fin _ _ _ _ _
  obtain ⟨o2,o3,o4,o5,cs,rfl,sH,ml,hlen⟩:=hP
  walk_at "w"
  exact k l H' cs n1 sH ml hlen
theorem sc_law_near:FnScope ["_law_cell","_law_most"] ["_law_cell","_law_most"] (defScope s_law_near):=⟨rfl,rfl,rfl,by decide +kernel,rfl,by decide +kernel,by decide +kernel⟩
theorem ok_law_near (D:Def K mg "_law_near" s_law_near ["_law_cell","_law_most"]) (T:Txt K mg G) (Y:base.NoSeer∧P.given.tree=none):Ok P w K mg base 1 "_law_near" ["_law_cell","_law_most"] (sp_law_near K):=by
 have S:=sc_law_near
 refine D.ok S (fun vs H Q E h=>?_) (fun f cdv A outer s H vs Q E hr h=>?_)
 ·obtain ⟨c,m,rfl,hm,k⟩:=h;rfl
 ·obtain ⟨c,m,rfl,hm,k⟩:=h
  have hu:=hu_of hr
  have q_ONE:=T.q_ONE
  refine⟨_,(pss_one (ps_ret (pe_op op_sub (pe_op op_mod (pe_op op_add (pv 0) (pv 1)) (pe_op op_add (pe_op op_mul pe_int (pv 1)) pe_int)) (pv 1)))),?_⟩
  have hp:(0:Int)<2*m+1:=by lia
  walk_at "w"
  exact k
theorem sc_law_plus:FnScope ["_law_one","_law_q","_law_other"] ["_law_one","_law_q","_law_other"] (defScope s_law_plus):=⟨rfl,rfl,rfl,by decide +kernel,rfl,by decide +kernel,by decide +kernel⟩
theorem ok_law_plus (D:Def K mg "_law_plus" s_law_plus ["_law_one","_law_q","_law_other"]) (T:Txt K mg G) (Y:base.NoSeer∧P.given.tree=none):Ok P w K mg base 1 "_law_plus" ["_law_one","_law_q","_law_other"] (sp_law_plus K):=by
 have S:=sc_law_plus
 refine D.ok S (fun vs H Q E h=>?_) (fun f cdv A outer s H vs Q E hr h=>?_)
 ·obtain ⟨a,b,n,r,q,rfl,ha,hb,hl,h1,hm,k⟩:=h;rfl
 ·obtain ⟨a,b,n,r,q,rfl,ha,hb,hl,h1,hm,k⟩:=h
  have hu:=hu_of hr
  have q_ONE:=T.q_ONE
  refine⟨_,(pss_one (ps_ret (pe_callTy (kN_tuple K rfl) rfl T.b_tuple PyProof.Rows.boot_tuple (pa_cons (pe_comp (N:=["_law_a","_law_b","_law_q"]) (ix:=[none,none,some 1]) rfl (kpi_zip2 K rfl true true rfl T.b_zip (pa_cons (pv 0) (pa_cons (pv 2) pa_nil))) (fun _ _ _ _ _=>(kpg_tup (n:=2) K rfl rfl (pgs_cons (pg_name (i:=0) (show List.Nodup (["_law_a","_law_b","_law_q"]:List Str) by decide +kernel) rfl (Or.inl rfl)) (pgs_cons (pg_name (i:=1) (show List.Nodup (["_law_a","_law_b","_law_q"]:List Str) by decide +kernel) rfl (Or.inl rfl)) pgs_nil)))) (fun _ _ _ _ _=>rfl) (fun _ _ _ _ _=>(pe_op op_add (pv 0) (pe_op op_mulX (pv 2) (pv 1)))) rfl (by decide +kernel) (by decide +kernel) rfl ⟨⟨rfl,Or.inr (Or.inl rfl),rfl,rfl⟩,True.intro⟩) pa_nil)))),?_⟩
  walk_at "w"
  refine rd_compZ1 (k1:=true) (k2:=true) (xs:=r.map V.int) (ys:=q.map V.int) [some (.int n)] (fun i=>.int (r.getD i 0+n*q.getD i 0)) rfl (sqt_sq ha) (sqt_sq hb) (by simp;lia) (by simp;lia) (fun i x y H2 Qc hx hy s kc=>?_) (fun l H2 hl1 s m=>?_)
  ·obtain ⟨rfl,hi⟩:=int_get hx
   obtain ⟨rfl,hj⟩:=int_get hy
   have hmi:=hm (q.getD i 0) (getD_mem hj)
   walk_at "w"
   exact kc _ (Same.refl _)
  have e:(List.range (r.map V.int).length).map (fun i=>V.int (r.getD i 0+n*q.getD i 0))=(List.range (r.map V.int).length).map (fun i=>V.int (r.getD i 0+n*(q.take r.length).getD i 0)):=List.map_congr_left fun i hi=>by
   have hi':i<r.length:=by have:=List.mem_range.mp hi;rwa [List.length_map] at this
   have eq:(q.take r.length).getD i 0=q.getD i 0:=by
    simp only [List.getD]
    rw [List.getElem?_take_of_lt hi']
   rw [eq]
  rw [e,withv_map (by rw [List.length_take];lia)] at m
  walk_at "w"
  rename_i p3 H3 s3 m3
  exact k _ _ (s.trans s3) (SqT.of m3)
theorem sc_law_gathered:FnScope ["_law_rows","_law_place","_law_here","_law_left","_law_some","_law_first","_law_more"] ["_law_rows","_law_place"] (defScope s_law_gathered):=⟨rfl,rfl,rfl,by decide +kernel,rfl,by decide +kernel,by decide +kernel⟩
structure Os_law_gathered (P:Program) (w:World) (K:PySem.W.Frag) (mg:Str→Option Value) (base:Heap) (G:Adr):Prop where
 law_plus:Ok P w K mg base 1 "_law_plus" ["_law_one","_law_q","_law_other"] (sp_law_plus K)
set_option maxHeartbeats 8000000 in
theorem ok_law_gathered (D:Def K mg "_law_gathered" s_law_gathered ["_law_rows","_law_place"]) (T:Txt K mg G) (O:Os_law_gathered P w K mg base G) (Y:base.NoSeer∧P.given.tree=none):Ok P w K mg base 34 "_law_gathered" ["_law_rows","_law_place"] (sp_law_gathered K):=by
 have S:=sc_law_gathered
 refine D.ok S (fun vs H Q E h=>?_) (fun f cdv A outer s H vs Q E hr h=>?_)
 ·obtain ⟨l,p,n,M,A,k,xs,rs,rfl,hl,hrs,h64,hln,hn,hp,hbd,hA,hA0,hMk,hk,k0,k1⟩:=h;rfl
 ·obtain ⟨l,p,n,M,A,k,xs,rs,rfl,hl,hrs,h64,hln,hn,hp,hbd,hA,hA0,hMk,hk,k0,k1⟩:=h
  have hu:=hu_of hr
  have q_ONE:=T.q_ONE
  refine⟨_,(pss_cons (ps_setC (k:=2) (N:=["_law_row","_law_place"]) (ix:=[none,some 1]) S.nd rfl (Or.inl rfl) rfl (kpi_list K rfl (pv 0)) (fun _ _ _ _ _=>(pg_name (i:=0) (show List.Nodup (["_law_row","_law_place"]:List Str) by decide +kernel) rfl (Or.inl rfl))) (fun _ _ _ _ _=>(pt_cmpR op_ne (pe_ix (kx_seq K rfl) (pv 0) (pv 1) (fun _ _=>rfl)) pe_int (nomark _))) (fun _ _ _ _ _=>(pv 0)) rfl (by decide +kernel) (by decide +kernel) rfl ⟨⟨rfl,Or.inr (Or.inl rfl),rfl,rfl⟩,True.intro⟩) (pss_cons (ps_setC (k:=3) (N:=["_law_row","_law_place"]) (ix:=[none,some 1]) S.nd rfl (Or.inl rfl) rfl (kpi_list K rfl (pv 0)) (fun _ _ _ _ _=>(pg_name (i:=0) (show List.Nodup (["_law_row","_law_place"]:List Str) by decide +kernel) rfl (Or.inl rfl))) (fun _ _ _ _ _=>(pt_cmpR op_eq (pe_ix (kx_seq K rfl) (pv 0) (pv 1) (fun _ _=>rfl)) pe_int (nomark _))) (fun _ _ _ _ _=>(pv 0)) rfl (by decide +kernel) (by decide +kernel) rfl ⟨⟨rfl,Or.inr (Or.inl rfl),rfl,rfl⟩,True.intro⟩) (pss_cons (ps_while PassesOwn.never (pt_cmpR op_gt (pe_callB (kN_len K rfl) rfl T.b_len PySem.boot_len (pa_cons (pv 2) pa_nil)) pe_int (nomark _)) (pss_cons (ps_setC (k:=4) (N:=["_law_row","_law_place"]) (ix:=[none,some 1]) S.nd rfl (Or.inl rfl) rfl (kpi_list K rfl (pv 2)) (fun _ _ _ _ _=>(pg_name (i:=0) (show List.Nodup (["_law_row","_law_place"]:List Str) by decide +kernel) rfl (Or.inl rfl))) (fun _ _ _ _ _=>rfl) (fun _ _ _ _ _=>(pe_callB callN_abs rfl T.b_abs PyProof.Rows.boot_abs (pa_cons (pe_ix (kx_seq K rfl) (pv 0) (pv 1) (fun _ _=>rfl)) pa_nil))) rfl (by decide +kernel) (by decide +kernel) rfl ⟨⟨rfl,Or.inr (Or.inl rfl),rfl,rfl⟩,True.intro⟩) (pss_cons (ps_set (i:=5) S.nd rfl (Or.inr rfl) (pe_bm PySem.F.plainAttrs_list PySem.F.slot_list_pop PySem.F.type_list_pop mt_popAt (pv 2) (pa_cons (pe_bm PySem.F.plainAttrs_list PySem.F.slot_list_index PySem.F.type_list_index (kmt_indexD K rfl hr.units) (pv 4) (pa_cons (pe_callB (kN_minI K rfl rfl) rfl T.b_min PyProof.Rows.boot_min (pa_cons (pv 4) pa_nil)) pa_nil)) pa_nil))) (pss_cons (ps_setC (k:=6) (N:=["_law_row","_law_first","_law_place"]) (ix:=[none,some 5,some 1]) S.nd rfl (Or.inl rfl) rfl (kpi_list K rfl (pv 2)) (fun _ _ _ _ _=>(pg_name (i:=0) (show List.Nodup (["_law_row","_law_first","_law_place"]:List Str) by decide +kernel) rfl (Or.inl rfl))) (fun _ _ _ _ _=>rfl) (fun _ _ _ _ _=>(pcall O.law_plus (hr.mono (by decide)) (pa_cons (pv 0) (pa_cons (pe_un un_neg (pe_op (op_fdivP Y rfl rfl rfl rfl rfl (hr.mono (by decide))) (pe_ix (kx_seq K rfl) (pv 0) (pv 2) (fun _ _=>rfl)) (pe_ix (kx_seq K rfl) (pv 1) (pv 2) (fun _ _=>rfl)))) (pa_cons (pv 1) pa_nil))))) rfl (by decide +kernel) (by decide +kernel) rfl ⟨⟨rfl,Or.inr (Or.inl rfl),rfl,rfl⟩,⟨⟨rfl,Or.inr (Or.inl rfl),rfl,rfl⟩,True.intro⟩⟩) (pss_cons (ps_set (i:=3) S.nd rfl (Or.inl rfl) (pe_op op_cat (pv 3) (pe_comp (N:=["_law_row","_law_place"]) (ix:=[none,some 1]) rfl (kpi_list K rfl (pv 6)) (fun _ _ _ _ _=>(pg_name (i:=0) (show List.Nodup (["_law_row","_law_place"]:List Str) by decide +kernel) rfl (Or.inl rfl))) (fun _ _ _ _ _=>(pt_cmpR op_eq (pe_ix (kx_seq K rfl) (pv 0) (pv 1) (fun _ _=>rfl)) pe_int (nomark _))) (fun _ _ _ _ _=>(pv 0)) rfl (by decide +kernel) (by decide +kernel) rfl ⟨⟨rfl,Or.inr (Or.inl rfl),rfl,rfl⟩,True.intro⟩))) (pss_one (ps_set (i:=2) S.nd rfl (Or.inl rfl) (pe_op op_cat (pe_lst (pa_cons (pv 5) pa_nil)) (pe_comp (N:=["_law_row","_law_place"]) (ix:=[none,some 1]) rfl (kpi_list K rfl (pv 6)) (fun _ _ _ _ _=>(pg_name (i:=0) (show List.Nodup (["_law_row","_law_place"]:List Str) by decide +kernel) rfl (Or.inl rfl))) (fun _ _ _ _ _=>(pt_cmpR op_ne (pe_ix (kx_seq K rfl) (pv 0) (pv 1) (fun _ _=>rfl)) pe_int (nomark _))) (fun _ _ _ _ _=>(pv 0)) rfl (by decide +kernel) (by decide +kernel) rfl ⟨⟨rfl,Or.inr (Or.inl rfl),rfl,rfl⟩,True.intro⟩))))))))) (pss_cons (ps_if (pt_cmpR (kop_eqD K rfl hr.units) (pv 2) (pe_lst pa_nil) (nomark _)) (pss_one (ps_ret (pe_tup (pa_cons pe_non (pa_cons (pv 3) pa_nil))))) pss_nil) (pss_one (ps_ret (pe_tup (pa_cons (pe_ix (kx_seq K rfl) (pv 2) pe_int (fun _ _=>rfl)) (pa_cons (pv 3) pa_nil))))))))),?_⟩
  have lr:=hrs.length
  walk_at "w"
  refine rd_filterRows [some (.int p)] (fun v=>v.getD p 0 != 0) rfl hl hrs (by lia) (fun a r H' Qt hr s ha kt=>?_) (fun a H' Qc s kc=>?_) (fun l1 H1 ys n1 s1 m1 r1=>?_)
  ·walk_at "v"
   refine r_ixT ha (atI_nat (int_at (by rw [hln r hr];exact hp))) ?_
   walk_at "w"
   exact kt _ (Same.refl _)
  ·walk_at "w"
   exact kc
  walk_at "w"
  have hrs1:=hrs.same s1
  refine rd_filterRows [some (.int p)] (fun v=>v.getD p 0 == 0) rfl (s1.seq hl) hrs1 (by lia) (fun a r H' Qt hr s ha kt=>?_) (fun a H' Qc s kc=>?_) (fun l2 H2 zs n2 s2 m2 r2=>?_)
  ·walk_at "v"
   refine r_ixT ha (atI_nat (int_at (by rw [hln r hr];exact hp))) ?_
   walk_at "w"
   exact kt _ (Same.refl _)
  ·walk_at "w"
   exact kc
  have ne12:l1≠l2:=fun z=>by rw [z,n2] at m1;cases m1
  walk_at "j"
  refine join (fun σ' H'=>∃ (o4 o5 o6:Option V) (l1 l2:Addr) (ys zs:List V) (led os:List (List Int)),σ'=[some (.ref l),some (.int p),some (.ref l1),some (.ref l2),o4,o5,o6]∧(Same H H'∧H l1=none∧H l2=none∧l1≠l2∧H' l1=some (.lst ys)∧H' l2=some (.lst zs)∧RowsL K H' ys led∧RowsL K H' zs os∧Mth.PJ n p M A led os∧Mth.Eqv n rs (led++os)∧led.length+os.length≤rs.length∧(∀ v∈led,Mth.at' p v≤A))∧led.length≤1) (fun nx kn=>?_) (fun σ' H' hP=>?_)
  ·refine f_while (fun m σ' H'=>∃ (o4 o5 o6:Option V) (l1 l2:Addr) (ys zs:List V) (led os:List (List Int)),σ'=[some (.ref l),some (.int p),some (.ref l1),some (.ref l2),o4,o5,o6]∧(Same H H'∧H l1=none∧H l2=none∧l1≠l2∧H' l1=some (.lst ys)∧H' l2=some (.lst zs)∧RowsL K H' ys led∧RowsL K H' zs os∧Mth.PJ n p M A led os∧Mth.Eqv n rs (led++os)∧led.length+os.length≤rs.length∧(∀ v∈led,Mth.at' p v≤A))∧m=Mth.mz p led) (Mth.mz p (rs.filter fun v=>v.getD p 0 != 0)) ?_ (fun m σ' H' hw=>?_)
   ·have hc2:=cnt2 (fun v:List Int=>v.getD p 0 == 0) rs
    refine⟨_,_,_,l1,l2,ys,zs,_,_,rfl,⟨s1.trans s2,n1,s1.new n2,ne12,s2 _ _ m1,m2,r1.same s2,r2,⟨fun v hv=>?_,fun v hv=>?_,fun v hv=>?_,(fun v hv=>hA v (List.mem_filter.mp hv).1),.inl fun v hv=>?_⟩,Mth.Eqv.mem fun x=>?_,Nat.le_of_eq hc2,fun v hv=>hA v (List.mem_filter.mp hv).1⟩,rfl⟩
    ·exact (List.mem_append.mp hv).elim (fun z=>hln v (List.mem_filter.mp z).1) fun z=>hln v (List.mem_filter.mp z).1
    ·simpa using (List.mem_filter.mp hv).2
    ·simpa using (List.mem_filter.mp hv).2
    ·exact (List.mem_append.mp hv).elim (fun z=>hbd v (List.mem_filter.mp z).1) fun z=>hbd v (List.mem_filter.mp z).1
    ·rw [List.mem_append,List.mem_filter,List.mem_filter]
     constructor
     ·intro h
      by_cases e:x.getD p 0=0
      ·exact .inr ⟨h,by simpa using e⟩
      ·exact .inl ⟨h,by simpa using e⟩
     ·rintro (h|h) <;> exact h.1
   obtain ⟨o4,o5,o6,l3,l4,ys3,zs3,led,os,rfl,⟨s3,n3,n4,ne34,e3,e4,r3,r4,hPI,hE,hlen,hMp⟩,rfl⟩:=hw
   have lys:=r3.length
   walk_at "w"
   refine if_both (fun hc=>?_) (fun hc=>?_)
   ·refine w_go ?_
    walk_at "w"
    have hc':1<ys3.length:=by have:=of_decide_eq_true hc;lia
    refine rd_compL (xs:=ys3) [some (.int p)] (fun i=>.int ((Mth.at' p (led.getD i []):Nat):Int)) rfl (SqL.of e3) (by lia) (fun i x H' Qc hx s kc=>?_) (fun l5 H5 n5 s5 m5=>?_)
    ·obtain ⟨a,r,rfl,ha,hi⟩:=r3.get hx
     rw [show led.getD i []=r by rw [List.getD,hi];rfl] at kc
     walk_at "v"
     refine r_ixT (s.at ha) (atI_nat (int_at (by rw [hPI.1 r (List.mem_append_left _ (mem_of hi))];exact hp))) ?_
     walk_at "w"
     have e:(if r.getD p 0<0 then -(r.getD p 0) else r.getD p 0)=((Mth.at' p r:Nat):Int):=by unfold Mth.at';split <;> lia
     rw [e]
     exact kc _ (Same.refl _)
    have el5:(List.range ys3.length).map (fun i=>V.int ((Mth.at' p (led.getD i []):Nat):Int))=(led.map fun v=>((Mth.at' p v:Nat):Int)).map V.int:=by
     rw [← lys,range_map led [] (fun v=>V.int ((Mth.at' p v:Nat):Int)),List.map_map]
     rfl
    rw [el5] at m5
    walk_at "w"
    refine rd_minI (SqL.of m5) (fun z=>by rw [List.map_eq_nil_iff] at z;rw [z] at lys;simp at lys;lia) fun mn hmn hmle=>?_
    obtain ⟨j,hj1,hj2⟩:=first_at hmn
    have hjl:j<led.length:=by have:=(List.getElem?_eq_some_iff.mp hj1).1;rw [List.length_map] at this;exact this
    walk_at "w"
    refine r_indexI j (SqL.of m5) (by lia) hj1 hj2 ?_
    have e35:=s5 _ _ e3
    obtain ⟨aL,sL,exL,haL,hiL⟩:=r3.get (i:=j) (List.getElem?_eq_getElem (by lia))
    have gx:ys3[j]?=some (.ref aL):=(List.getElem?_eq_getElem _).trans (congrArg some exL)
    have esL:led[j]=sL:=by have:=hiL;rw [List.getElem?_eq_getElem hjl] at this;exact Option.some.inj this
    have pq:=erase_perm hjl
    rw [esL] at pq
    have emn:mn=((Mth.at' p sL:Nat):Int):=by rw [List.getElem?_map,hiL] at hj1;exact (Option.some.inj hj1).symm
    have hle:∀ v∈led.eraseIdx j,Mth.at' p sL≤Mth.at' p v:=fun v hv=>by
     have:=hmle _ (List.mem_map.mpr ⟨v,pq.mem_iff.mp (.tail _ hv),rfl⟩)
     lia
    have hix:ixN ys3.length (j:Int)=some j:=ixN_nat (by lia)
    refine⟨l3,ys3,(j:Int),j,.ref aL,rfl,rfl,e35,by lia,by lia,(ixN_seq hix).1,gx,?_⟩
    have lrest:(led.eraseIdx j).length=led.length - 1:=List.length_eraseIdx_of_lt hjl
    have s36:Same H (upd H5 l3 (.lst (ys3.eraseIdx j))):=(s3.trans s5).upd_old n3
    have e36:(upd H5 l3 (.lst (ys3.eraseIdx j))) l3=some (.lst (ys3.eraseIdx j)):=upd_same
    have e46:(upd H5 l3 (.lst (ys3.eraseIdx j))) l4=some (.lst zs3):=by rw [upd_ne (Ne.symm ne34)];exact s5 _ _ e4
    have r36:RowsL K (upd H5 l3 (.lst (ys3.eraseIdx j))) (ys3.eraseIdx j) (led.eraseIdx j):=(rows_erase j (r3.same s5)).off e35
    have r46:RowsL K (upd H5 l3 (.lst (ys3.eraseIdx j))) zs3 os:=(r4.same s5).off e35
    have haL6:SqT K (upd H5 l3 (.lst (ys3.eraseIdx j))) aL (sL.map V.int):=upd_sqT (s5.at haL) e35
    generalize upd H5 l3 (.lst (ys3.eraseIdx j))=H6 at s36 e36 e46 r36 r46 haL6 ⊢
    generalize hrest:led.eraseIdx j=rest at lrest r36 pq hle
    have hrne:rest≠[]:=fun z=>by rw [z] at lrest;simp at lrest;lia
    obtain ⟨tPI,tmz,tE⟩:=hPI.turn hA0 pq hrne hle
    have mq:∀ v,v∈sL::rest→v∈led:=fun v hv=>pq.mem_iff.mp hv
    have hB:=hPI.bd hA0
    have lsL:sL.length=n:=hPI.1 sL (List.mem_append_left _ (mq sL (.head _)))
    have lrs:∀ v∈rest,v.length=n:=fun v hv=>hPI.1 v (List.mem_append_left _ (mq v (List.mem_cons_of_mem _ hv)))
    have hsn:=hPI.2.1 sL (mq sL (.head _))
    have bitsS:∀ y∈sL,bitsI y≤60000000:=fun y hy=>by
     rw [Mth.bits_bl]
     exact Nat.le_trans (Mth.bl_le (Nat.lt_of_le_of_lt (mem_bd (hB sL (List.mem_append_left _ (mq sL (.head _)))) hy) hMk)) hk
    walk_at "w"
    refine rd_mapRows [some (.ref aL),some (.int p)] (Mth.low1 p sL) rfl (SqL.of e36) r36 (by lia) (fun a r H7 Qc hr s7 ha kc=>?_) (fun l7 H7 ys7 n7 s7 m7 r7=>?_)
    ·have haL7:=s7.at haL6
     walk_at "v"
     refine r_ixT ha (atI_nat (int_at (by rw [lrs r hr];exact hp))) ?_
     walk_at "v"
     refine r_ixT haL7 (atI_nat (int_at (by rw [lsL];exact hp))) ?_
     walk_at "w"
     refine c_law_plusX (n:=-((r.getD p 0).fdiv (sL.getD p 0))) r sL ha haL7 (by rw [lrs r hr,lsL]) (by rw [lrs r hr];exact hn) (fun y hy=>.inr ?_) fun p8 H8 s8 m8=>kc _ _ s8 (by rw [← withv_low1 (lrs r hr) lsL];exact m8)
     have b1:bitsI (-((r.getD p 0).fdiv (sL.getD p 0)))≤60000000:=by
      rw [Mth.bits_bl]
      refine Nat.le_trans (Mth.bl_le (k:=k) ?_) hk
      rw [Int.natAbs_neg]
      exact Nat.lt_of_le_of_lt (Nat.le_trans (Mth.fdiv_le _ hsn) (hB r (List.mem_append_left _ (mq r (List.mem_cons_of_mem _ hr))) p)) hMk
     have b2:=bitsS y hy
     unfold CMulW
     lia
    have ll7:∀ r∈rest.map (Mth.low1 p sL),r.length=n:=fun r hr=>by
     obtain ⟨u,hu,rfl⟩:=List.mem_map.mp hr
     exact Mth.low1_len (lrs u hu) lsL
    have cnt:=left_cnt p sL rest
    walk_at "w"
    refine rd_filterRows [some (.int p)] (fun v=>v.getD p 0 == 0) rfl (SqL.of m7) r7 (by rw [List.length_map];lia) (fun a r H9 Qt hr s9 ha kt=>?_) (fun a H9 Qc s9 kc=>?_) (fun l8 H8 ys8 n8 s8 m8 r8=>?_)
    ·walk_at "v"
     refine r_ixT ha (atI_nat (int_at (by rw [ll7 r hr];exact hp))) ?_
     walk_at "w"
     exact kt _ (Same.refl _)
    ·walk_at "w"
     exact kc
    have l8':ys8.length=(Mth.left0 p sL rest).length:=r8.length.symm
    have lz:zs3.length=os.length:=r4.length.symm
    have s68:=s7.trans s8
    refine r_cat (s68 _ _ e46) m8 (by lia) fun p9 H9 n9 s9 m9=>?_
    have m79:=(s8.trans s9) _ _ m7
    walk_at "w"
    rename_i p10 H10 n10 s10 m10
    have s79:=(s8.trans s9).trans s10
    refine rd_filterRows [some (.int p)] (fun v=>v.getD p 0 != 0) rfl (SqL.of (s79 _ _ m7)) (r7.same s79) (by rw [List.length_map];lia) (fun a r H9 Qt hr s9 ha kt=>?_) (fun a H9 Qc s9 kc=>?_) (fun l11 H11 ys11 n11 s11 m11 r11=>?_)
    ·walk_at "v"
     refine r_ixT ha (atI_nat (int_at (by rw [ll7 r hr];exact hp))) ?_
     walk_at "w"
     exact kt _ (Same.refl _)
    ·walk_at "w"
     exact kc
    have l11':ys11.length=(Mth.left1 p sL rest).length:=r11.length.symm
    refine r_cat (s11 _ _ m10) m11 (by simp;lia) fun p12 H12 n12 s12 m12=>?_
    have s912:=(s10.trans s11).trans s12
    have s612:=(s68.trans s9).trans s912
    have m912:=s912 _ _ m9
    have ne:p12≠p9:=fun z=>by
     have:=(s10.trans s11) _ _ m9
     rw [← z,n12] at this
     cases this
    walk_at "w"
    refine⟨_,tmz,_,_,_,p12,p9,.ref aL::ys11,zs3++ys8,sL::Mth.left1 p sL rest,os++Mth.left0 p sL rest,rfl,⟨s36.trans s612,s36.new ((s68.trans s9).new ((s10.trans s11).new n12)),s36.new (s68.new n9),ne,m12,m912,.cons (s612.at haL6) (r11.same s12),(r46.same s612).append (r8.same (s9.trans s912)),tPI,hE.trans tE,by simp;lia,fun v hv=>?_⟩,rfl⟩
    rcases List.mem_cons.mp hv with rfl|hv
    ·exact hMp _ (mq _ (.head _))
    ·obtain ⟨u,hu,rfl⟩:=List.mem_map.mp (List.mem_filter.mp hv).1
     exact Nat.le_trans (Nat.le_of_lt (Mth.low1_lt (lrs u hu) lsL hsn)) (hMp _ (mq _ (.head _)))
   ·exact kn _ _ ⟨o4,o5,o6,l3,l4,ys3,zs3,led,os,rfl,⟨s3,n3,n4,ne34,e3,e4,r3,r4,hPI,hE,hlen,hMp⟩,by have:=of_decide_eq_false hc;lia⟩
  obtain ⟨o4,o5,o6,l3,l4,ys3,zs3,led,os,rfl,⟨s3,n3,n4,ne34,e3,e4,r3,r4,hPI,hE,hlen,hMp⟩,h1⟩:=hP
  have hB:=hPI.bd hA0
  walk_at "w"
  rename_i p5 H5 n5 s5 m5
  refine r_eqD (.lst (SqL.of (s5 _ _ e3)) (r3.same s5).tells) (.lst (SqL.of m5) .nil) (shaped_rows _) (shaped_rows []) ?_
  rw [show PyData.eqv (.list (led.map fun r=>.tuple (r.map PyData.int))) (.list [])=decide (led=[]) from eqv_listR led []]
  walk_at "w"
  refine if_both (fun h=>?_) (fun h=>?_)
  ·have h0:=of_decide_eq_true h
   subst h0
   walk_at "w"
   rename_i p6 H6 s6 m6
   have s56:=s5.trans s6
   exact k0 p6 l4 H6 zs3 os (s3.trans s56) (SqT.of m6) n4 (s56 _ _ e4) (r4.same s56) hPI.2.2.1 (fun v hv=>hPI.1 v hv) (fun v hv=>hB v hv) hE (by simpa using hlen)
  ·have h0:=of_decide_eq_false h
   match led,h1,h0,r3,hPI,hE,hlen,hMp,hB with
   | [s],_,_,r3,hPI,hE,hlen,hMp,hB =>
    obtain ⟨a,ys',rfl,ha,_⟩:=r3.uncons
    walk_at "w"
    refine r_ixL (SqL.of (s5 _ _ e3)) (atI_nat (j:=0) rfl) ?_
    walk_at "w"
    rename_i p6 H6 s6 m6
    have s56:=s5.trans s6
    exact k1 p6 a l4 H6 zs3 os s (s3.trans s56) (SqT.of m6) (s56.at ha) n4 (s56 _ _ e4) (r4.same s56) (hPI.2.1 s (.head _)) (hMp s (.head _)) hPI.2.2.1 (fun v hv=>hPI.1 v hv) (fun v hv=>hB v hv) hE (by simp at hlen;lia)
theorem sc_law_steps:FnScope ["_law_rows","_law_found","_law_left","_law_place","_law_one"] ["_law_rows"] (defScope s_law_steps):=⟨rfl,rfl,rfl,by decide +kernel,rfl,by decide +kernel,by decide +kernel⟩
structure Os_law_steps (P:Program) (w:World) (K:PySem.W.Frag) (mg:Str→Option Value) (base:Heap) (G:Adr):Prop where
 law_gathered:Ok P w K mg base 34 "_law_gathered" ["_law_rows","_law_place"] (sp_law_gathered K)
set_option maxHeartbeats 4000000 in
theorem ok_law_steps (D:Def K mg "_law_steps" s_law_steps ["_law_rows"]) (T:Txt K mg G) (O:Os_law_steps P w K mg base G) (Y:base.NoSeer∧P.given.tree=none):Ok P w K mg base 35 "_law_steps" ["_law_rows"] (sp_law_steps K):=by
 have S:=sc_law_steps
 refine D.ok S (fun vs H Q E h=>?_) (fun f cdv A outer s H vs Q E hr h=>?_)
 ·obtain ⟨l,b,xs,rs,rfl,hl,hrs,h64,hln,hbd,hb5,k⟩:=h;rfl
 ·obtain ⟨l,b,xs,rs,rfl,hl,hrs,h64,hln,hbd,hb5,k⟩:=h
  have hu:=hu_of hr
  have q_ONE:=T.q_ONE
  refine⟨_,(pss_cons (ps_set (i:=1) S.nd rfl (Or.inl rfl) (pe_lst pa_nil)) (pss_cons (ps_set (i:=2) S.nd rfl (Or.inl rfl) (pe_callTy (kN_list K rfl) rfl T.b_list PyProof.Rows.boot_list (pa_cons (pv 0) pa_nil))) (pss_cons (ps_for PassesOwn.never rfl (kpi_tup K rfl (pe_tup (pa_cons pe_int (pa_cons pe_int (pa_cons pe_int (pa_cons pe_int (pa_cons pe_int pa_nil))))))) (pg_name (i:=3) S.nd rfl (Or.inl rfl)) (pss_cons (ps_asg (pcall O.law_gathered (hr.mono (by decide)) (pa_cons (pv 2) (pa_cons (pv 3) pa_nil))) (kpg_tup (n:=2) K rfl rfl (pgs_cons (pg_name (i:=4) S.nd rfl (Or.inl rfl)) (pgs_cons (pg_name (i:=2) S.nd rfl (Or.inl rfl)) pgs_nil)))) (pss_one (ps_if (pt_cmpR op_notN (pv 4) pe_non (nomark _)) (pss_one (ps_expr (pe_bm PySem.F.plainAttrs_list PySem.F.slot_list_append PySem.F.type_list_append mt_append (pv 1) (@pa_cons _ _ _ _ _ (@pe_tup _ _ _ _ _ (pa_cons (pv 3) (pa_cons (pv 4) pa_nil))) pa_nil (by rfl))))) pss_nil)))) (pss_one (ps_ret (pv 1)))))),?_⟩
  walk_at "w"
  rename_i lf H1 n1 s1 m1 ll H2 n2 s2 m2 pt H3 s3 m3
  have s13:=(s1.trans s2).trans s3
  have ne12:lf≠ll:=fun z=>by rw [← z,m1] at n2;cases n2
  refine f_invT (K:=K) (xs:=[.int 4,.int 3,.int 2,.int 1,.int 0]) (fun i σ' H'=>∃ (o3 o4:Option V) (ll:Addr) (ys zs:List V) (ps:List (Nat×List Int)) (os:List (List Int)),σ'=[some (.ref l),some (.ref lf),some (.ref ll),o3,o4]∧Same H H'∧SqT K H' pt [.int 4,.int 3,.int 2,.int 1,.int 0]∧lf≠ll∧H' lf=some (.lst ys)∧H' ll=some (.lst zs)∧PlL K H' ys ps∧RowsL K H' zs os∧StI b rs i ps os) ⟨_,_,ll,[],xs,[],rs,rfl,s13,SqT.of m3,ne12,(s2.trans s3) _ _ m1,s3 _ _ m2,.nil,hrs.same s13,StI.start hln hbd⟩ (fun i σ' H' hP=>by obtain ⟨_,_,_,_,_,_,_,rfl,_,h,_⟩:=hP;exact h) (fun i x σ' H' hx hP=>?_) (fun σ' H' hP=>?_)
  ·obtain ⟨o3,o4,ll,ys,zs,ps,os,rfl,sH,hpt,ne,ef,el,hps,hos,hI⟩:=hP
   have hi:i<5:=(List.getElem?_eq_some_iff.mp hx).1
   obtain ⟨p,hp⟩:∃ p:Nat,p+i+1=5:=⟨4 - i,by lia⟩
   have hxp:x=.int (p:Int):=by
    rcases (show i=0∨i=1∨i=2∨i=3∨i=4 by lia) with rfl|rfl|rfl|rfl|rfl <;> cases hx <;> (obtain rfl:p=_:=by (first|exact (show p=4 by lia)|exact (show p=3 by lia)|exact (show p=2 by lia)|exact (show p=1 by lia)|exact (show p=0 by lia))) <;> rfl
   subst hxp
   have hc:=hI.c
   have hg:=gs_le b (show i+1≤5 by lia)
   have lps:=hps.length
   have hcp:=hI.cp
   walk_at "w"
   refine c_law_gathered (p:=p) (n:=5) (M:=2 ^ Mth.gs b i) (A:=2 ^ Mth.gs b i) (k:=Mth.gs b (i+1)) ⟨SqL.of el,hos,by lia,hI.len,by decide,by lia,hI.bo,fun v hv=>hI.bo v hv p,Nat.two_pow_pos _,Mth.gs_step b i,by lia⟩ (fun t l2 H4 zs4 os4 s4 mt n4 m4 r4 z4 len4 b4 e4 c4=>?_) (fun t a l2 H4 zs4 os4 s s4 mt ha n4 m4 r4 sn sA z4 len4 b4 e4 c4=>?_)
   ·have ne4:lf≠l2:=fun z=>by rw [← z,ef] at n4;cases n4
    walk_at "w"
    refine r_gtup2 mt ?_
    walk_at "w"
    refine⟨rfl,?_⟩
    walk_at "w"
    refine if_ff rfl ?_
    walk_at "w"
    exact⟨_,_,l2,ys,zs4,ps,os4,rfl,sH.trans s4,s4.at hpt,ne4,s4 _ _ ef,m4,hps.same s4,r4,hI.none hp e4 z4 len4 b4 c4⟩
   ·have ne4:lf≠l2:=fun z=>by rw [← z,ef] at n4;cases n4
    walk_at "w"
    refine r_gtup2 mt ?_
    walk_at "w"
    refine⟨rfl,?_⟩
    walk_at "w"
    refine if_tt rfl ?_
    walk_at "w"
    rename_i p5 H5 s5 m5
    have s45:=s4.trans s5
    have ef5:=s45 _ _ ef
    refine r_append ef5 (by lia) ?_
    exact⟨_,_,l2,ys++[.ref p5],zs4,ps++[(p,s)],os4,rfl,(sH.trans s45).upd_old n1,upd_sqT (s45.at hpt) ef5,ne4,upd_same,by rw [upd_ne (Ne.symm ne4)];exact s5 _ _ m4,((hps.same s45).snoc (SqT.of m5) (s5.at ha)).off ef5,(r4.same s5).off ef5,hI.one hp e4 sn z4 len4 b4 c4⟩
  obtain ⟨o3,o4,ll,ys,zs,ps,os,rfl,sH,hpt,ne,ef,el,hps,hos,hI⟩:=hP
  have hI:StI b rs 5 ps os:=hI
  walk_at "w"
  exact k lf H' ys ps n1 sH ef hps hI.fol hI.cp hI.all hI.bp
theorem sc_law_is_made:FnScope ["_law_steps_here","_law_row","_law_place","_law_one"] ["_law_steps_here","_law_row"] (defScope s_law_is_made):=⟨rfl,rfl,rfl,by decide +kernel,rfl,by decide +kernel,by decide +kernel⟩
structure Os_law_is_made (P:Program) (w:World) (K:PySem.W.Frag) (mg:Str→Option Value) (base:Heap) (G:Adr):Prop where
 law_plus:Ok P w K mg base 1 "_law_plus" ["_law_one","_law_q","_law_other"] (sp_law_plus K)
set_option maxHeartbeats 4000000 in
theorem ok_law_is_made (D:Def K mg "_law_is_made" s_law_is_made ["_law_steps_here","_law_row"]) (T:Txt K mg G) (O:Os_law_is_made P w K mg base G) (Y:base.NoSeer∧P.given.tree=none):Ok P w K mg base 34 "_law_is_made" ["_law_steps_here","_law_row"] (sp_law_is_made K):=by
 have S:=sc_law_is_made
 refine D.ok S (fun vs H Q E h=>?_) (fun f cdv A outer s H vs Q E hr h=>?_)
 ·obtain ⟨l,a,B,C,xs,ps,v,rfl,hl,hps,hF,h5,hbd,ha,lv,hbv,hBC,k⟩:=h;rfl
 ·obtain ⟨l,a,B,C,xs,ps,v,rfl,hl,hps,hF,h5,hbd,ha,lv,hbv,hBC,k⟩:=h
  have hu:=hu_of hr
  have q_ONE:=T.q_ONE
  refine⟨_,(pss_cons (ps_for PassesOwn.never rfl (kpi_list K rfl (pv 0)) (kpg_tup (n:=2) K rfl rfl (pgs_cons (pg_name (i:=2) S.nd rfl (Or.inl rfl)) (pgs_cons (pg_name (i:=3) S.nd rfl (Or.inl rfl)) pgs_nil))) (pss_cons (ps_if (pt_cmpR op_ne (pe_op op_modN (pe_ix (kx_seq K rfl) (pv 1) (pv 2) (fun _ _=>rfl)) (pe_ix (kx_seq K rfl) (pv 3) (pv 2) (fun _ _=>rfl))) pe_int (nomark _)) (pss_one (ps_ret pe_bl)) pss_nil) (pss_one (ps_set (i:=1) S.nd rfl (Or.inl rfl) (pcall O.law_plus (hr.mono (by decide)) (pa_cons (pv 1) (pa_cons (pe_un un_neg (pe_op (op_fdivP Y rfl rfl rfl rfl rfl (hr.mono (by decide))) (pe_ix (kx_seq K rfl) (pv 1) (pv 2) (fun _ _=>rfl)) (pe_ix (kx_seq K rfl) (pv 3) (pv 2) (fun _ _=>rfl)))) (pa_cons (pv 3) pa_nil)))))))) (pss_one (ps_ret (pe_cmpR (kop_eqD K rfl hr.units) (pv 1) (pe_tup (pa_cons pe_int (pa_cons pe_int (pa_cons pe_int (pa_cons pe_int (pa_cons pe_int pa_nil)))))) (nomark _))))),?_⟩
  have lps:=hps.length
  walk_at "w"
  refine f_invL (xs:=xs) (fun i σ' H'=>∃ (o2 o3:Option V) (a':Addr) (u:List Int),σ'=[some (.ref l),some (.ref a'),o2,o3]∧Same H H'∧SqT K H' a' (u.map V.int)∧u.length=5∧Mth.BdM (2 ^ (C+i*(B+1))) u∧(Mth.Span 5 (ps.map Prod.snd) v↔Mth.Span 5 ((ps.drop i).map Prod.snd) u)) ⟨_,_,a,v,rfl,Same.refl _,ha,lv,by simpa using hbv,Iff.rfl⟩ (fun i σ' H' hP=>by obtain ⟨_,_,_,_,rfl,s,_⟩:=hP;exact s.seq hl) (fun i x σ' H' hx hP=>?_) (fun σ' H' hP=>?_)
  ·obtain ⟨o2,o3,a',u,rfl,sH,ha',lu,hbu,hiff⟩:=hP
   obtain ⟨q,c,p,rfl,hq,hc,hi⟩:=hps.get hx
   have hil:i<ps.length:=(List.getElem?_eq_some_iff.mp hi).1
   have hd:ps.drop i=p::ps.drop (i+1):=Mth.drop_get hi
   have hFd:Fol (p::ps.drop (i+1)):=by rw [← hd];exact hF.drop i
   obtain ⟨lp,p5,p0⟩:=hFd.1 p (.head _)
   have hqH:=sH.at hq
   have hcH:=sH.at hc
   rw [hd] at hiff
   have hst:=hFd.step lu
   have hbp:=hbd p (List.mem_of_getElem? hi)
   have hX:C+i*(B+1)≤60000000:=by
    have:i*(B+1)≤6*(B+1):=Nat.mul_le_mul_right _ (by lia)
    lia
   refine r_gtup2 hqH ?_
   walk_at "v"
   refine r_ixT ha' (atI_nat (int_at (by lia))) ?_
   walk_at "v"
   refine r_ixT hcH (atI_nat (int_at (by lia))) ?_
   walk_at "v"
   refine if_both (fun h=>?_) (fun h=>?_)
   ·walk_at "w"
    refine k false H' sH ⟨(fun z=>nomatch z),fun z=>?_⟩
    have h1:=(hst.mp (hiff.mp z)).1
    have h2:(u.getD p.1 0).fmod (p.2.getD p.1 0)=0:=Int.fmod_eq_zero_of_dvd h1
    rw [h2] at h
    cases h
   ·have h2:(u.getD p.1 0).fmod (p.2.getD p.1 0)=0:=by
     have h':(!decide ((u.getD p.1 0).fmod (p.2.getD p.1 0)=0))=false:=h
     simpa using h'
    have hdv:p.2.getD p.1 0 ∣ u.getD p.1 0:=Int.dvd_of_fmod_eq_zero h2
    walk_at "v"
    refine r_ixT ha' (atI_nat (int_at (by lia))) ?_
    walk_at "v"
    refine r_ixT hcH (atI_nat (int_at (by lia))) ?_
    walk_at "w"
    have hqb:((u.getD p.1 0).fdiv (p.2.getD p.1 0)).natAbs≤2 ^ (C+i*(B+1)):=Nat.le_trans (Mth.fdiv_le _ p0) (hbu p.1)
    refine c_law_plusX (n:=-((u.getD p.1 0).fdiv (p.2.getD p.1 0))) u p.2 ha' hcH (by rw [lu,lp]) (by lia) (fun y hy=>.inr ?_) fun p8 H8 s8 m8=>?_
    ·have b1:bitsI (-((u.getD p.1 0).fdiv (p.2.getD p.1 0)))≤60000001:=by
      rw [Mth.bits_bl]
      refine Mth.bl_le ?_
      rw [Int.natAbs_neg]
      exact Nat.lt_of_le_of_lt hqb (Nat.pow_lt_pow_right (by decide) (by lia))
     have b2:bitsI y≤60000001:=by
      rw [Mth.bits_bl]
      exact Mth.bl_le (Nat.lt_of_le_of_lt (mem_bd hbp hy) (Nat.pow_lt_pow_right (by decide) (by lia)))
     unfold CMulW
     lia
    rw [withv_low1 lu lp] at m8
    refine⟨_,_,p8,_,rfl,sH.trans s8,m8,Mth.low1_len lu lp,?_,hiff.trans (hst.trans ⟨fun z=>z.2,fun z=>⟨hdv,z⟩⟩)⟩
    refine (Mth.low_bdX lu lp hbu hbp hqb).mono (Nat.pow_le_pow_right (by decide) ?_)
    rw [Nat.add_mul,Nat.one_mul]
    lia
  obtain ⟨o2,o3,a',u,rfl,sH,ha',lu,hbu,hiff⟩:=hP
  rw [← lps,List.drop_length] at hiff
  walk_at "w"
  rename_i p9 H9 s9 m9
  refine r_eqD (Tell.row (s9.at ha')) (Tell.row (r:=[0,0,0,0,0]) (SqT.of m9)) (shaped_row _) (shaped_row _) ?_
  rw [eqv_row]
  refine k _ _ (sH.trans s9) ⟨fun z=>?_,fun z=>decide_eq_true ?_⟩
  ·have e:=of_decide_eq_true z
   rw [hiff,e]
   exact Mth.Span.zero
  ·exact (hiff.mp z).none
theorem sc_law_divisor:FnScope ["_law_one","_law_other","_law_left"] ["_law_one","_law_other"] (defScope s_law_divisor):=⟨rfl,rfl,rfl,by decide +kernel,rfl,by decide +kernel,by decide +kernel⟩
theorem ok_law_divisor (D:Def K mg "_law_divisor" s_law_divisor ["_law_one","_law_other"]) (T:Txt K mg G) (Y:base.NoSeer∧P.given.tree=none):Ok P w K mg base 1 "_law_divisor" ["_law_one","_law_other"] (sp_law_divisor K):=by
 have S:=sc_law_divisor
 refine D.ok S (fun vs H Q E h=>?_) (fun f cdv A outer s H vs Q E hr h=>?_)
 ·obtain ⟨x,y,rfl,k⟩:=h;rfl
 ·obtain ⟨x,y,rfl,k⟩:=h
  have hu:=hu_of hr
  have q_ONE:=T.q_ONE
  refine⟨_,(pss_cons (ps_while PassesOwn.never (pt_cmpR op_ne (pv 1) pe_int (nomark _)) (pss_cons (ps_set (i:=2) S.nd rfl (Or.inl rfl) (pe_op op_modN (pv 0) (pv 1))) (pss_cons (ps_set (i:=0) S.nd rfl (Or.inl rfl) (pv 1)) (pss_one (ps_set (i:=1) S.nd rfl (Or.inl rfl) (pv 2)))))) (pss_one (ps_ret (pe_callB callN_abs rfl T.b_abs PyProof.Rows.boot_abs (pa_cons (pv 0) pa_nil))))),?_⟩
  walk_at "w"
  refine f_while (fun m σ' H'=>∃ (p q:Int) (o:Option V),σ'=[some (.int p),some (.int q),o]∧H'=H∧m=q.natAbs∧Int.gcd p q=Int.gcd x y) y.natAbs ⟨x,y,_,rfl,rfl,rfl,rfl⟩ (fun m σ' H' hw=>?_)
  obtain ⟨p,q,o,rfl,rfl,rfl,hg⟩:=hw
  walk_at "w"
  refine if_both (fun hc=>?_) (fun hc=>?_)
  ·have hq:q≠0:=by simpa using hc
   refine w_go ?_
   walk_at "w"
   exact⟨(p.fmod q).natAbs,(Mth.fm_bd p hq).1,q,p.fmod q,_,rfl,rfl,rfl,by rw [Mth.gcd_fm];exact hg⟩
  ·have hq:q=0:=by simpa using hc
   subst hq
   walk_at "w"
   have e:(if p<0 then -p else p)=((Int.gcd x y:Nat):Int):=by
    rw [← hg,Int.gcd_zero_right]
    split <;> lia
   rw [e]
   exact k
theorem sc_law_lost:FnScope ["_law_keys","_law_rows","_law_w","_law_circle","_law_heard","_law_one","_law_left"] ["_law_keys"] (defScope s_law_lost):=⟨rfl,rfl,rfl,by decide +kernel,rfl,by decide +kernel,by decide +kernel⟩
structure Os_law_lost (P:Program) (w:World) (K:PySem.W.Frag) (mg:Str→Option Value) (base:Heap) (G:Adr):Prop where
 law_plus:Ok P w K mg base 1 "_law_plus" ["_law_one","_law_q","_law_other"] (sp_law_plus K)
 law_gathered:Ok P w K mg base 34 "_law_gathered" ["_law_rows","_law_place"] (sp_law_gathered K)
 law_divisor:Ok P w K mg base 1 "_law_divisor" ["_law_one","_law_other"] (sp_law_divisor K)
set_option maxHeartbeats 8000000 in
theorem ok_law_lost (D:Def K mg "_law_lost" s_law_lost ["_law_keys"]) (T:Txt K mg G) (O:Os_law_lost P w K mg base G) (Y:base.NoSeer∧P.given.tree=none):Ok P w K mg base 67 "_law_lost" ["_law_keys"] (sp_law_lost K):=by
 have S:=sc_law_lost
 refine D.ok S (fun vs H Q E h=>?_) (fun f cdv A outer s H vs Q E hr h=>?_)
 ·obtain ⟨l,xs,ks,rfl,hl,hk,h6,hg,k⟩:=h;rfl
 ·obtain ⟨l,xs,ks,rfl,hl,hk,h6,hg,k⟩:=h
  have hu:=hu_of hr
  have q_ONE:=T.q_ONE
  refine⟨_,(pss_cons (ps_setCK (k:=1) (N:=["_law_j"]) (ix:=[none]) S.nd rfl (Or.inl rfl) rfl (pi_range1 rfl T.b_range (pa_cons pe_int pa_nil)) (fun _ _ _ _ _=>(pg_name (i:=0) (show List.Nodup (["_law_j"]:List Str) by decide +kernel) rfl (Or.inr rfl))) (fun _ _ _ _ _=>rfl) (fun _ _ _ _ _=>(pe_callTy (kN_tuple K rfl) rfl T.b_tuple PyProof.Rows.boot_tuple (pa_cons (pe_comp (N:=["_law_k","_law_j"]) (ix:=[none,some 0]) rfl (pi_range1 rfl T.b_range (pa_cons pe_int pa_nil)) (fun _ _ _ _ _=>(pg_name (i:=0) (show List.Nodup (["_law_k","_law_j"]:List Str) by decide +kernel) rfl (Or.inl rfl))) (fun _ _ _ _ _=>rfl) (fun _ _ _ _ _=>(pe_callTy callN_int rfl T.b_int PyProof.Rows.boot_int (pa_cons (pe_cmpR op_eq (pv 0) (pv 1) (nomark _)) pa_nil))) rfl (by decide +kernel) (by decide +kernel) rfl ⟨⟨rfl,Or.inr (Or.inl rfl),rfl,rfl⟩,True.intro⟩) pa_nil))) rfl (by decide +kernel) (by decide +kernel) rfl) (pss_cons (ps_for PassesOwn.never rfl (kpi_list K rfl (pv 0)) (kpg_tup (n:=2) K rfl rfl (pgs_cons (pg_name (i:=2) S.nd rfl (Or.inr rfl)) (pgs_cons (pg_name (i:=3) S.nd rfl (Or.inl rfl)) pgs_nil))) (pss_cons (ps_setC (k:=4) (N:=["_law_row","_law_w"]) (ix:=[none,some 2]) S.nd rfl (Or.inl rfl) rfl (kpi_list K rfl (pv 1)) (fun _ _ _ _ _=>(pg_name (i:=0) (show List.Nodup (["_law_row","_law_w"]:List Str) by decide +kernel) rfl (Or.inl rfl))) (fun _ _ _ _ _=>rfl) (fun _ _ _ _ _=>(pe_op (kop_catT K rfl) (pv 0) (pe_tup (pa_cons (pe_callB (kN_sum K rfl rfl) rfl T.b_sum PyProof.Rows.boot_sum (pa_cons (pe_comp (N:=["_law_a","_law_b"]) (ix:=[none,none]) rfl (kpi_zip2 K rfl true true rfl T.b_zip (pa_cons (pv 1) (pa_cons (pv 0) pa_nil))) (fun _ _ _ _ _=>(kpg_tup (n:=2) K rfl rfl (pgs_cons (pg_name (i:=0) (show List.Nodup (["_law_a","_law_b"]:List Str) by decide +kernel) rfl (Or.inl rfl)) (pgs_cons (pg_name (i:=1) (show List.Nodup (["_law_a","_law_b"]:List Str) by decide +kernel) rfl (Or.inl rfl)) pgs_nil)))) (fun _ _ _ _ _=>rfl) (fun _ _ _ _ _=>(pe_op op_mulB (pv 0) (pv 1))) rfl (by decide +kernel) (by decide +kernel) rfl True.intro) pa_nil)) pa_nil)))) rfl (by decide +kernel) (by decide +kernel) rfl ⟨⟨rfl,Or.inr (Or.inl rfl),rfl,rfl⟩,True.intro⟩) (pss_cons (ps_asg (pcall O.law_gathered (hr.mono (by decide)) (pa_cons (pv 4) (pa_cons pe_int pa_nil))) (kpg_tup (n:=2) K rfl rfl (pgs_cons (pg_name (i:=5) S.nd rfl (Or.inl rfl)) (pgs_cons (pg_name (i:=6) S.nd rfl (Or.inl rfl)) pgs_nil)))) (pss_cons (ps_if (PW.pt (pw_and (pt_cmpR op_notN (pv 5) pe_non (nomark _)) (pw_and1 (pt_cmpR op_ne (pv 3) pe_int (nomark _))))) (pss_one (ps_expr (pe_bm PySem.F.plainAttrs_list PySem.F.slot_list_append PySem.F.type_list_append mt_append (pv 6) (pa_cons (pcall O.law_plus (hr.mono (by decide)) (@pa_cons _ _ _ _ _ (@pe_tup _ _ _ _ _ (pa_cons pe_int (pa_cons pe_int (pa_cons pe_int (pa_cons pe_int (pa_cons pe_int pa_nil)))))) (@pa_cons _ _ _ _ _ (pe_op (op_fdivP Y rfl rfl rfl rfl rfl (hr.mono (by decide))) (pv 3) (pcall O.law_divisor (hr.mono (by decide)) (pa_cons (pv 3) (pa_cons (pe_ix (kx_seq K rfl) (pv 5) pe_int (fun _ _=>rfl)) pa_nil)))) (@pa_cons _ _ _ _ _ (pv 5) pa_nil (by rfl)) (by rfl)) (by rfl))) pa_nil)))) pss_nil) (pss_one (ps_setC (k:=1) (N:=["_law_row"]) (ix:=[none]) S.nd rfl (Or.inl rfl) rfl (kpi_list K rfl (pv 6)) (fun _ _ _ _ _=>(pg_name (i:=0) (show List.Nodup (["_law_row"]:List Str) by decide +kernel) rfl (Or.inl rfl))) (fun _ _ _ _ _=>rfl) (fun _ _ _ _ _=>(pe_slice (ksl_tupV K rfl) (pv 0) po_none (po_some pe_int))) rfl (by decide +kernel) (by decide +kernel) rfl True.intro)))))) (pss_one (ps_ret (pv 1))))),?_⟩
  have lk:=hk.length
  walk_at "w"
  refine rd_rangeRowsX (K:=K) (n:=5) [] (fun i=>Mth.unitv i 5) rfl (by decide) (fun i H' Qc hi s kc=>?_) (fun l1 H1 xs1 n1 s1 m1 r1=>?_)
  ·walk_at "w"
   refine rd_range (n:=5) (fun x=>.int (if x=(i:Int) then 1 else 0)) [some (.int i)] rfl (by decide) (fun x H'' Qd hx s' kd=>?_) (fun l H3 hl s3 m3=>?_)
   ·walk_at "w"
    have:=kd _ (Same.refl _)
    by_cases h:x=(i:Int)
    ·rw [if_pos h] at this
     rw [decide_eq_true h]
     exact this
    ·rw [if_neg h] at this
     rw [decide_eq_false h]
     exact this
   have e:(List.range 5).map (fun (j:Nat)=>V.int (if (j:Int)=(i:Int) then 1 else 0))=(Mth.unitv i 5).map V.int:=by
    rw [Mth.unitv,List.map_map]
    refine List.map_congr_left fun j _=>?_
    simp only [Function.comp_apply,Int.ofNat_inj]
   rw [e] at m3
   walk_at "w"
   rename_i p2 H2 s2 m2
   exact kc _ _ (s3.trans s2) (SqT.of m2)
  have eu:(List.range 5).map (fun i=>Mth.unitv i 5)=Mth.units5:=by decide
  rw [eu] at r1
  walk_at "w"
  refine f_invL (xs:=xs) (fun i σ Hn=>∃ (o2 o3 o4 o5 o6:Option V) (lf:Addr) (ys:List V) (st:List (List Int)),σ=[some (.ref l),some (.ref lf),o2,o3,o4,o5,o6]∧H lf=none∧Same H Hn∧Hn lf=some (.lst ys)∧RowsL K Hn ys st∧LoR (ks.take i) st) ⟨_,_,_,_,_,l1,xs1,_,rfl,n1,s1,m1,r1,LoR.start⟩ (fun i σ Hn hp=>by obtain ⟨_,_,_,_,_,_,_,_,rfl,_,sn,_⟩:=hp;exact sn.seq hl) (fun i x σ Hn hx hp=>?_) (fun σ Hn hp=>?_)
  ·obtain ⟨o2,o3,o4,o5,o6,lf,ys,st,rfl,nf,sn,mf,rf,hL⟩:=hp
   obtain ⟨a,w,kk,rfl,h1,h2,h3⟩:=hk.get hx
   have hik:i<ks.length:=(List.getElem?_eq_some_iff.mp h3).1
   obtain ⟨q1,q2,q3,q4⟩:=hg kk (List.mem_of_getElem? h3)
   have lti:(ks.take i).length=i:=by rw [List.length_take];lia
   have hll:ll i≤ll 5:=ll_le (by lia)
   have hll5:ll 5=11132:=rfl
   have ls:=rf.length
   have hst5:=hL.c
   have hbd:∀ v∈st,Mth.BdM (2 ^ ll i) v:=fun v hv=>by have:=hL.bd v hv;rwa [lti] at this
   have hb25:(2:Nat) ^ ll i≤2 ^ (ll i+25):=Nat.pow_le_pow_right (by decide) (by lia)
   have hdb:∀ v∈st,(Mth.dt v kk.1).natAbs≤2 ^ (ll i+25):=fun v hv=>by
    have:=Mth.dt_bits (hL.len v hv) q1 (hbd v hv) q2
    rwa [show 22+ll i+3=ll i+25 by lia] at this
   refine r_gtup2 (sn.at h1) ?_
   walk_at "w"
   have hw2:=sn.at h2
   refine rd_mapRows [some (.ref w)] (Mth.hdv kk.1) rfl (SqL.of mf) rf (by lia) (fun a r H' Qc hr s ha kc=>?_) (fun l2 H2 ys2 n2 s2 m2 r2=>?_)
   ·have lr5:=hL.len r hr
    walk_at "w"
    refine rd_zipM (r:=kk.1) (q:=r) rfl (sqt_sq (s.at hw2)) (sqt_sq ha) (by lia) (by lia) (Few.mul (fewB (b:=400000) q2 (by lia)) (fewB (b:=50001) (hbd r hr) (by lia)) (by decide) (by lia)) fun l3 H3 n3 s3 m3=>?_
    have ed:(List.zipWith (·*·) kk.1 r).sum=Mth.dt r kk.1:=Mth.dt_comm kk.1 r
    walk_at "w"
    refine r_sum (SqL.of m3) ?_
    rw [ed]
    walk_at "w"
    rename_i p4 H4 s4 m4
    refine r_catT ((s3.trans s4).at ha) (SqT.of m4) (fun z=>by rw [List.map_eq_nil_iff] at z;rw [z] at lr5;simp at lr5) (by simp) (by simp;lia) fun p5 H5 s5 m5=>?_
    refine kc p5 H5 ((s3.trans s4).trans s5) ?_
    rw [Mth.hdv,List.map_append]
    exact SqT.of m5
   have lh:Mth.Len 6 (st.map (Mth.hdv kk.1)):=fun v hv=>by
    obtain ⟨r,hr,rfl⟩:=List.mem_map.mp hv
    exact Mth.hdv_len (hL.len r hr)
   have hbh:∀ v∈st.map (Mth.hdv kk.1),Mth.BdM (2 ^ (ll i+25)) v:=fun v hv=>by
    obtain ⟨r,hr,rfl⟩:=List.mem_map.mp hv
    exact Mth.app_bd ((hbd r hr).mono hb25) (bd_mem fun x hx=>by rw [List.mem_singleton.mp hx];exact hdb r hr)
   have lmap:(st.map (Mth.hdv kk.1)).length=st.length:=List.length_map ..
   have etk:ks.take (i+1)=ks.take i++[(kk.1,kk.2)]:=Mth.take_snoc h3
   have h78:(2:Nat) ^ (3*ll i+78)≤2 ^ (3*ll (ks.take i).length+92):=by rw [lti];exact Nat.pow_le_pow_right (by decide) (by lia)
   have s0:=sn.trans s2
   walk_at "w"
   refine c_law_gathered (p:=5) (n:=6) (M:=2 ^ (ll i+25)) (A:=2 ^ (ll i+25)) (k:=3*ll i+78) ⟨SqL.of m2,r2,by lia,lh,by decide,by decide,hbh,fun v hv=>hbh v hv 5,Nat.two_pow_pos _,six3 (ll i),by lia⟩ (fun t l4 H4 zs4 os s4 mt n4 m4 r4 z4 len4 b4 e4 c4=>?_) (fun t a l4 H4 zs4 os s s4 mt ha n4 m4 r4 sne sA z4 len4 b4 e4 c4=>?_)
   ·rw [lmap] at c4
    have lz4:=r4.length
    have hLq:LoR (ks.take (i+1)) (os.map (List.take 5)):=by
     rw [etk]
     refine hL.next (fun v hv=>?_) (by rw [List.length_map];exact c4) (Mth.lost_none q1 hL.len e4 len4 z4) (Mth.lost_free q1 hL.len hL.fr e4 len4 c4) (fun v hv=>?_)
     ·obtain ⟨u,hu,rfl⟩:=List.mem_map.mp hv
      rw [List.length_take,len4 u hu];rfl
     ·obtain ⟨u,hu,rfl⟩:=List.mem_map.mp hv
      exact (take_bd (b4 u hu)).mono (Nat.le_trans (Nat.le_of_lt (six3 _)) h78)
    have sq:=s0.trans s4
    walk_at "w"
    refine r_gtup2 mt ?_
    walk_at "w"
    refine⟨rfl,?_⟩
    walk_at "w"
    refine if_ff rfl ?_
    walk_at "w"
    refine if_ff rfl ?_
    walk_at "w"
    refine rd_mapRows [] (List.take 5) rfl (SqL.of m4) (r4) (by lia) (fun a r H' Qc hr s ha kc=>?_) (fun l8 H8 ys8 n8 s8 m8 r8=>?_)
    ·walk_at "w"
     refine r_slV ha fun p5 H5 s5 m5=>?_
     rw [show (some (5:Int))=some ((5:Nat):Int) from rfl,cutV_hi,← List.map_take] at m5
     exact kc p5 H5 s5 m5
    exact⟨_,_,_,_,_,l8,ys8,_,rfl,sq.new n8,sq.trans s8,m8,r8,hLq⟩
   ·rw [lmap] at c4
    have lz4:=r4.length
    have lo4:Mth.Len 6 os:=fun v hv=>len4 v (.tail _ hv)
    have ls6:s.length=6:=len4 s (.head _)
    have l55:(s.take 5).length=5:=by rw [List.length_take,ls6];rfl
    have hfr:=Mth.lost_free q1 hL.len hL.fr e4 len4 (by rw [List.length_cons];exact c4)
    have sq:=s0.trans s4
    have hb5:∀ v∈(s::os),Mth.BdM (2 ^ (3*ll i+78)) (v.take 5):=fun v hv=>(take_bd (b4 v hv)).mono (Nat.le_of_lt (six3 _))
    walk_at "w"
    refine r_gtup2 mt ?_
    walk_at "w"
    refine⟨rfl,?_⟩
    walk_at "w"
    refine if_tt rfl ?_
    walk_at "w"
    refine if_both (fun hc=>?_) (fun hc=>?_)
    ·have hc0:kk.2≠0:=by simpa using hc
     have hg0:0<Int.gcd kk.2 (s.getD 5 0):=Int.gcd_pos_of_ne_zero_left _ hc0
     have hgn:((Int.gcd kk.2 (s.getD 5 0):Nat):Int)≠0:=by lia
     walk_at "w"
     rename_i p5 H5 s5 m5
     walk_at "v"
     refine r_ixT (s5.at ha) (atI_nat (j:=5) (int_at (by rw [ls6];decide))) ?_
     walk_at "w"
     refine c_law_divisor ?_
     walk_at "w"
     have hdv:kk.2.fdiv ((Int.gcd kk.2 (s.getD 5 0):Nat):Int)=kk.2 / ((Int.gcd kk.2 (s.getD 5 0):Nat):Int):=Int.fdiv_eq_ediv_of_nonneg _ (by lia)
     rw [hdv]
     have hcn:kk.2 / ((Int.gcd kk.2 (s.getD 5 0):Nat):Int)≠0:=fun z=>by
      have:=Int.mul_ediv_cancel' (Int.gcd_dvd_left kk.2 (s.getD 5 0))
      rw [z,Int.mul_zero] at this
      exact hc0 this.symm
     have hcb:(kk.2 / ((Int.gcd kk.2 (s.getD 5 0):Nat):Int)).natAbs≤2 ^ 14:=by
      have h1:=Int.ediv_nonneg q3 (show (0:Int)≤((Int.gcd kk.2 (s.getD 5 0):Nat):Int) by lia)
      have h2:=Int.ediv_le_self ((Int.gcd kk.2 (s.getD 5 0):Nat):Int) q3
      generalize kk.2 / ((Int.gcd kk.2 (s.getD 5 0):Nat):Int)=z at h1 h2 ⊢
      lia
     have hrp:=fun a=>Mth.ring_part (m:=kk.2) (s:=s.getD 5 0) hc0 a
     generalize kk.2 / ((Int.gcd kk.2 (s.getD 5 0):Nat):Int)=c at hcn hcb hrp ⊢
     refine c_law_plusT [0,0,0,0,0] s (SqT.of m5) (s5.at ha) (by rw [ls6];decide) (by decide) (fun y hy=>.inr ?_) fun p6 H6 s6 m6=>?_
     ·have b1:bitsI c≤15:=by
       rw [Mth.bits_bl]
       exact Mth.bl_le (Nat.lt_of_le_of_lt hcb (by decide))
      have b2:bitsI y≤3*ll i+78:=by
       rw [Mth.bits_bl]
       exact Mth.bl_le (Nat.lt_of_le_of_lt (mem_bd (b4 s (.head _)) hy) (six3 _))
      unfold CMulW
      lia
     rw [show List.length [(0:Int),0,0,0,0]=5 from rfl,withv_zer l55] at m6
     have s56:=s5.trans s6
     have e46:=s56 _ _ m4
     walk_at "w"
     refine r_append e46 (by lia) ?_
     have hLq:LoR (ks.take (i+1)) ((os++[Mth.mulv (s.take 5) c]).map (List.take 5)):=by
      have em:(os++[Mth.mulv (s.take 5) c]).map (List.take 5)=os.map (List.take 5)++[Mth.mulv (s.take 5) c]:=by
       rw [List.map_append,List.map_singleton,List.take_of_length_le (Nat.le_of_eq (Mth.mulv_len l55))]
      rw [etk,em]
      refine hL.next (fun v hv=>?_) (by rw [List.length_append,List.length_map,List.length_singleton];exact c4) (Mth.lost_key q1 hL.len e4 ls6 lo4 z4 sne (.inr ⟨rfl,hrp⟩)) (hfr.back hcn) (fun v hv=>?_)
      ·rcases List.mem_append.mp hv with z|z
       ·obtain ⟨u,hu,rfl⟩:=List.mem_map.mp z
        rw [List.length_take,lo4 u hu];rfl
       ·rw [List.mem_singleton.mp z]
        exact Mth.mulv_len l55
      ·rcases List.mem_append.mp hv with z|z
       ·obtain ⟨u,hu,rfl⟩:=List.mem_map.mp z
        exact (hb5 u (.tail _ hu)).mono h78
       ·rw [List.mem_singleton.mp z,lti]
        refine (mul_bdB (hb5 s (.head _)) hcb).mono ?_
        rw [← Nat.pow_add]
        exact Nat.pow_le_pow_right (by decide) (by lia)
     have sq7:Same H (upd H6 l4 (.lst (zs4++[.ref p6]))):=s0.trans ((s4.trans s56).upd_old n4)
     have m7:(upd H6 l4 (.lst (zs4++[.ref p6]))) l4=some (.lst (zs4++[.ref p6])):=upd_same
     have r7:RowsL K (upd H6 l4 (.lst (zs4++[.ref p6]))) (zs4++[.ref p6]) (os++[Mth.mulv (s.take 5) c]):=((r4.same s56).append (.cons m6 .nil)).off e46
     walk_at "w"
     refine rd_mapRows [] (List.take 5) rfl (SqL.of m7) (r7) (by rw [List.length_append,List.length_singleton];lia) (fun a r H' Qc hr s ha kc=>?_) (fun l8 H8 ys8 n8 s8 m8 r8=>?_)
     ·walk_at "w"
      refine r_slV ha fun p5 H5 s5 m5=>?_
      rw [show (some (5:Int))=some ((5:Nat):Int) from rfl,cutV_hi,← List.map_take] at m5
      exact kc p5 H5 s5 m5
     exact⟨_,_,_,_,_,l8,ys8,_,rfl,sq7.new n8,sq7.trans s8,m8,r8,hLq⟩
    ·have hc0:kk.2=0:=by simpa using hc
     have hLq:LoR (ks.take (i+1)) (os.map (List.take 5)):=by
      rw [etk]
      refine hL.next (fun v hv=>?_) (by rw [List.length_map];lia) (fun x=>by
       have:=Mth.lost_key (ts:=[]) (m:=kk.2) (c:=0) q1 hL.len e4 ls6 lo4 z4 sne (.inl ⟨hc0,rfl⟩) x
       rwa [List.append_nil] at this) hfr.tail (fun v hv=>?_)
      ·obtain ⟨u,hu,rfl⟩:=List.mem_map.mp hv
       rw [List.length_take,lo4 u hu];rfl
      ·obtain ⟨u,hu,rfl⟩:=List.mem_map.mp hv
       exact (hb5 u (.tail _ hu)).mono h78
     walk_at "w"
     refine rd_mapRows [] (List.take 5) rfl (SqL.of m4) (r4) (by lia) (fun a r H' Qc hr s ha kc=>?_) (fun l8 H8 ys8 n8 s8 m8 r8=>?_)
     ·walk_at "w"
      refine r_slV ha fun p5 H5 s5 m5=>?_
      rw [show (some (5:Int))=some ((5:Nat):Int) from rfl,cutV_hi,← List.map_take] at m5
      exact kc p5 H5 s5 m5
     exact⟨_,_,_,_,_,l8,ys8,_,rfl,sq.new n8,sq.trans s8,m8,r8,hLq⟩
  obtain ⟨o2,o3,o4,o5,o6,lf,ys,st,rfl,nf,sn,mf,rf,hL⟩:=hp
  rw [← lk,List.take_length] at hL
  walk_at "w"
  exact k lf Hn ys st nf sn mf rf hL
theorem sc_law_is_row:FnScope ["_law_found"] ["_law_found"] (defScope s_law_is_row):=⟨rfl,rfl,rfl,by decide +kernel,rfl,by decide +kernel,by decide +kernel⟩
theorem ok_law_is_row (D:Def K mg "_law_is_row" s_law_is_row ["_law_found"]) (T:Txt K mg G) (Y:base.NoSeer∧P.given.tree=none):Ok P w K mg base 1 "_law_is_row" ["_law_found"] (sp_law_is_row K):=by
 have S:=sc_law_is_row
 refine D.ok S (fun vs H Q E h=>?_) (fun f cdv A outer s H vs Q E hr h=>?_)
 ·obtain ⟨a,r,rfl,ha,hl,k⟩:=h;rfl
 ·obtain ⟨a,r,rfl,ha,hl,k⟩:=h
  have hu:=hu_of hr
  have q_ONE:=T.q_ONE
  refine⟨_,(pss_cons (ps_if (PW.pt (pw_or (pt_not (pt_val (pe_callB (kN_isinst K rfl) rfl T.b_isinstance PyProof.Rows.boot_isinstance (pa_cons (pv 0) (pa_cons (pe_bltn (v:=V.ty "tuple") rfl T.b_tuple PyProof.Rows.boot_tuple rfl) pa_nil))))) (pw_or1 (pt_cmpR op_ne (pe_callB (kN_len K rfl) rfl T.b_len PySem.boot_len (pa_cons (pv 0) pa_nil)) pe_int (nomark _))))) (pss_one (ps_ret pe_bl)) pss_nil) (pss_one (ps_ret (pe_callB (kN_all K rfl rfl) rfl T.b_all PyProof.Rows.boot_all (pa_cons (pe_comp (N:=["_law_number"]) (ix:=[none]) rfl (kpi_tup K rfl (pv 0)) (fun _ _ _ _ _=>(pg_name (i:=0) (show List.Nodup (["_law_number"]:List Str) by decide +kernel) rfl (Or.inl rfl))) (fun _ _ _ _ _=>rfl) (fun _ _ _ _ _=>(pe_and (pe_callB (kN_isinst K rfl) rfl T.b_isinstance PyProof.Rows.boot_isinstance (pa_cons (pv 0) (pa_cons (pe_bltn (v:=V.ty "int") rfl T.b_int PyProof.Rows.boot_int rfl) pa_nil))) (pe_one (pe_not (pe_callB (kN_isinst K rfl) rfl T.b_isinstance PyProof.Rows.boot_isinstance (pa_cons (pv 0) (pa_cons (pe_bltn (v:=V.ty "bool") rfl T.b_bool PyProof.Rows.boot_bool rfl) pa_nil))))))) rfl (by decide +kernel) (by decide +kernel) rfl True.intro) pa_nil))))),?_⟩
  walk_at "w"
  refine iteF ?_
  walk_at "w"
  refine if_ff (by simp [hl]) ?_
  walk_at "w"
  refine rd_mapRow (r:=r) (fun _=>.bl true) [] rfl ha (by lia) (fun x H' Qc hx s kc=>?_) (fun l H1 hl1 s1 m1=>?_)
  ·walk_at "w"
   refine iteT ?_
   walk_at "w"
   exact kc _ (Same.refl _)
  have e:r.map (fun _=>V.bl true)=(List.replicate r.length true).map V.bl:=by rw [List.map_const',List.map_replicate]
  rw [e] at m1
  walk_at "w"
  refine r_all (SqL.of m1) ?_
  rw [all_true]
  exact k _ s1
theorem sc_law_any_rows:FnScope ["_law_cells_here","_law_many","_law_most"] ["_law_cells_here","_law_many","_law_most"] (defScope s_law_any_rows):=⟨rfl,rfl,rfl,by decide +kernel,rfl,by decide +kernel,by decide +kernel⟩
structure Os_law_any_rows (P:Program) (w:World) (K:PySem.W.Frag) (mg:Str→Option Value) (base:Heap) (G:Adr):Prop where
 law_near:Ok P w K mg base 1 "_law_near" ["_law_cell","_law_most"] (sp_law_near K)
set_option maxHeartbeats 4000000 in
theorem ok_law_any_rows (D:Def K mg "_law_any_rows" s_law_any_rows ["_law_cells_here","_law_many","_law_most"]) (T:Txt K mg G) (O:Os_law_any_rows P w K mg base G) (Y:base.NoSeer∧P.given.tree=none):Ok P w K mg base 2 "_law_any_rows" ["_law_cells_here","_law_many","_law_most"] (sp_law_any_rows K):=by
 have S:=sc_law_any_rows
 refine D.ok S (fun vs H Q E h=>?_) (fun f cdv A outer s H vs Q E hr h=>?_)
 ·obtain ⟨a,cs,n,m,rfl,ha,hn,h20,hm,k⟩:=h;rfl
 ·obtain ⟨a,cs,n,m,rfl,ha,hn,h20,hm,k⟩:=h
  have hu:=hu_of hr
  have q_ONE:=T.q_ONE
  refine⟨_,(pss_one (ps_ret (pe_compM (N:=["_law_k","_law_most","_law_cells_here"]) (ix:=[none,some 2,some 0]) rfl (pi_range1 rfl T.b_range (pa_cons (pv 1) pa_nil)) (fun _ _ _ _ _=>(pg_name (i:=0) (show List.Nodup (["_law_k","_law_most","_law_cells_here"]:List Str) by decide +kernel) rfl (Or.inr rfl))) (fun _ _ _ _ _=>rfl) (fun _ _ _ _ _=>(pe_callTy (kN_tuple K rfl) rfl T.b_tuple PyProof.Rows.boot_tuple (pa_cons (pe_comp (N:=["_law_j","_law_most","_law_cells_here","_law_k"]) (ix:=[none,some 1,some 2,some 0]) rfl (pi_range1 rfl T.b_range (pa_cons pe_int pa_nil)) (fun _ _ _ _ _=>(pg_name (i:=0) (show List.Nodup (["_law_j","_law_most","_law_cells_here","_law_k"]:List Str) by decide +kernel) rfl (Or.inl rfl))) (fun _ _ _ _ _=>rfl) (fun _ _ _ _ _=>(pcall O.law_near (hr.mono (by decide)) (pa_cons (pe_ix (kx_seq K rfl) (pv 2) (pe_op op_add (pe_op op_mul pe_int (pv 3)) (pv 0)) (fun _ _=>rfl)) (pa_cons (pv 1) pa_nil)))) rfl (by decide +kernel) (by decide +kernel) rfl ⟨⟨rfl,Or.inr (Or.inl rfl),rfl,rfl⟩,⟨⟨rfl,Or.inr (Or.inl rfl),rfl,rfl⟩,⟨⟨rfl,Or.inr (Or.inl rfl),rfl,rfl⟩,True.intro⟩⟩⟩) pa_nil))) rfl (by decide +kernel) (by decide +kernel) rfl ⟨⟨rfl,Or.inr (Or.inl rfl),rfl,rfl⟩,⟨⟨rfl,Or.inr (Or.inl rfl),rfl,rfl⟩,True.intro⟩⟩))),?_⟩
  walk_at "w"
  refine rd_rangeRowsX (K:=K) (n:=n) [some (.int m),some (.ref a)] (fun i=>(List.range 5).map fun j=>nearZ (cs.getD (5*i+j) 0) m) rfl (by lia) (fun i H' Qc hi s kc=>?_) (fun l1 H1 ys n1 s1 m1 r1=>?_)
  ·have ha':=s.seq ha
   walk_at "w"
   refine rd_range (n:=5) (fun x=>.int (nearZ (cs.getD (5*i+x.toNat) 0) m)) [some (.int m),some (.ref a),some (.int (i:Int))] rfl (by decide) (fun x H'' Qd hx s' kd=>?_) (fun l H3 hl s3 m3=>?_)
   ·have ha2:=s'.seq ha'
    have hx5:x<5:=hx
    walk_at "w"
    refine r_ixL ha2 (atI_nat (j:=5*i+x) (int_at (by lia))) ?_
    walk_at "w"
    exact c_law_near hm (kd _ (Same.refl _))
   have e:(List.range 5).map (fun (j:Nat)=>V.int (nearZ (cs.getD (5*i+(j:Int).toNat) 0) m))=((List.range 5).map fun j=>nearZ (cs.getD (5*i+j) 0) m).map V.int:=by rw [List.map_map];rfl
   rw [e] at m3
   walk_at "w"
   rename_i p2 H2 s2 m2
   exact kc _ _ (s3.trans s2) (SqT.of m2)
  refine k l1 H1 ys _ n1 s1 m1 r1 (by rw [List.length_map,List.length_range]) (fun r hr=>?_) (fun r hr=>?_)
  ·obtain ⟨i,_,rfl⟩:=List.mem_map.mp hr
   rw [List.length_map,List.length_range]
  ·obtain ⟨i,_,rfl⟩:=List.mem_map.mp hr
   refine bd_mem fun x hx=>?_
   obtain ⟨j,_,rfl⟩:=List.mem_map.mp hx
   exact nearZ_bd hm.1
theorem sc_law_powered:FnScope ["_law_rows","_law_cell","_law_made","_law_k","_law_row"] ["_law_rows","_law_cell"] (defScope s_law_powered):=⟨rfl,rfl,rfl,by decide +kernel,rfl,by decide +kernel,by decide +kernel⟩
set_option maxHeartbeats 4000000 in
theorem ok_law_powered (D:Def K mg "_law_powered" s_law_powered ["_law_rows","_law_cell"]) (T:Txt K mg G) (Y:base.NoSeer∧P.given.tree=none):Ok P w K mg base 1 "_law_powered" ["_law_rows","_law_cell"] (sp_law_powered K):=by
 have S:=sc_law_powered
 refine D.ok S (fun vs H Q E h=>?_) (fun f cdv A outer s H vs Q E hr h=>?_)
 ·obtain ⟨l,c,M,xs,rs,rfl,hl,hrs,h6,h5,hbd,hM,k⟩:=h;rfl
 ·obtain ⟨l,c,M,xs,rs,rfl,hl,hrs,h6,h5,hbd,hM,k⟩:=h
  have hu:=hu_of hr
  have q_ONE:=T.q_ONE
  refine⟨_,(pss_cons (ps_set (i:=2) S.nd rfl (Or.inl rfl) (pe_lst pa_nil)) (pss_cons (ps_for PassesOwn.never rfl (kpi_enum K rfl false rfl T.b_enumerate (pa_cons (pv 0) pa_nil)) (kpg_tup (n:=2) K rfl rfl (pgs_cons (pg_name (i:=3) S.nd rfl (Or.inl rfl)) (pgs_cons (pg_name (i:=4) S.nd rfl (Or.inl rfl)) pgs_nil))) (pss_cons (ps_if (PW.pt (pw_and (pt_cmpR op_gt (pv 3) pe_int (nomark _)) (pw_and1 (pt_cmpR op_eq (pe_op op_mod (pv 1) pe_int) pe_int (nomark _))))) (pss_one (ps_set (i:=4) S.nd rfl (Or.inl rfl) (pe_callTy (kN_tuple K rfl) rfl T.b_tuple PyProof.Rows.boot_tuple (pa_cons (pe_comp (N:=["_law_number","_law_cell"]) (ix:=[none,some 1]) rfl (kpi_tup K rfl (pe_ix (kx_seq K rfl) (pv 2) (pe_op op_sub (pv 3) pe_int) (fun _ _=>rfl))) (fun _ _ _ _ _=>(pg_name (i:=0) (show List.Nodup (["_law_number","_law_cell"]:List Str) by decide +kernel) rfl (Or.inl rfl))) (fun _ _ _ _ _=>rfl) (fun _ _ _ _ _=>(pe_op op_mul (pe_op op_sub (pe_op op_mod (pe_op op_fdiv (pv 1) pe_int) pe_int) pe_int) (pv 0))) rfl (by decide +kernel) (by decide +kernel) rfl ⟨⟨rfl,Or.inr (Or.inl rfl),rfl,rfl⟩,True.intro⟩) pa_nil)))) pss_nil) (pss_cons (ps_expr (pe_bm PySem.F.plainAttrs_list PySem.F.slot_list_append PySem.F.type_list_append mt_append (pv 2) (pa_cons (pv 4) pa_nil))) (pss_one (ps_set (i:=1) S.nd rfl (Or.inr rfl) (pe_op op_fdiv (pv 1) pe_int)))))) (pss_one (ps_ret (pv 2))))),?_⟩
  have lx:=hrs.length
  walk_at "w"
  rename_i l1 H1 n1 s1 m1
  refine f_invN (k:=false) (xs:=xs) (fun i σ Hn=>∃ (o3 o4:Option V) (c:Int) (ys:List V) (ts:List (List Int)),σ=[some (.ref l),some (.int c),some (.ref l1),o3,o4]∧Same H Hn∧Hn l1=some (.lst ys)∧RowsL K Hn ys ts∧ts.length=i∧Mth.Len 5 ts∧∀ j,j<i→Mth.BdM (M*3 ^ j) (ts.getD j [])) ⟨_,_,c,[],[],rfl,s1,m1,.nil,rfl,(fun _ z=>nomatch z),fun j hj=>absurd hj (Nat.not_lt_zero _)⟩ (fun i σ Hn hp=>by obtain ⟨_,_,_,_,_,rfl,sn,_⟩:=hp;exact sql_sq (sn.seq hl)) (fun i x σ Hn Hm hx hp sm=>?_) (fun σ Hn hp=>?_)
  ·obtain ⟨o3,o4,c,ys,ts,rfl,sn,my,hr,lt,h5t,hbt⟩:=hp
   obtain ⟨a,r,rfl,ha,hi⟩:=hrs.get hx
   have hil:i<rs.length:=(List.getElem?_eq_some_iff.mp hi).1
   have hrm:=List.mem_of_getElem? hi
   have ly:=hr.length
   have snm:=sn.trans sm
   have hqb:-3≤c / 8 % 7 - 3∧c / 8 % 7 - 3≤3:=by lia
   have ham:=snm.at ha
   have mym:=sm _ _ my
   have hrm':=hr.same sm
   walk_at "j"
   refine join (fun σ' H'=>∃ (p:Addr) (t:List Int),σ'=[some (.ref l),some (.int c),some (.ref l1),some (.int (i:Int)),some (.ref p)]∧Same Hm H'∧SqT K H' p (t.map V.int)∧t.length=5∧Mth.BdM (M*3 ^ i) t) (fun nx hnx=>?_) (fun σ' H' hP=>?_)
   ·have stay:=hnx _ _ ⟨a,r,rfl,Same.refl _,ham,h5 r hrm,(hbd r hrm).mono (Nat.le_mul_of_pos_right _ (Nat.pow_pos (by decide)))⟩
    walk_at "w"
    refine if_both (fun h1=>?_) (fun h1=>?_)
    ·have h1':=of_decide_eq_true h1
     walk_at "w"
     refine if_both (fun h2=>?_) (fun h2=>?_)
     ·obtain ⟨j,rfl⟩:∃ j,i=j+1:=⟨i - 1,by lia⟩
      obtain ⟨b,q,ex,hb,hj⟩:=hrm'.get (i:=j) (List.getElem?_eq_getElem (by lia))
      have gx:ys[j]?=some (.ref b):=(List.getElem?_eq_getElem _).trans (congrArg some ex)
      have hqm:=List.mem_of_getElem? hj
      have eq5:=h5t q hqm
      have hbq:Mth.BdM (M*3 ^ j) q:=by
       have:=hbt j (by lia)
       rwa [List.getD,hj] at this
      have ei:atI ys (((j+1:Nat):Int) - 1)=some (.ref b):=by
       rw [show ((j+1:Nat):Int) - 1=(j:Int) by lia]
       exact atI_nat gx
      walk_at "w"
      refine r_ixL (SqL.of mym) ei ?_
      walk_at "w"
      refine rd_mapRow (r:=q) (fun x=>.int ((c / 8 % 7 - 3)*x)) [some (.int c)] rfl hb (by lia) (fun x H' Qc hx s kc=>?_) (fun l3 H3 n3 s3 m3=>?_)
      ·walk_at "w"
       exact kc _ (Same.refl _)
      have e3:q.map (fun x=>V.int ((c / 8 % 7 - 3)*x))=(Mth.mulv q (c / 8 % 7 - 3)).map V.int:=by
       rw [Mth.mulv,List.map_map]
       exact List.map_congr_left fun x _=>by rw [Function.comp_apply,Int.mul_comm]
      rw [e3] at m3
      walk_at "w"
      rename_i p4 H4 s4 m4
      refine hnx _ _ ⟨p4,_,rfl,s3.trans s4,SqT.of m4,Mth.mulv_len eq5,?_⟩
      have:=mul3_bd (q:=c / 8 % 7 - 3) hbq (by lia)
      rwa [Nat.mul_assoc,← Nat.pow_succ] at this
     ·walk_at "w"
      exact stay
    ·walk_at "w"
     refine if_ff rfl ?_
     walk_at "w"
     exact stay
   obtain ⟨p,t,rfl,s4,hp,l5,hb5⟩:=hP
   have my4:=s4 _ _ mym
   walk_at "w"
   refine r_append my4 (by lia) ?_
   walk_at "w"
   refine⟨_,_,c / 56,ys++[.ref p],ts++[t],rfl,(snm.trans s4).upd_old n1,upd_same,((hrm'.same s4).append (.cons hp .nil)).off my4,by rw [List.length_append,List.length_singleton,lt],fun v hv=>?_,fun j hj=>?_⟩
   ·rcases List.mem_append.mp hv with z|z
    ·exact h5t v z
    ·rw [List.mem_singleton.mp z];exact l5
   ·by_cases cj:j<i
    ·have:=hbt j cj
     rwa [List.getD,List.getElem?_append_left (by lia)]
    ·obtain rfl:j=i:=by lia
     rw [List.getD,List.getElem?_append_right (by lia),lt,Nat.sub_self]
     exact hb5
  obtain ⟨o3,o4,c,ys,ts,rfl,sn,my,hr,lt,h5t,hbt⟩:=hp
  walk_at "w"
  refine k l1 Hn ys ts n1 sn my hr (by lia) h5t fun v hv=>?_
  obtain ⟨j,hj,rfl⟩:=List.getElem_of_mem hv
  have:=hbt j (by lia)
  rw [List.getD,List.getElem?_eq_getElem hj] at this
  refine this.mono (Nat.le_trans (Nat.mul_le_mul hM (Nat.pow_le_pow_right (by decide) (show j≤5 by lia))) (by decide))
theorem sc_law_keys_hold:FnScope ["_law_cells_here","_law_many","_law_most","_law_rows","_law_keys","_law_k","_law_row","_law_due"] ["_law_cells_here","_law_many","_law_most"] (defScope s_law_keys_hold):=⟨rfl,rfl,rfl,by decide +kernel,rfl,by decide +kernel,by decide +kernel⟩
structure Os_law_keys_hold (P:Program) (w:World) (K:PySem.W.Frag) (mg:Str→Option Value) (base:Heap) (G:Adr):Prop where
 lost:Ok P w K mg base 38 "lost" ["keys"] (sp_lost K)
 keys_for:Ok P w K mg base 39 "keys_for" ["commas"] (sp_keys_for K)
 law_steps:Ok P w K mg base 35 "_law_steps" ["_law_rows"] (sp_law_steps K)
 law_is_made:Ok P w K mg base 34 "_law_is_made" ["_law_steps_here","_law_row"] (sp_law_is_made K)
 law_lost:Ok P w K mg base 67 "_law_lost" ["_law_keys"] (sp_law_lost K)
 law_is_row:Ok P w K mg base 1 "_law_is_row" ["_law_found"] (sp_law_is_row K)
 law_any_rows:Ok P w K mg base 2 "_law_any_rows" ["_law_cells_here","_law_many","_law_most"] (sp_law_any_rows K)
 law_powered:Ok P w K mg base 1 "_law_powered" ["_law_rows","_law_cell"] (sp_law_powered K)
set_option maxHeartbeats 8000000 in
theorem ok_law_keys_hold (D:Def K mg "_law_keys_hold" s_law_keys_hold ["_law_cells_here","_law_many","_law_most"]) (T:Txt K mg G) (O:Os_law_keys_hold P w K mg base G) (Y:base.NoSeer∧P.given.tree=none):Ok P w K mg base 68 "_law_keys_hold" ["_law_cells_here","_law_many","_law_most"] (sp_law_keys_hold K):=by
 have S:=sc_law_keys_hold
 refine D.ok S (fun vs H Q E h=>?_) (fun f cdv A outer s H vs Q E hr h=>?_)
 ·obtain ⟨a,n,mo,cs,rfl,ha,h63,hn6,⟨hm0,hm9⟩,hT,k⟩:=h;rfl
 ·obtain ⟨a,n,mo,cs,rfl,ha,h63,hn6,⟨hm0,hm9⟩,hT,k⟩:=h
  have hu:=hu_of hr
  have q_ONE:=T.q_ONE
  refine⟨_,(pss_cons (ps_set (i:=3) S.nd rfl (Or.inr rfl) (pcall O.law_powered (hr.mono (by decide)) (pa_cons (pcall O.law_any_rows (hr.mono (by decide)) (pa_cons (pe_slice (ksl_list K rfl) (pv 0) (po_some pe_int) (po_some pe_int)) (pa_cons (pv 1) (pa_cons (pv 2) pa_nil)))) (pa_cons (pe_ix (kx_seq K rfl) (pv 0) pe_int (fun _ _=>rfl)) pa_nil)))) (pss_cons (ps_set (i:=4) S.nd rfl (Or.inl rfl) (pe_lst pa_nil)) (pss_cons (ps_for PassesOwn.never rfl (kpi_enum K rfl false rfl T.b_enumerate (pa_cons (pv 3) pa_nil)) (kpg_tup (n:=2) K rfl rfl (pgs_cons (pg_name (i:=5) S.nd rfl (Or.inl rfl)) (pgs_cons (pg_name (i:=6) S.nd rfl (Or.inl rfl)) pgs_nil))) (pss_one (ps_expr (pe_bm PySem.F.plainAttrs_list PySem.F.slot_list_append PySem.F.type_list_append mt_append (pv 4) (@pa_cons _ _ _ _ _ (@pe_tup _ _ _ _ _ (pa_cons (pv 6) (pa_cons (pe_op op_mul (pe_op op_mod (pe_op op_fdiv (pe_ix (kx_seq K rfl) (pv 0) (pe_op op_add pe_int (pv 5)) (fun _ _=>rfl)) pe_int) pe_int) (pe_callB (callN_max rfl) rfl T.b_max PyProof.Rows.boot_max (pa_cons pe_int (pa_cons (pe_op op_mod (pe_op op_fdiv (pe_ix (kx_seq K rfl) (pv 0) (pe_op op_add pe_int (pv 5)) (fun _ _=>rfl)) pe_int) pe_int) pa_nil)))) pa_nil))) pa_nil (by rfl)))))) (pss_cons (ps_set (i:=3) S.nd rfl (Or.inr rfl) (pcall O.lost (hr.mono (by decide)) (pa_cons (pe_callTy (kN_list K rfl) rfl T.b_list PyProof.Rows.boot_list (pa_cons (pv 4) pa_nil)) pa_nil))) (pss_cons (ps_if (PW.pt (pw_or (pt_not (pt_val (pe_callB (kN_isinst K rfl) rfl T.b_isinstance PyProof.Rows.boot_isinstance (pa_cons (pv 3) (pa_cons (pe_bltn (v:=V.ty "list") rfl T.b_list PyProof.Rows.boot_list rfl) pa_nil))))) (pw_or (pt_cmpR op_gt (pe_callB (kN_len K rfl) rfl T.b_len PySem.boot_len (pa_cons (pv 3) pa_nil)) pe_int (nomark _)) (pw_or1 (pt_not (pt_val (pe_callB (kN_all K rfl rfl) rfl T.b_all PyProof.Rows.boot_all (pa_cons (pe_comp (N:=["_law_row"]) (ix:=[none]) rfl (kpi_list K rfl (pv 3)) (fun _ _ _ _ _=>(pg_name (i:=0) (show List.Nodup (["_law_row"]:List Str) by decide +kernel) rfl (Or.inl rfl))) (fun _ _ _ _ _=>rfl) (fun _ _ _ _ _=>(pcall O.law_is_row (hr.mono (by decide)) (pa_cons (pv 0) pa_nil))) rfl (by decide +kernel) (by decide +kernel) rfl True.intro) pa_nil)))))))) (pss_one (ps_ret pe_bl)) pss_nil) (pss_cons (ps_set (i:=7) S.nd rfl (Or.inr rfl) (pcall O.law_lost (hr.mono (by decide)) (pa_cons (pv 4) pa_nil))) (pss_cons (ps_if (PW.pt (pw_or (pt_cmpR op_ne (pe_callB (kN_len K rfl) rfl T.b_len PySem.boot_len (pa_cons (pv 7) pa_nil)) (pe_callB (kN_len K rfl) rfl T.b_len PySem.boot_len (pa_cons (pv 3) pa_nil)) (nomark _)) (pw_or1 (pt_not (pt_val (pe_callB (kN_all K rfl rfl) rfl T.b_all PyProof.Rows.boot_all (pa_cons (pe_comp (N:=["_law_row","_law_due"]) (ix:=[none,some 7]) rfl (kpi_list K rfl (pv 3)) (fun _ _ _ _ _=>(pg_name (i:=0) (show List.Nodup (["_law_row","_law_due"]:List Str) by decide +kernel) rfl (Or.inl rfl))) (fun _ _ _ _ _=>rfl) (fun _ _ _ _ _=>(pcall O.law_is_made (hr.mono (by decide)) (pa_cons (pcall O.law_steps (hr.mono (by decide)) (pa_cons (pv 1) pa_nil)) (pa_cons (pv 0) pa_nil)))) rfl (by decide +kernel) (by decide +kernel) rfl ⟨⟨rfl,Or.inr (Or.inl rfl),rfl,rfl⟩,True.intro⟩) pa_nil))))))) (pss_one (ps_ret pe_bl)) pss_nil) (pss_cons (ps_if (pt_not (pt_val (pe_callB (kN_all K rfl rfl) rfl T.b_all PyProof.Rows.boot_all (pa_cons (pe_comp (N:=["_law_row","_law_rows"]) (ix:=[none,some 3]) rfl (kpi_list K rfl (pv 7)) (fun _ _ _ _ _=>(pg_name (i:=0) (show List.Nodup (["_law_row","_law_rows"]:List Str) by decide +kernel) rfl (Or.inl rfl))) (fun _ _ _ _ _=>rfl) (fun _ _ _ _ _=>(pcall O.law_is_made (hr.mono (by decide)) (pa_cons (pcall O.law_steps (hr.mono (by decide)) (pa_cons (pv 1) pa_nil)) (pa_cons (pv 0) pa_nil)))) rfl (by decide +kernel) (by decide +kernel) rfl ⟨⟨rfl,Or.inr (Or.inl rfl),rfl,rfl⟩,True.intro⟩) pa_nil)))) (pss_one (ps_ret pe_bl)) pss_nil) (pss_one (ps_ret (pe_and (pe_cmpR (kop_eqD K rfl hr.units) (pcall O.lost (hr.mono (by decide)) (pa_cons (pcall O.keys_for (hr.mono (by decide)) (pa_cons (pe_callTy (kN_list K rfl) rfl T.b_list PyProof.Rows.boot_list (pa_cons (pv 3) pa_nil)) pa_nil)) pa_nil)) (pv 3) (nomark _)) (pe_one (pe_cmpR (kop_eqD K rfl hr.units) (pcall O.lost (hr.mono (by decide)) (pa_cons (pe_callTy (kN_list K rfl) rfl T.b_list PyProof.Rows.boot_list (pa_cons (pv 4) pa_nil)) pa_nil)) (pv 3) (nomark _)))))))))))))),?_⟩
  have ea38:atI (cs.map V.int) 38=some (.int (cs.getD 38 0)):=atI_nat (j:=38) (int_at (by lia))
  walk_at "w"
  refine r_slL ha fun l2 H2 n2 s2 m2=>?_
  obtain ⟨cs1,ec1,lc1⟩:=cut_eq (ns:=cs) (a:=2) (b:=32) (by decide) (by lia)
  rw [show cutV (cs.map V.int) (some 2) (some 32)=cs1.map V.int from ec1] at m2
  walk_at "w"
  refine c_law_any_rows (SqL.of m2) (by lia) (by lia) ⟨hm0,by lia⟩ fun l3 H3 xs3 rs3 n3 s3 m3 r3 lr3 len3 bd3=>?_
  have ha3:=(s2.trans s3).seq ha
  walk_at "w"
  refine r_ixL ha3 ea38 ?_
  walk_at "w"
  refine c_law_powered (M:=mo.natAbs) ⟨SqL.of m3,r3,by lia,len3,bd3,by lia⟩ fun l4 H4 ys ts n4 s4 m4 r4 lt4 len4 bd4=>?_
  have ha4:=s4.seq ha3
  have ly4:=r4.length
  walk_at "w"
  rename_i l5 H5 n5 s5 m5
  have sH5:=((s2.trans s3).trans s4).trans s5
  refine f_invN (k:=false) (xs:=ys) (fun i σ' H'=>∃ (o5 o6 o7:Option V) (zs:List V) (ks:List (List Int×Int)),σ'=[some (.ref a),some (.int (n:Int)),some (.int mo),some (.ref l4),some (.ref l5),o5,o6,o7]∧Same H4 H'∧H' l5=some (.lst zs)∧KeysL K H' zs ks∧ks.length=i∧∀ q∈ks,q.1∈ts∧(q.2=0∨2≤q.2)∧q.2≤9999) ⟨_,_,_,[],[],rfl,s5,m5,.nil,rfl,fun _ z=>nomatch z⟩ (fun i σ' H' hp=>by obtain ⟨_,_,_,_,_,rfl,sn,_⟩:=hp;exact sql_sq (sn.seq (SqL.of m4))) (fun i x σ' H' Hm hx hp sm=>?_) (fun σ' H' hp=>?_)
  ·obtain ⟨o5,o6,o7,zs,ks,rfl,sn,mz,kz,lk,hk⟩:=hp
   obtain ⟨ar,r,rfl,har,hi⟩:=r4.get hx
   have hil:i<ts.length:=(List.getElem?_eq_some_iff.mp hi).1
   have e32:atI (cs.map V.int) (32+(i:Int))=some (.int (cs.getD (32+i) 0)):=by
    rw [show 32+(i:Int)=((32+i:Nat):Int) by lia]
    exact atI_nat (int_at (by lia))
   generalize cs.getD (32+i) 0=g at e32
   have snm:=sn.trans sm
   have ham:=snm.seq ha4
   have mzm:=sm _ _ mz
   have lzk:=kz.length
   walk_at "w"
   refine r_ixL ham e32 ?_
   walk_at "w"
   refine r_ixL ham e32 ?_
   walk_at "w"
   rename_i p6 H6 s6 m6
   refine r_append (s6 _ _ mzm) (by lia) ?_
   refine⟨_,_,_,zs++[.ref p6],ks++[(r,g / 2 % 2*(if g / 4 % 10000 > 2 then g / 4 % 10000 else 2))],rfl,(snm.trans s6).upd_old n5,upd_same,(((kz.same (sm.trans s6)).append (.cons (SqT.of m6) ((snm.trans s6).at har) .nil))).off (s6 _ _ mzm),by rw [List.length_append,List.length_singleton,lk],fun q hq=>?_⟩
   rcases List.mem_append.mp hq with z|z
   ·exact hk q z
   ·rw [List.mem_singleton.mp z]
    refine⟨List.mem_of_getElem? hi,?_⟩
    show (g / 2 % 2*(if g / 4 % 10000 > 2 then g / 4 % 10000 else 2)=0∨2≤g / 2 % 2*(if g / 4 % 10000 > 2 then g / 4 % 10000 else 2))∧g / 2 % 2*(if g / 4 % 10000 > 2 then g / 4 % 10000 else 2)≤9999
    have hgp:g / 2 % 2=0∨g / 2 % 2=1:=by lia
    rcases hgp with e|e
    ·rw [e,Int.zero_mul]
     exact⟨.inl rfl,by decide⟩
    ·rw [e,Int.one_mul]
     split
     ·exact⟨.inr (by lia),by lia⟩
     ·exact⟨.inr (by lia),by lia⟩
  obtain ⟨o5,o6,o7,zs,ks,rfl,sn,mz,kz,lk,hk⟩:=hp
  have lzk:=kz.length
  have lk6:ks.length≤6:=by lia
  have hT':TabK K H':=hT.same (((s2.trans s3).trans s4).trans sn)
  have hkl:∀ q∈ks,q.1.length=5∧Few 99000 q.1:=fun q hq=>⟨len4 _ (hk q hq).1,few99 (bd4 _ (hk q hq).1) (by decide)⟩
  clear m2 m3 r3 m4 r4 m5
  have nxt:∀ (i:Nat) q s s',ks[i]?=some q→Mth.Lo (ks.take i) s→PK i s→Mth.LostOf s q.1 q.2 s'→PK (i+1) s':=fun i q s s' hq hLo hP hL=>PK.next hP hLo.sf hLo.len (hkl q (List.mem_of_getElem? hq)).1 (bd4 _ (hk q (List.mem_of_getElem? hq)).1) (hk q (List.mem_of_getElem? hq)).2.1 (hk q (List.mem_of_getElem? hq)).2.2 hL
  have fit:∀ (i:Nat) (k:List Int×Int) (s:List (List Int)),ks[i]?=some k→Mth.Lo (ks.take i) s→PK i s→∃ b R:Nat,b≤900000∧(∀ v∈s,Mth.BdM (2 ^ b) v)∧(∀ v∈s,(val k.1 k.2 v).natAbs≤2 ^ b)∧k.2.natAbs≤2 ^ b∧(k.2=0→s.length≤R)∧(k.2≠0→s.length+1≤R)∧Mth.ss b R<60000000:=fun i q s hq hLo hP=>PK.fits hP (by have:=(List.getElem?_eq_some_iff.mp hq).1;lia) hLo.len (hkl q (List.mem_of_getElem? hq)).1 (bd4 _ (hk q (List.mem_of_getElem? hq)).1) (hk q (List.mem_of_getElem? hq)).2.1 (hk q (List.mem_of_getElem? hq)).2.2
  walk_at "w"
  rename_i l7 H7 n7 s7 m7
  refine c_lost PK ⟨SqL.of m7,kz.same s7,lk6,fun q hq=>(hk q hq).2.1,hkl,PK.start,nxt,fit,hT'.same s7⟩ fun l8 H8 ys8 st n8 sm8 hT8 m8 r8 hLo h5 hPK=>?_
  have smH8:=(SameT.of s7).trans sm8
  have mz8:=smH8.lst hT' mz
  have kz8:=kz.sameT smH8 hT'
  have hPK6:=hPK.mono lk6
  have lst:=r8.length
  obtain ⟨e0,hbe,he0⟩:=hPK6.few (Nat.le_refl _)
  have hb34:∀ v∈st,Mth.BdM (2 ^ 34506) v:=fun v hv=>(hbe v hv).mono (Nat.pow_le_pow_right (by decide) he0)
  walk_at "w"
  refine if_ff rfl ?_
  walk_at "w"
  refine if_ff (decide_eq_false (by lia)) ?_
  walk_at "w"
  refine rd_compL (xs:=ys8) [] (fun _=>.bl true) rfl (SqL.of m8) (by lia) (fun i z H' Qc hz s kc=>?_) (fun l9 H9 n9 s9 m9=>?_)
  ·obtain ⟨d,r,rfl,hd,hi⟩:=r8.get hz
   walk_at "w"
   exact c_law_is_row (s.at hd) (hLo.len r (List.mem_of_getElem? hi)) fun H7 s7=>kc _ s7
  rw [repl_all] at m9
  walk_at "w"
  refine r_all (SqL.of m9) ?_
  rw [all_repl]
  walk_at "w"
  refine if_ff rfl ?_
  have smH9:=smH8.trans (SameT.of s9)
  have mz9:=s9 _ _ mz8
  have kz9:=kz8.same s9
  have m89:=s9 _ _ m8
  have r89:=r8.same s9
  have hT9:TabK K H9:=hT8.same s9
  clear m7 mz8 kz8
  walk_at "w"
  refine c_law_lost ⟨SqL.of mz9,kz9,lk6,fun q hq=>⟨(hkl q hq).1,bd4 _ (hk q hq).1,by have:=(hk q hq).2;lia,by have:=(hk q hq).2;lia⟩⟩ fun l10 H10 ys10 du n10 s10 m10 r10 hL=>?_
  have ldu:=r10.length
  have hlen:=LoR.same_len hLo hL
  have hbd34:∀ v∈du,Mth.BdM (2 ^ 34506) v:=fun v hv=>(hL.bd v hv).mono (Nat.pow_le_pow_right (by decide) (Nat.le_trans (ll_le lk6) (Nat.le_of_ble_eq_true rfl)))
  have sp1:∀ r∈st,Mth.Span 5 du r:=fun r hr=>(hL.all r).mpr ((hLo.all r).mp (Mth.Span.mem hr))
  have sp2:∀ r∈du,Mth.Span 5 st r:=fun r hr=>(hLo.all r).mpr ((hL.all r).mp (Mth.Span.mem hr))
  have m810:=s10 _ _ m89
  have r810:=r89.same s10
  have hdc:=hL.c
  walk_at "w"
  refine if_ff (by rw [show ys10.length=ys8.length by lia];simp) ?_
  walk_at "w"
  refine rd_compL (xs:=ys8) [some (.ref l10)] (fun _=>.bl true) rfl (SqL.of m810) (by lia) (fun i z H' Qc hz s kc=>?_) (fun la1 Ha1 na1 sa1 ma1=>?_)
  ·obtain ⟨d,r,rfl,hd,hi⟩:=r810.get hz
   have hr:=List.mem_of_getElem? hi
   walk_at "w"
   refine c_law_steps (b:=34506) ⟨s.seq (SqL.of m10),(r10).same s,by lia,hL.len,hbd34,by rw [gs34];decide⟩ fun l7 H7 ys7 p7 n7 s7 m7 q7 hF7 c7 hE7 bp7=>?_
   walk_at "w"
   refine c_law_is_made (B:=Mth.gs 34506 5) (C:=34506) ⟨SqL.of m7,q7,hF7,c7,bp7,(s.trans s7).at hd,hLo.len r hr,hb34 r hr,by rw [gs34];decide⟩ fun t H8 s8 ht=>?_
   obtain rfl:t=true:=ht.mpr (hE7.span (sp1 r hr))
   exact kc _ (s7.trans s8)
  rw [repl_all] at ma1
  walk_at "w"
  refine r_all (SqL.of ma1) ?_
  rw [all_repl]
  walk_at "w"
  refine if_ff rfl ?_
  have m811:=sa1 _ _ m810
  have r811:=r810.same sa1
  have m1011:=sa1 _ _ m10
  have r1011:=r10.same sa1
  walk_at "w"
  refine rd_compL (xs:=ys10) [some (.ref l8)] (fun _=>.bl true) rfl (SqL.of m1011) (by lia) (fun i z H' Qc hz s kc=>?_) (fun la2 Ha2 na2 sa2 ma2=>?_)
  ·obtain ⟨d,r,rfl,hd,hi⟩:=r1011.get hz
   have hr:=List.mem_of_getElem? hi
   walk_at "w"
   refine c_law_steps (b:=34506) ⟨s.seq (SqL.of m811),(r811).same s,by lia,hLo.len,hb34,by rw [gs34];decide⟩ fun l7 H7 ys7 p7 n7 s7 m7 q7 hF7 c7 hE7 bp7=>?_
   walk_at "w"
   refine c_law_is_made (B:=Mth.gs 34506 5) (C:=34506) ⟨SqL.of m7,q7,hF7,c7,bp7,(s.trans s7).at hd,hL.len r hr,hbd34 r hr,by rw [gs34];decide⟩ fun t H8 s8 ht=>?_
   obtain rfl:t=true:=ht.mpr (hE7.span (sp2 r hr))
   exact kc _ (s7.trans s8)
  rw [repl_all] at ma2
  walk_at "w"
  refine r_all (SqL.of ma2) ?_
  rw [all_repl]
  walk_at "w"
  refine if_ff rfl ?_
  have s10a:=sa1.trans sa2
  have m8a:=s10a _ _ m810
  have r8a:=r810.same s10a
  have mza:=(s10.trans s10a) _ _ mz9
  have kza:=kz9.same (s10.trans s10a)
  have hTa:TabK K Ha2:=hT9.same (s10.trans s10a)
  clear m89 r89 m810 r810 m811 r811 m1011 r1011 m10 r10 mz9 kz9 m9 ma1 ma2
  walk_at "w"
  rename_i l12 H12 n12 s12 m12
  refine c_keys_for (b:=5400) ⟨SqL.of m12,r8a.same s12,by lia,hLo.len,bd54 hLo hPK6,Nat.le_refl _,hTa.same s12,tight_of hLo hPK6⟩ fun l13 H13 ys13 st13 D qs M n13 sm13 hT13 m13 k13 hK=>?_
  walk_at "w"
  refine c_lost (PD (wd st13.length) D qs) ⟨SqL.of m13,k13,hK.ok.2.2,hK.ok.1,hK.ok.2.1,PD.start,fun i q s s' hq hLo' hP hL'=>hK.next hq hLo' hP hL',fun i q s hq hLo' hP=>hK.fits hq hLo' hP,hT13⟩ fun l14 H14 ys14 st14 n14 sm14 hT14 m14 r14 hLo14 h514 _=>?_
  have e14:st14=st:=(hK.lost hLo14 hLo.len).trans (Mth.SF.uniq hK.sf hLo.sf hK.len hLo.len hK.e.symm)
  subst e14
  have sma:SmT K Ha2 H14:=((SameT.of s12).trans sm13).trans sm14
  have m814:=sma.lst hTa m8a
  have r814:=r8a.sameT sma hTa
  walk_at "w"
  refine r_eqD (.lst (SqL.of m14) r14.tells) (.lst (SqL.of m814) r814.tells) (shaped_rows _) (shaped_rows _) ?_
  rw [eqv_listR,decide_eq_true rfl]
  refine⟨_,rfl,?_⟩
  refine if_tt rfl ?_
  have mz14:=sma.lst hTa mza
  have kz14:=kza.sameT sma hTa
  clear m14 r14 m13 k13 m12
  walk_at "w"
  rename_i l15 H15 n15 s15 m15
  refine c_lost PK ⟨SqL.of m15,kz14.same s15,lk6,fun q hq=>(hk q hq).2.1,hkl,PK.start,nxt,fit,hT14.same s15⟩ fun l16 H16 ys16 st16 n16 sm16 hT16 m16 r16 hLo16 h516 hPK16=>?_
  have e16:st16=st14:=Mth.SF.uniq hLo16.sf hLo.sf hLo16.len hLo.len ⟨fun r hr=>(hLo.all r).mpr ((hLo16.all r).mp (Mth.Span.mem hr)),fun r hr=>(hLo16.all r).mpr ((hLo.all r).mp (Mth.Span.mem hr))⟩
  subst e16
  have smb:SmT K H14 H16:=(SameT.of s15).trans sm16
  have m816:=smb.lst hT14 m814
  have r816:=r814.sameT smb hT14
  walk_at "w"
  refine r_eqD (.lst (SqL.of m16) r16.tells) (.lst (SqL.of m816) r816.tells) (shaped_rows _) (shaped_rows _) ?_
  rw [eqv_listR,decide_eq_true rfl]
  exact k _
theorem sc_law:FnScope ["_law_script","_law_cells_here","_law_many","_law_most","_law_commas","_law_rows"] ["_law_script"] (defScope s_law):=⟨rfl,rfl,rfl,by decide +kernel,rfl,by decide +kernel,by decide +kernel⟩
structure Os_law (P:Program) (w:World) (K:PySem.W.Frag) (mg:Str→Option Value) (base:Heap) (G:Adr):Prop where
 table:Ok P w K mg base 37 "table" ["commas"] (sp_table K)
 lost:Ok P w K mg base 38 "lost" ["keys"] (sp_lost K)
 keys_for:Ok P w K mg base 39 "keys_for" ["commas"] (sp_keys_for K)
 law_cells:Ok P w K mg base 1 "_law_cells" ["_law_script"] (sp_law_cells K)
 law_is_row:Ok P w K mg base 1 "_law_is_row" ["_law_found"] (sp_law_is_row K)
 law_any_rows:Ok P w K mg base 2 "_law_any_rows" ["_law_cells_here","_law_many","_law_most"] (sp_law_any_rows K)
 law_powered:Ok P w K mg base 1 "_law_powered" ["_law_rows","_law_cell"] (sp_law_powered K)
 law_keys_hold:Ok P w K mg base 68 "_law_keys_hold" ["_law_cells_here","_law_many","_law_most"] (sp_law_keys_hold K)
set_option maxHeartbeats 8000000 in
theorem fn_law {f:Addr} {fd:FuncData} (F:Fun K "law" "law" s_law f fd) (T:Txt K mg G) (O:Os_law P w K mg base G) (Y:base.NoSeer∧P.given.tree=none):FnOk P w K mg base CX0 69 f fd ["_law_script"] ((spLawT "parted" lpP "parted.<locals>.<lambda>") K):=by
 have S:=sc_law
 refine F.ok S (fun vs H Q E h=>?_) (fun cdv A outer s H vs Q E hr h=>?_)
 ·obtain ⟨a,ns,rfl,hS,hlen,hT,k⟩:=h;rfl
 ·obtain ⟨a,ns,rfl,hS,hlen,hT,k⟩:=h
  have hu:=hu_of hr
  have q_ONE:=T.q_ONE
  refine⟨_,(pss_cons (ps_set (i:=1) S.nd rfl (Or.inl rfl) (pcall O.law_cells (hr.mono (by decide)) (pa_cons (pv 0) pa_nil))) (pss_cons (ps_set (i:=2) S.nd rfl (Or.inl rfl) (pe_op op_mod (pe_op op_fdiv (pe_ix (kx_seq K rfl) (pv 1) pe_int (fun _ _=>rfl)) pe_int) pe_int)) (pss_cons (ps_set (i:=3) S.nd rfl (Or.inl rfl) (pe_ix (kx_seq K rfl) (pe_tup (pa_cons pe_int (pa_cons pe_int (pa_cons pe_int (pa_cons pe_int pa_nil))))) (pe_op op_mod (pe_op op_fdiv (pe_ix (kx_seq K rfl) (pv 1) pe_int (fun _ _=>rfl)) pe_int) pe_int) (fun _ _=>rfl))) (pss_cons (ps_if (pt_cmpR op_eq (pe_op op_mod (pe_ix (kx_seq K rfl) (pv 1) pe_int (fun _ _=>rfl)) pe_int) pe_int (nomark _)) (pss_one (ps_ret (pcall O.law_keys_hold (hr.mono (by decide)) (pa_cons (pv 1) (pa_cons (pv 2) (pa_cons (pv 3) pa_nil)))))) pss_nil) (pss_cons (ps_set (i:=4) S.nd rfl (Or.inl rfl) (pcall O.law_powered (hr.mono (by decide)) (pa_cons (pcall O.law_any_rows (hr.mono (by decide)) (pa_cons (pe_slice (ksl_list K rfl) (pv 1) (po_some pe_int) (po_some pe_int)) (pa_cons (pv 2) (pa_cons (pv 3) pa_nil)))) (pa_cons (pe_ix (kx_seq K rfl) (pv 1) pe_int (fun _ _=>rfl)) pa_nil)))) (pss_cons (ps_set (i:=5) S.nd rfl (Or.inl rfl) (pcall O.table (hr.mono (by decide)) (pa_cons (pe_callTy (kN_list K rfl) rfl T.b_list PyProof.Rows.boot_list (pa_cons (pv 4) pa_nil)) pa_nil))) (pss_cons (ps_if (PW.pt (pw_or (pt_not (pt_val (pe_callB (kN_isinst K rfl) rfl T.b_isinstance PyProof.Rows.boot_isinstance (pa_cons (pv 5) (pa_cons (pe_bltn (v:=V.ty "list") rfl T.b_list PyProof.Rows.boot_list rfl) pa_nil))))) (pw_or1 (pt_not (pt_val (pe_callB (kN_all K rfl rfl) rfl T.b_all PyProof.Rows.boot_all (pa_cons (pe_comp (N:=["_law_row"]) (ix:=[none]) rfl (kpi_list K rfl (pv 5)) (fun _ _ _ _ _=>(pg_name (i:=0) (show List.Nodup (["_law_row"]:List Str) by decide +kernel) rfl (Or.inl rfl))) (fun _ _ _ _ _=>rfl) (fun _ _ _ _ _=>(pcall O.law_is_row (hr.mono (by decide)) (pa_cons (pv 0) pa_nil))) rfl (by decide +kernel) (by decide +kernel) rfl True.intro) pa_nil))))))) (pss_one (ps_ret pe_bl)) pss_nil) (pss_one (ps_ret (pe_and (pe_cmpR (kop_eqD K rfl hr.units) (pcall O.lost (hr.mono (by decide)) (pa_cons (pcall O.keys_for (hr.mono (by decide)) (pa_cons (pe_callTy (kN_list K rfl) rfl T.b_list PyProof.Rows.boot_list (pa_cons (pv 4) pa_nil)) pa_nil)) pa_nil)) (pv 5) (nomark _)) (pe_one (pe_cmpR (kop_eqD K rfl hr.units) (pcall O.table (hr.mono (by decide)) (pa_cons (pe_callTy (kN_list K rfl) rfl T.b_list PyProof.Rows.boot_list (pa_cons (pv 4) pa_nil)) pa_nil)) (pv 5) (nomark _))))))))))))),?_⟩
  walk_at "w"
  refine c_law_cells hS fun l1 H1 cs n1 s1 m1 h63=>?_
  have ha1:SqL K H1 l1 (cs.map V.int):=SqL.of m1
  have ea1:atI (cs.map V.int) 1=some (.int (cs.getD 1 0)):=atI_nat (j:=1) (int_at (by lia))
  have ea38:atI (cs.map V.int) 38=some (.int (cs.getD 38 0)):=atI_nat (j:=38) (int_at (by lia))
  generalize cs.getD 1 0=g1 at ea1
  have hT1:=hT.same s1
  walk_at "w"
  refine r_ixL ha1 ea1 ?_
  walk_at "w"
  rename_i p2 H2 s2 m2
  obtain ⟨n,hn⟩:∃ n:Nat,g1 / 2 % 7=n:=⟨(g1 / 2 % 7).toNat,by lia⟩
  have hn6:n≤6:=by lia
  have ha2:=s2.seq ha1
  refine r_ixL ha2 ea1 ?_
  walk_at "w"
  obtain ⟨mo,hmo,hm0,hm9⟩:∃ mo:Int,atI [V.int 2,V.int 9,V.int 99,V.int 9999] (g1 / 14 % 4)=some (.int mo)∧0≤mo∧mo≤9999:=by
   have hz:g1 / 14 % 4=0∨g1 / 14 % 4=1∨g1 / 14 % 4=2∨g1 / 14 % 4=3:=by lia
   generalize g1 / 14 % 4=z at hz
   rcases hz with rfl|rfl|rfl|rfl <;> exact⟨_,rfl,by decide,by decide⟩
  refine r_ixT (SqT.of m2) hmo ?_
  rw [hn]
  have hT2:=hT1.same s2
  walk_at "w"
  refine r_ixL ha2 ea1 ?_
  walk_at "w"
  refine if_both (fun h=>?_) (fun h=>?_)
  ·walk_at "w"
   exact c_law_keys_hold ⟨ha2,h63,hn6,⟨hm0,hm9⟩,hT2⟩ fun H'=>k H'
  walk_at "w"
  refine r_slL ha2 fun l3 H3 n3 s3 m3=>?_
  obtain ⟨cs1,ec1,lc1⟩:=cut_eq (ns:=cs) (a:=2) (b:=32) (by decide) (by lia)
  rw [show cutV (cs.map V.int) (some 2) (some 32)=cs1.map V.int from ec1] at m3
  walk_at "w"
  refine c_law_any_rows (SqL.of m3) (by lia) (by lia) ⟨hm0,by lia⟩ fun l4 H4 xs4 rs4 n4 s4 m4 r4 lr4 len4 bd4=>?_
  have ha4:=(s3.trans s4).seq ha2
  walk_at "w"
  refine r_ixL ha4 ea38 ?_
  walk_at "w"
  refine c_law_powered (M:=mo.natAbs) ⟨SqL.of m4,r4,by lia,len4,bd4,by lia⟩ fun l5 H5 ys5 ts n5 s5 m5 r5 lt5 len5 bd5=>?_
  have hT5:TabK K H5:=hT2.same ((s3.trans s4).trans s5)
  have ly5:=r5.length
  have lt6:ts.length≤6:=by lia
  have tgt:∀ t,Mth.SF t→Mth.Len 5 t→Mth.Eqv 5 ts t→∀ v∈t,Mth.BdM (2 ^ tb t.length) v:=fun t sf hl e v hv=>(Mth.SF.tight sf hl len5 e bd5 v hv).mono (Nat.pow_le_pow_right (by decide) (tb_ge (List.length_pos_of_mem hv) (Mth.SF.count sf fun r hr j hj=>Mth.led5 (hl r hr) hj)))
  clear m2 m3 m4 r4
  walk_at "w"
  rename_i l6 H6 n6 s6 m6
  refine c_table (b:=22) ⟨SqL.of m6,r5.same s6,lt6,len5,bd5,by decide,hT5.same s6⟩ fun l7 H7 ys7 st n7 sm7 hT7 m7 r7 sf7 eq7 len7 c57=>?_
  have sm57:=(SameT.of s6).trans sm7
  have m57:=sm57.lst hT5 m5
  have r57:=r5.sameT sm57 hT5
  have lst:=r7.length
  walk_at "w"
  refine if_ff rfl ?_
  walk_at "w"
  refine rd_compL (xs:=ys7) [] (fun _=>.bl true) rfl (SqL.of m7) (by lia) (fun i z H' Qc hz s kc=>?_) (fun l9 H9 n9 s9 m9=>?_)
  ·obtain ⟨d,r,rfl,hd,hi⟩:=r7.get hz
   walk_at "w"
   exact c_law_is_row (s.at hd) (len7 r (List.mem_of_getElem? hi)) fun H7 s7=>kc _ s7
  rw [repl_all] at m9
  walk_at "w"
  refine r_all (SqL.of m9) ?_
  rw [all_repl]
  walk_at "w"
  refine if_ff rfl ?_
  have m79:=s9 _ _ m7
  have r79:=r7.same s9
  have m59:=s9 _ _ m57
  have r59:=r57.same s9
  have hT9:TabK K H9:=hT7.same s9
  clear m6 m9 m7 m57
  walk_at "w"
  rename_i l12 H12 n12 s12 m12
  refine c_keys_for (b:=22) ⟨SqL.of m12,r59.same s12,lt6,len5,bd5,by decide,hT9.same s12,tgt⟩ fun l13 H13 ys13 st13 D qs M n13 sm13 hT13 m13 k13 hK=>?_
  walk_at "w"
  refine c_lost (PD (wd st13.length) D qs) ⟨SqL.of m13,k13,hK.ok.2.2,hK.ok.1,hK.ok.2.1,PD.start,fun i q s s' hq hLo' hP hL'=>hK.next hq hLo' hP hL',fun i q s hq hLo' hP=>hK.fits hq hLo' hP,hT13⟩ fun l14 H14 ys14 st14 n14 sm14 hT14 m14 r14 hLo14 h514 _=>?_
  have e14:st14=st:=(hK.lost hLo14 len5).trans (Mth.SF.uniq hK.sf sf7 hK.len len7 (hK.e.symm.trans eq7))
  subst e14
  have sma:SmT K H9 H14:=((SameT.of s12).trans sm13).trans sm14
  have m714:=sma.lst hT9 m79
  have r714:=r79.sameT sma hT9
  walk_at "w"
  refine r_eqD (.lst (SqL.of m14) r14.tells) (.lst (SqL.of m714) r714.tells) (shaped_rows _) (shaped_rows _) ?_
  rw [eqv_listR,decide_eq_true rfl]
  refine⟨_,rfl,?_⟩
  refine if_tt rfl ?_
  have m514:=sma.lst hT9 m59
  have r514:=r59.sameT sma hT9
  clear m14 r14 m13 k13 m12
  walk_at "w"
  rename_i l15 H15 n15 s15 m15
  refine c_table (b:=22) ⟨SqL.of m15,r514.same s15,lt6,len5,bd5,by decide,hT14.same s15⟩ fun l16 H16 ys16 st16 n16 sm16 hT16 m16 r16 sf16 eq16 len16 c516=>?_
  have e16:st16=st14:=Mth.SF.uniq sf16 sf7 len16 len7 (eq16.symm.trans eq7)
  subst e16
  have smb:SmT K H14 H16:=(SameT.of s15).trans sm16
  have m716:=smb.lst hT14 m714
  have r716:=r714.sameT smb hT14
  walk_at "w"
  refine r_eqD (.lst (SqL.of m16) r16.tells) (.lst (SqL.of m716) r716.tells) (shaped_rows _) (shaped_rows _) ?_
  rw [eqv_listR,decide_eq_true rfl]
  exact k _
end
set_option maxHeartbeats 2000000
theorem all_mk {l : PySem.W.OpenLaw} {w : World} {K : PySem.W.Frag} {h : Heap} {mg : Str → Option Value} {fa : Addr} (X : K.In h) (G0 : h.Ns mainGlobals mg) (htree : l.prog.given.tree=none) (hfa : mg "law"=some (.ref fa)) {c_lam P_lam : Addr} (htb : PySem.W.tabIn K "parted"=some (c_lam, P_lam)) {f0 f1 f2 f3 f4 f5 f6 f7 f8 f9 f10 f11 f12 f13 f14 f15 f16 f17 f18 f19 f20 f21 f22 f23 f24 f25 f26 f27 f28 f29 f30 f31 f32 f33 : Addr} {od0 an0 od1 an1 od2 an2 od3 an3 od4 an4 od5 an5 od6 an6 od7 an7 od8 an8 od9 an9 od10 an10 od11 an11 od12 an12 od13 an13 od14 an14 od15 an15 od16 an16 od17 an17 od18 an18 od19 an19 od20 an20 od21 an21 od22 an22 od23 an23 od24 an24 od25 an25 od26 an26 od27 an27 od28 an28 od29 an29 od30 an30 od31 an31 od32 an32 od33 an33 : Option Addr} {sl0 sl1 sl2 sl3 sl4 sl5 sl6 sl7 sl8 sl9 sl10 sl11 sl12 sl13 sl14 sl15 sl16 sl17 sl18 sl19 sl20 sl21 sl22 sl23 sl24 sl25 sl26 sl27 sl28 sl29 sl30 sl31 sl32 sl33 : Array (Option Value)} {oc0 kV0 dc0 pm0 cd0 ct0 oc1 kV1 dc1 pm1 cd1 ct1 oc2 kV2 dc2 pm2 cd2 ct2 oc3 kV3 dc3 pm3 cd3 ct3 oc4 kV4 dc4 pm4 cd4 ct4 oc5 kV5 dc5 pm5 cd5 ct5 oc6 kV6 dc6 pm6 cd6 ct6 oc7 kV7 dc7 pm7 ct7 oc8 kV8 dc8 pm8 cd8 ct8 oc9 kV9 dc9 pm9 cd9 ct9 oc10 kV10 dc10 pm10 cd10 ct10 oc11 kV11 dc11 pm11 cd11 ct11 oc12 kV12 dc12 pm12 cd12 ct12 oc13 kV13 dc13 pm13 cd13 ct13 oc14 kV14 dc14 pm14 cd14 ct14 oc15 kV15 dc15 pm15 cd15 ct15 oc16 kV16 dc16 pm16 cd16 ct16 oc17 kV17 dc17 pm17 cd17 ct17 oc18 kV18 dc18 pm18 cd18 ct18 oc19 kV19 dc19 pm19 cd19 ct19 oc20 kV20 dc20 pm20 cd20 ct20 oc21 kV21 dc21 pm21 cd21 ct21 oc22 kV22 dc22 pm22 cd22 ct22 oc23 kV23 dc23 pm23 cd23 ct23 oc24 kV24 dc24 pm24 cd24 ct24 oc25 kV25 dc25 pm25 cd25 ct25 oc26 kV26 dc26 pm26 cd26 ct26 oc27 kV27 dc27 pm27 cd27 ct27 oc28 kV28 dc28 pm28 cd28 ct28 oc29 kV29 dc29 pm29 cd29 ct29 oc30 kV30 dc30 pm30 cd30 ct30 oc31 kV31 dc31 pm31 cd31 ct31 oc32 kV32 dc32 pm32 cd32 ct32 oc33 kV33 dc33 pm33 cd33 ct33 : Value} {u_ONE : Addr} {uo_ONE : Option Addr} {un_ONE : Nat} {us_ONE : Array (Option Value)} {t_ONE0 t_ONE1 t_ONE2 t_ONE3 t_ONE4 : Tok} {t_MOST_COMMAS : Tok} {t_MOST_KEYS : Tok} {t_WIDTH : Tok}
    (a0 : PySem.W.nsIn K mainGlobals "divisor_of"=some (some (.ref f0))) (l0 : K.lookup f0=some ⟨oc0, od0, .func (PySem.W.fnOf "divisor_of" "divisor_of" (defArgs s_divisor_of) (defBody s_divisor_of) (defScope s_divisor_of) .none kV0 dc0 pm0 an0 cd0 ct0), sl0⟩) (c0 : PySem.W.codeIn K cd0 "divisor_of"=true) (k0 : PySem.W.keepIn K (.ref f0)=true)
    (a1 : PySem.W.nsIn K mainGlobals "over"=some (some (.ref f1))) (l1 : K.lookup f1=some ⟨oc1, od1, .func (PySem.W.fnOf "over" "over" (defArgs s_over) (defBody s_over) (defScope s_over) .none kV1 dc1 pm1 an1 cd1 ct1), sl1⟩) (c1 : PySem.W.codeIn K cd1 "over"=true) (k1 : PySem.W.keepIn K (.ref f1)=true)
    (a2 : PySem.W.nsIn K mainGlobals "power"=some (some (.ref f2))) (l2 : K.lookup f2=some ⟨oc2, od2, .func (PySem.W.fnOf "power" "power" (defArgs s_power) (defBody s_power) (defScope s_power) .none kV2 dc2 pm2 an2 cd2 ct2), sl2⟩) (c2 : PySem.W.codeIn K cd2 "power"=true) (k2 : PySem.W.keepIn K (.ref f2)=true)
    (a3 : PySem.W.nsIn K mainGlobals "checked_commas"=some (some (.ref f3))) (l3 : K.lookup f3=some ⟨oc3, od3, .func (PySem.W.fnOf "checked_commas" "checked_commas" (defArgs s_checked_commas) (defBody s_checked_commas) (defScope s_checked_commas) .none kV3 dc3 pm3 an3 cd3 ct3), sl3⟩) (c3 : PySem.W.codeIn K cd3 "checked_commas"=true) (k3 : PySem.W.keepIn K (.ref f3)=true)
    (a4 : PySem.W.nsIn K mainGlobals "unit"=some (some (.ref f4))) (l4 : K.lookup f4=some ⟨oc4, od4, .func (PySem.W.fnOf "unit" "unit" (defArgs s_unit) (defBody s_unit) (defScope s_unit) .none kV4 dc4 pm4 an4 cd4 ct4), sl4⟩) (c4 : PySem.W.codeIn K cd4 "unit"=true) (k4 : PySem.W.keepIn K (.ref f4)=true)
    (a5 : PySem.W.nsIn K mainGlobals "lead_place"=some (some (.ref f5))) (l5 : K.lookup f5=some ⟨oc5, od5, .func (PySem.W.fnOf "lead_place" "lead_place" (defArgs s_lead_place) (defBody s_lead_place) (defScope s_lead_place) .none kV5 dc5 pm5 an5 cd5 ct5), sl5⟩) (c5 : PySem.W.codeIn K cd5 "lead_place"=true) (k5 : PySem.W.keepIn K (.ref f5)=true)
    (a6 : PySem.W.nsIn K mainGlobals "lowered"=some (some (.ref f6))) (l6 : K.lookup f6=some ⟨oc6, od6, .func (PySem.W.fnOf "lowered" "lowered" (defArgs s_lowered) (defBody s_lowered) (defScope s_lowered) .none kV6 dc6 pm6 an6 cd6 ct6), sl6⟩) (c6 : PySem.W.codeIn K cd6 "lowered"=true) (k6 : PySem.W.keepIn K (.ref f6)=true)
    (a7 : PySem.W.nsIn K mainGlobals "parted"=some (some (.ref f7))) (l7 : K.lookup f7=some ⟨oc7, od7, .func (PySem.W.fnOf "parted" "parted" (defArgs s_parted) (defBody s_parted) (defScope s_parted) .none kV7 dc7 pm7 an7 (.ref c_lam) ct7), sl7⟩) (c7 : PySem.W.codeIn K (.ref c_lam) "parted"=true) (k7 : PySem.W.keepIn K (.ref f7)=true)
    (a8 : PySem.W.nsIn K mainGlobals "stepped"=some (some (.ref f8))) (l8 : K.lookup f8=some ⟨oc8, od8, .func (PySem.W.fnOf "stepped" "stepped" (defArgs s_stepped) (defBody s_stepped) (defScope s_stepped) .none kV8 dc8 pm8 an8 cd8 ct8), sl8⟩) (c8 : PySem.W.codeIn K cd8 "stepped"=true) (k8 : PySem.W.keepIn K (.ref f8)=true)
    (a9 : PySem.W.nsIn K mainGlobals "table"=some (some (.ref f9))) (l9 : K.lookup f9=some ⟨oc9, od9, .func (PySem.W.fnOf "table" "table" (defArgs s_table) (defBody s_table) (defScope s_table) .none kV9 dc9 pm9 an9 cd9 ct9), sl9⟩) (c9 : PySem.W.codeIn K cd9 "table"=true) (k9 : PySem.W.keepIn K (.ref f9)=true)
    (a10 : PySem.W.nsIn K mainGlobals "heard"=some (some (.ref f10))) (l10 : K.lookup f10=some ⟨oc10, od10, .func (PySem.W.fnOf "heard" "heard" (defArgs s_heard) (defBody s_heard) (defScope s_heard) .none kV10 dc10 pm10 an10 cd10 ct10), sl10⟩) (c10 : PySem.W.codeIn K cd10 "heard"=true) (k10 : PySem.W.keepIn K (.ref f10)=true)
    (a11 : PySem.W.nsIn K mainGlobals "value"=some (some (.ref f11))) (l11 : K.lookup f11=some ⟨oc11, od11, .func (PySem.W.fnOf "value" "value" (defArgs s_value) (defBody s_value) (defScope s_value) .none kV11 dc11 pm11 an11 cd11 ct11), sl11⟩) (c11 : PySem.W.codeIn K cd11 "value"=true) (k11 : PySem.W.keepIn K (.ref f11)=true)
    (a12 : PySem.W.nsIn K mainGlobals "by_place"=some (some (.ref f12))) (l12 : K.lookup f12=some ⟨oc12, od12, .func (PySem.W.fnOf "by_place" "by_place" (defArgs s_by_place) (defBody s_by_place) (defScope s_by_place) .none kV12 dc12 pm12 an12 cd12 ct12), sl12⟩) (c12 : PySem.W.codeIn K cd12 "by_place"=true) (k12 : PySem.W.keepIn K (.ref f12)=true)
    (a13 : PySem.W.nsIn K mainGlobals "product_of_leads"=some (some (.ref f13))) (l13 : K.lookup f13=some ⟨oc13, od13, .func (PySem.W.fnOf "product_of_leads" "product_of_leads" (defArgs s_product_of_leads) (defBody s_product_of_leads) (defScope s_product_of_leads) .none kV13 dc13 pm13 an13 cd13 ct13), sl13⟩) (c13 : PySem.W.codeIn K cd13 "product_of_leads"=true) (k13 : PySem.W.keepIn K (.ref f13)=true)
    (a14 : PySem.W.nsIn K mainGlobals "weights_for"=some (some (.ref f14))) (l14 : K.lookup f14=some ⟨oc14, od14, .func (PySem.W.fnOf "weights_for" "weights_for" (defArgs s_weights_for) (defBody s_weights_for) (defScope s_weights_for) .none kV14 dc14 pm14 an14 cd14 ct14), sl14⟩) (c14 : PySem.W.codeIn K cd14 "weights_for"=true) (k14 : PySem.W.keepIn K (.ref f14)=true)
    (a15 : PySem.W.nsIn K mainGlobals "key_of"=some (some (.ref f15))) (l15 : K.lookup f15=some ⟨oc15, od15, .func (PySem.W.fnOf "key_of" "key_of" (defArgs s_key_of) (defBody s_key_of) (defScope s_key_of) .none kV15 dc15 pm15 an15 cd15 ct15), sl15⟩) (c15 : PySem.W.codeIn K cd15 "key_of"=true) (k15 : PySem.W.keepIn K (.ref f15)=true)
    (a16 : PySem.W.nsIn K mainGlobals "keys_by_place"=some (some (.ref f16))) (l16 : K.lookup f16=some ⟨oc16, od16, .func (PySem.W.fnOf "keys_by_place" "keys_by_place" (defArgs s_keys_by_place) (defBody s_keys_by_place) (defScope s_keys_by_place) .none kV16 dc16 pm16 an16 cd16 ct16), sl16⟩) (c16 : PySem.W.codeIn K cd16 "keys_by_place"=true) (k16 : PySem.W.keepIn K (.ref f16)=true)
    (a17 : PySem.W.nsIn K mainGlobals "checked_keys"=some (some (.ref f17))) (l17 : K.lookup f17=some ⟨oc17, od17, .func (PySem.W.fnOf "checked_keys" "checked_keys" (defArgs s_checked_keys) (defBody s_checked_keys) (defScope s_checked_keys) .none kV17 dc17 pm17 an17 cd17 ct17), sl17⟩) (c17 : PySem.W.codeIn K cd17 "checked_keys"=true) (k17 : PySem.W.keepIn K (.ref f17)=true)
    (a18 : PySem.W.nsIn K mainGlobals "lost_among"=some (some (.ref f18))) (l18 : K.lookup f18=some ⟨oc18, od18, .func (PySem.W.fnOf "lost_among" "lost_among" (defArgs s_lost_among) (defBody s_lost_among) (defScope s_lost_among) .none kV18 dc18 pm18 an18 cd18 ct18), sl18⟩) (c18 : PySem.W.codeIn K cd18 "lost_among"=true) (k18 : PySem.W.keepIn K (.ref f18)=true)
    (a19 : PySem.W.nsIn K mainGlobals "lost"=some (some (.ref f19))) (l19 : K.lookup f19=some ⟨oc19, od19, .func (PySem.W.fnOf "lost" "lost" (defArgs s_lost) (defBody s_lost) (defScope s_lost) .none kV19 dc19 pm19 an19 cd19 ct19), sl19⟩) (c19 : PySem.W.codeIn K cd19 "lost"=true) (k19 : PySem.W.keepIn K (.ref f19)=true)
    (a20 : PySem.W.nsIn K mainGlobals "keys_for"=some (some (.ref f20))) (l20 : K.lookup f20=some ⟨oc20, od20, .func (PySem.W.fnOf "keys_for" "keys_for" (defArgs s_keys_for) (defBody s_keys_for) (defScope s_keys_for) .none kV20 dc20 pm20 an20 cd20 ct20), sl20⟩) (c20 : PySem.W.codeIn K cd20 "keys_for"=true) (k20 : PySem.W.keepIn K (.ref f20)=true)
    (a21 : PySem.W.nsIn K mainGlobals "_law_cells"=some (some (.ref f21))) (l21 : K.lookup f21=some ⟨oc21, od21, .func (PySem.W.fnOf "_law_cells" "_law_cells" (defArgs s_law_cells) (defBody s_law_cells) (defScope s_law_cells) .none kV21 dc21 pm21 an21 cd21 ct21), sl21⟩) (c21 : PySem.W.codeIn K cd21 "_law_cells"=true) (k21 : PySem.W.keepIn K (.ref f21)=true)
    (a22 : PySem.W.nsIn K mainGlobals "_law_near"=some (some (.ref f22))) (l22 : K.lookup f22=some ⟨oc22, od22, .func (PySem.W.fnOf "_law_near" "_law_near" (defArgs s_law_near) (defBody s_law_near) (defScope s_law_near) .none kV22 dc22 pm22 an22 cd22 ct22), sl22⟩) (c22 : PySem.W.codeIn K cd22 "_law_near"=true) (k22 : PySem.W.keepIn K (.ref f22)=true)
    (a23 : PySem.W.nsIn K mainGlobals "_law_plus"=some (some (.ref f23))) (l23 : K.lookup f23=some ⟨oc23, od23, .func (PySem.W.fnOf "_law_plus" "_law_plus" (defArgs s_law_plus) (defBody s_law_plus) (defScope s_law_plus) .none kV23 dc23 pm23 an23 cd23 ct23), sl23⟩) (c23 : PySem.W.codeIn K cd23 "_law_plus"=true) (k23 : PySem.W.keepIn K (.ref f23)=true)
    (a24 : PySem.W.nsIn K mainGlobals "_law_gathered"=some (some (.ref f24))) (l24 : K.lookup f24=some ⟨oc24, od24, .func (PySem.W.fnOf "_law_gathered" "_law_gathered" (defArgs s_law_gathered) (defBody s_law_gathered) (defScope s_law_gathered) .none kV24 dc24 pm24 an24 cd24 ct24), sl24⟩) (c24 : PySem.W.codeIn K cd24 "_law_gathered"=true) (k24 : PySem.W.keepIn K (.ref f24)=true)
    (a25 : PySem.W.nsIn K mainGlobals "_law_steps"=some (some (.ref f25))) (l25 : K.lookup f25=some ⟨oc25, od25, .func (PySem.W.fnOf "_law_steps" "_law_steps" (defArgs s_law_steps) (defBody s_law_steps) (defScope s_law_steps) .none kV25 dc25 pm25 an25 cd25 ct25), sl25⟩) (c25 : PySem.W.codeIn K cd25 "_law_steps"=true) (k25 : PySem.W.keepIn K (.ref f25)=true)
    (a26 : PySem.W.nsIn K mainGlobals "_law_is_made"=some (some (.ref f26))) (l26 : K.lookup f26=some ⟨oc26, od26, .func (PySem.W.fnOf "_law_is_made" "_law_is_made" (defArgs s_law_is_made) (defBody s_law_is_made) (defScope s_law_is_made) .none kV26 dc26 pm26 an26 cd26 ct26), sl26⟩) (c26 : PySem.W.codeIn K cd26 "_law_is_made"=true) (k26 : PySem.W.keepIn K (.ref f26)=true)
    (a27 : PySem.W.nsIn K mainGlobals "_law_divisor"=some (some (.ref f27))) (l27 : K.lookup f27=some ⟨oc27, od27, .func (PySem.W.fnOf "_law_divisor" "_law_divisor" (defArgs s_law_divisor) (defBody s_law_divisor) (defScope s_law_divisor) .none kV27 dc27 pm27 an27 cd27 ct27), sl27⟩) (c27 : PySem.W.codeIn K cd27 "_law_divisor"=true) (k27 : PySem.W.keepIn K (.ref f27)=true)
    (a28 : PySem.W.nsIn K mainGlobals "_law_lost"=some (some (.ref f28))) (l28 : K.lookup f28=some ⟨oc28, od28, .func (PySem.W.fnOf "_law_lost" "_law_lost" (defArgs s_law_lost) (defBody s_law_lost) (defScope s_law_lost) .none kV28 dc28 pm28 an28 cd28 ct28), sl28⟩) (c28 : PySem.W.codeIn K cd28 "_law_lost"=true) (k28 : PySem.W.keepIn K (.ref f28)=true)
    (a29 : PySem.W.nsIn K mainGlobals "_law_is_row"=some (some (.ref f29))) (l29 : K.lookup f29=some ⟨oc29, od29, .func (PySem.W.fnOf "_law_is_row" "_law_is_row" (defArgs s_law_is_row) (defBody s_law_is_row) (defScope s_law_is_row) .none kV29 dc29 pm29 an29 cd29 ct29), sl29⟩) (c29 : PySem.W.codeIn K cd29 "_law_is_row"=true) (k29 : PySem.W.keepIn K (.ref f29)=true)
    (a30 : PySem.W.nsIn K mainGlobals "_law_any_rows"=some (some (.ref f30))) (l30 : K.lookup f30=some ⟨oc30, od30, .func (PySem.W.fnOf "_law_any_rows" "_law_any_rows" (defArgs s_law_any_rows) (defBody s_law_any_rows) (defScope s_law_any_rows) .none kV30 dc30 pm30 an30 cd30 ct30), sl30⟩) (c30 : PySem.W.codeIn K cd30 "_law_any_rows"=true) (k30 : PySem.W.keepIn K (.ref f30)=true)
    (a31 : PySem.W.nsIn K mainGlobals "_law_powered"=some (some (.ref f31))) (l31 : K.lookup f31=some ⟨oc31, od31, .func (PySem.W.fnOf "_law_powered" "_law_powered" (defArgs s_law_powered) (defBody s_law_powered) (defScope s_law_powered) .none kV31 dc31 pm31 an31 cd31 ct31), sl31⟩) (c31 : PySem.W.codeIn K cd31 "_law_powered"=true) (k31 : PySem.W.keepIn K (.ref f31)=true)
    (a32 : PySem.W.nsIn K mainGlobals "_law_keys_hold"=some (some (.ref f32))) (l32 : K.lookup f32=some ⟨oc32, od32, .func (PySem.W.fnOf "_law_keys_hold" "_law_keys_hold" (defArgs s_law_keys_hold) (defBody s_law_keys_hold) (defScope s_law_keys_hold) .none kV32 dc32 pm32 an32 cd32 ct32), sl32⟩) (c32 : PySem.W.codeIn K cd32 "_law_keys_hold"=true) (k32 : PySem.W.keepIn K (.ref f32)=true)
    (a33 : PySem.W.nsIn K mainGlobals "law"=some (some (.ref f33))) (l33 : K.lookup f33=some ⟨oc33, od33, .func (PySem.W.fnOf "law" "law" (defArgs s_law) (defBody s_law) (defScope s_law) .none kV33 dc33 pm33 an33 cd33 ct33), sl33⟩) (c33 : PySem.W.codeIn K cd33 "law"=true) (k33 : PySem.W.keepIn K (.ref f33)=true)
     (x_ONE : PySem.W.nsIn K mainGlobals "ONE"=some (some (.ref u_ONE))) (y_ONE : K.lookup u_ONE=some ⟨.type "tuple", uo_ONE, .seq #[.int 0 t_ONE0, .int 0 t_ONE1, .int 0 t_ONE2, .int 0 t_ONE3, .int 0 t_ONE4] un_ONE, us_ONE⟩) (x_MOST_COMMAS : PySem.W.nsIn K mainGlobals "MOST_COMMAS"=some (some (.int 6 t_MOST_COMMAS))) (x_MOST_KEYS : PySem.W.nsIn K mainGlobals "MOST_KEYS"=some (some (.int 6 t_MOST_KEYS))) (x_WIDTH : PySem.W.nsIn K mainGlobals "WIDTH"=some (some (.int 5 t_WIDTH))) (z_abs : PySem.W.nsIn K mainGlobals "abs"=some none) (z_all : PySem.W.nsIn K mainGlobals "all"=some none) (z_bool : PySem.W.nsIn K mainGlobals "bool"=some none) (z_enumerate : PySem.W.nsIn K mainGlobals "enumerate"=some none) (z_int : PySem.W.nsIn K mainGlobals "int"=some none) (z_isinstance : PySem.W.nsIn K mainGlobals "isinstance"=some none) (z_len : PySem.W.nsIn K mainGlobals "len"=some none) (z_list : PySem.W.nsIn K mainGlobals "list"=some none) (z_max : PySem.W.nsIn K mainGlobals "max"=some none) (z_min : PySem.W.nsIn K mainGlobals "min"=some none) (z_range : PySem.W.nsIn K mainGlobals "range"=some none) (z_sorted : PySem.W.nsIn K mainGlobals "sorted"=some none) (z_sum : PySem.W.nsIn K mainGlobals "sum"=some none) (z_tuple : PySem.W.nsIn K mainGlobals "tuple"=some none) (z_zip : PySem.W.nsIn K mainGlobals "zip"=some none) :
    ∃ fd : FuncData, (∀ (s : Shared) (v : Value), BindsTo s fd ⟨[v], []⟩ [("_law_script", v)]) ∧ ∀ base : Heap, K.In base → base.Ns mainGlobals mg → PySem.W.CodeHd base c_lam P_lam → base.BuiltinsAt mg P_lam → base.NoSeer → FnOk l.prog w K mg base CX0 69 fa fd ["_law_script"] ((spLawT "parted" lpP "parted.<locals>.<lambda>") K) := by
  have e := hfa.symm.trans (PySem.W.mg_of X G0 a33)
  cases e
  have T : Txt K mg ⟨u_ONE, t_MOST_COMMAS, t_MOST_KEYS, t_WIDTH, c_lam⟩ := ⟨PySem.W.mg_none_of X G0 z_abs, PySem.W.mg_none_of X G0 z_all, PySem.W.mg_none_of X G0 z_bool, PySem.W.mg_none_of X G0 z_enumerate, PySem.W.mg_none_of X G0 z_int, PySem.W.mg_none_of X G0 z_isinstance, PySem.W.mg_none_of X G0 z_len, PySem.W.mg_none_of X G0 z_list, PySem.W.mg_none_of X G0 z_max, PySem.W.mg_none_of X G0 z_min, PySem.W.mg_none_of X G0 z_range, PySem.W.mg_none_of X G0 z_sorted, PySem.W.mg_none_of X G0 z_sum, PySem.W.mg_none_of X G0 z_tuple, PySem.W.mg_none_of X G0 z_zip, PySem.W.mg_of X G0 x_ONE, fun H => .inr ⟨_, _, _, y_ONE, rfl, rfl, by show 5 ≤ sizeLine;decide, (.cons ⟨_, rfl⟩ (.cons ⟨_, rfl⟩ (.cons ⟨_, rfl⟩ (.cons ⟨_, rfl⟩ (.cons ⟨_, rfl⟩ .nil)))))⟩, PySem.W.mg_of X G0 x_MOST_COMMAS, PySem.W.mg_of X G0 x_MOST_KEYS, PySem.W.mg_of X G0 x_WIDTH⟩
  have F0 := fun_mk (st := s_divisor_of) l0 c0 k0
  have D_divisor_of : Def K mg "divisor_of" s_divisor_of ["numbers"] := ⟨_, _, F0, PySem.W.mg_of X G0 a0, F0.binds (ps := ["numbers"]) fun _ _ _ _ _ _ us hl => of_len1 us hl fun _ => rfl⟩
  have F1 := fun_mk (st := s_over) l1 c1 k1
  have D_over : Def K mg "over" s_over ["one", "other"] := ⟨_, _, F1, PySem.W.mg_of X G0 a1, F1.binds (ps := ["one", "other"]) fun _ _ _ _ _ _ us hl => of_len2 us hl fun _ _ => rfl⟩
  have F2 := fun_mk (st := s_power) l2 c2 k2
  have D_power : Def K mg "power" s_power ["row", "n"] := ⟨_, _, F2, PySem.W.mg_of X G0 a2, F2.binds (ps := ["row", "n"]) fun _ _ _ _ _ _ us hl => of_len2 us hl fun _ _ => rfl⟩
  have F3 := fun_mk (st := s_checked_commas) l3 c3 k3
  have D_checked_commas : Def K mg "checked_commas" s_checked_commas ["commas"] := ⟨_, _, F3, PySem.W.mg_of X G0 a3, F3.binds (ps := ["commas"]) fun _ _ _ _ _ _ us hl => of_len1 us hl fun _ => rfl⟩
  have F4 := fun_mk (st := s_unit) l4 c4 k4
  have D_unit : Def K mg "unit" s_unit ["place", "size"] := ⟨_, _, F4, PySem.W.mg_of X G0 a4, F4.binds (ps := ["place", "size"]) fun _ _ _ _ _ _ us hl => of_len2 us hl fun _ _ => rfl⟩
  have F5 := fun_mk (st := s_lead_place) l5 c5 k5
  have D_lead_place : Def K mg "lead_place" s_lead_place ["row"] := ⟨_, _, F5, PySem.W.mg_of X G0 a5, F5.binds (ps := ["row"]) fun _ _ _ _ _ _ us hl => of_len1 us hl fun _ => rfl⟩
  have F6 := fun_mk (st := s_lowered) l6 c6 k6
  have D_lowered : Def K mg "lowered" s_lowered ["vector", "step", "place"] := ⟨_, _, F6, PySem.W.mg_of X G0 a6, F6.binds (ps := ["vector", "step", "place"]) fun _ _ _ _ _ _ us hl => of_len3 us hl fun _ _ _ => rfl⟩
  have D_parted : DefT K mg "parted" s_parted ["vectors", "place"] c_lam := ⟨_, _, _, _, _, _, _, _, _, _, rfl, l7, c7, k7, PySem.W.mg_of X G0 a7, .all fun us hl => match us, hl with|[_, _], _ => rfl⟩
  have F8 := fun_mk (st := s_stepped) l8 c8 k8
  have D_stepped : Def K mg "stepped" s_stepped ["vectors", "size"] := ⟨_, _, F8, PySem.W.mg_of X G0 a8, F8.binds (ps := ["vectors", "size"]) fun _ _ _ _ _ _ us hl => of_len2 us hl fun _ _ => rfl⟩
  have F9 := fun_mk (st := s_table) l9 c9 k9
  have D_table : Def K mg "table" s_table ["commas"] := ⟨_, _, F9, PySem.W.mg_of X G0 a9, F9.binds (ps := ["commas"]) fun _ _ _ _ _ _ us hl => of_len1 us hl fun _ => rfl⟩
  have F10 := fun_mk (st := s_heard) l10 c10 k10
  have D_heard : Def K mg "heard" s_heard ["weights", "row"] := ⟨_, _, F10, PySem.W.mg_of X G0 a10, F10.binds (ps := ["weights", "row"]) fun _ _ _ _ _ _ us hl => of_len2 us hl fun _ _ => rfl⟩
  have F11 := fun_mk (st := s_value) l11 c11 k11
  have D_value : Def K mg "value" s_value ["key", "row"] := ⟨_, _, F11, PySem.W.mg_of X G0 a11, F11.binds (ps := ["key", "row"]) fun _ _ _ _ _ _ us hl => of_len2 us hl fun _ _ => rfl⟩
  have F12 := fun_mk (st := s_by_place) l12 c12 k12
  have D_by_place : Def K mg "by_place" s_by_place ["steps"] := ⟨_, _, F12, PySem.W.mg_of X G0 a12, F12.binds (ps := ["steps"]) fun _ _ _ _ _ _ us hl => of_len1 us hl fun _ => rfl⟩
  have F13 := fun_mk (st := s_product_of_leads) l13 c13 k13
  have D_product_of_leads : Def K mg "product_of_leads" s_product_of_leads ["steps"] := ⟨_, _, F13, PySem.W.mg_of X G0 a13, F13.binds (ps := ["steps"]) fun _ _ _ _ _ _ us hl => of_len1 us hl fun _ => rfl⟩
  have F14 := fun_mk (st := s_weights_for) l14 c14 k14
  have D_weights_for : Def K mg "weights_for" s_weights_for ["rows", "place", "whole"] := ⟨_, _, F14, PySem.W.mg_of X G0 a14, F14.binds (ps := ["rows", "place", "whole"]) fun _ _ _ _ _ _ us hl => of_len3 us hl fun _ _ _ => rfl⟩
  have F15 := fun_mk (st := s_key_of) l15 c15 k15
  have D_key_of : Def K mg "key_of" s_key_of ["weights", "ring"] := ⟨_, _, F15, PySem.W.mg_of X G0 a15, F15.binds (ps := ["weights", "ring"]) fun _ _ _ _ _ _ us hl => of_len2 us hl fun _ _ => rfl⟩
  have F16 := fun_mk (st := s_keys_by_place) l16 c16 k16
  have D_keys_by_place : Def K mg "keys_by_place" s_keys_by_place ["steps"] := ⟨_, _, F16, PySem.W.mg_of X G0 a16, F16.binds (ps := ["steps"]) fun _ _ _ _ _ _ us hl => of_len1 us hl fun _ => rfl⟩
  have F17 := fun_mk (st := s_checked_keys) l17 c17 k17
  have D_checked_keys : Def K mg "checked_keys" s_checked_keys ["keys"] := ⟨_, _, F17, PySem.W.mg_of X G0 a17, F17.binds (ps := ["keys"]) fun _ _ _ _ _ _ us hl => of_len1 us hl fun _ => rfl⟩
  have F18 := fun_mk (st := s_lost_among) l18 c18 k18
  have D_lost_among : Def K mg "lost_among" s_lost_among ["rows", "key"] := ⟨_, _, F18, PySem.W.mg_of X G0 a18, F18.binds (ps := ["rows", "key"]) fun _ _ _ _ _ _ us hl => of_len2 us hl fun _ _ => rfl⟩
  have F19 := fun_mk (st := s_lost) l19 c19 k19
  have D_lost : Def K mg "lost" s_lost ["keys"] := ⟨_, _, F19, PySem.W.mg_of X G0 a19, F19.binds (ps := ["keys"]) fun _ _ _ _ _ _ us hl => of_len1 us hl fun _ => rfl⟩
  have F20 := fun_mk (st := s_keys_for) l20 c20 k20
  have D_keys_for : Def K mg "keys_for" s_keys_for ["commas"] := ⟨_, _, F20, PySem.W.mg_of X G0 a20, F20.binds (ps := ["commas"]) fun _ _ _ _ _ _ us hl => of_len1 us hl fun _ => rfl⟩
  have F21 := fun_mk (st := s_law_cells) l21 c21 k21
  have D_law_cells : Def K mg "_law_cells" s_law_cells ["_law_script"] := ⟨_, _, F21, PySem.W.mg_of X G0 a21, F21.binds (ps := ["_law_script"]) fun _ _ _ _ _ _ us hl => of_len1 us hl fun _ => rfl⟩
  have F22 := fun_mk (st := s_law_near) l22 c22 k22
  have D_law_near : Def K mg "_law_near" s_law_near ["_law_cell", "_law_most"] := ⟨_, _, F22, PySem.W.mg_of X G0 a22, F22.binds (ps := ["_law_cell", "_law_most"]) fun _ _ _ _ _ _ us hl => of_len2 us hl fun _ _ => rfl⟩
  have F23 := fun_mk (st := s_law_plus) l23 c23 k23
  have D_law_plus : Def K mg "_law_plus" s_law_plus ["_law_one", "_law_q", "_law_other"] := ⟨_, _, F23, PySem.W.mg_of X G0 a23, F23.binds (ps := ["_law_one", "_law_q", "_law_other"]) fun _ _ _ _ _ _ us hl => of_len3 us hl fun _ _ _ => rfl⟩
  have F24 := fun_mk (st := s_law_gathered) l24 c24 k24
  have D_law_gathered : Def K mg "_law_gathered" s_law_gathered ["_law_rows", "_law_place"] := ⟨_, _, F24, PySem.W.mg_of X G0 a24, F24.binds (ps := ["_law_rows", "_law_place"]) fun _ _ _ _ _ _ us hl => of_len2 us hl fun _ _ => rfl⟩
  have F25 := fun_mk (st := s_law_steps) l25 c25 k25
  have D_law_steps : Def K mg "_law_steps" s_law_steps ["_law_rows"] := ⟨_, _, F25, PySem.W.mg_of X G0 a25, F25.binds (ps := ["_law_rows"]) fun _ _ _ _ _ _ us hl => of_len1 us hl fun _ => rfl⟩
  have F26 := fun_mk (st := s_law_is_made) l26 c26 k26
  have D_law_is_made : Def K mg "_law_is_made" s_law_is_made ["_law_steps_here", "_law_row"] := ⟨_, _, F26, PySem.W.mg_of X G0 a26, F26.binds (ps := ["_law_steps_here", "_law_row"]) fun _ _ _ _ _ _ us hl => of_len2 us hl fun _ _ => rfl⟩
  have F27 := fun_mk (st := s_law_divisor) l27 c27 k27
  have D_law_divisor : Def K mg "_law_divisor" s_law_divisor ["_law_one", "_law_other"] := ⟨_, _, F27, PySem.W.mg_of X G0 a27, F27.binds (ps := ["_law_one", "_law_other"]) fun _ _ _ _ _ _ us hl => of_len2 us hl fun _ _ => rfl⟩
  have F28 := fun_mk (st := s_law_lost) l28 c28 k28
  have D_law_lost : Def K mg "_law_lost" s_law_lost ["_law_keys"] := ⟨_, _, F28, PySem.W.mg_of X G0 a28, F28.binds (ps := ["_law_keys"]) fun _ _ _ _ _ _ us hl => of_len1 us hl fun _ => rfl⟩
  have F29 := fun_mk (st := s_law_is_row) l29 c29 k29
  have D_law_is_row : Def K mg "_law_is_row" s_law_is_row ["_law_found"] := ⟨_, _, F29, PySem.W.mg_of X G0 a29, F29.binds (ps := ["_law_found"]) fun _ _ _ _ _ _ us hl => of_len1 us hl fun _ => rfl⟩
  have F30 := fun_mk (st := s_law_any_rows) l30 c30 k30
  have D_law_any_rows : Def K mg "_law_any_rows" s_law_any_rows ["_law_cells_here", "_law_many", "_law_most"] := ⟨_, _, F30, PySem.W.mg_of X G0 a30, F30.binds (ps := ["_law_cells_here", "_law_many", "_law_most"]) fun _ _ _ _ _ _ us hl => of_len3 us hl fun _ _ _ => rfl⟩
  have F31 := fun_mk (st := s_law_powered) l31 c31 k31
  have D_law_powered : Def K mg "_law_powered" s_law_powered ["_law_rows", "_law_cell"] := ⟨_, _, F31, PySem.W.mg_of X G0 a31, F31.binds (ps := ["_law_rows", "_law_cell"]) fun _ _ _ _ _ _ us hl => of_len2 us hl fun _ _ => rfl⟩
  have F32 := fun_mk (st := s_law_keys_hold) l32 c32 k32
  have D_law_keys_hold : Def K mg "_law_keys_hold" s_law_keys_hold ["_law_cells_here", "_law_many", "_law_most"] := ⟨_, _, F32, PySem.W.mg_of X G0 a32, F32.binds (ps := ["_law_cells_here", "_law_many", "_law_most"]) fun _ _ _ _ _ _ us hl => of_len3 us hl fun _ _ _ => rfl⟩
  have F33 := fun_mk (st := s_law) l33 c33 k33
  refine⟨PySem.W.fnOf "law" "law" (defArgs s_law) (defBody s_law) (defScope s_law) .none kV33 dc33 pm33 an33 cd33 ct33, fun s v => .of_eq rfl, fun base _ _ hc_lam hb_lam hSeer => ?_⟩
  have B_lam : PySem.W.CodeHd base c_lam (tabP K "parted") ∧ base.BuiltinsAt mg (tabP K "parted") := by rw [tabP_of htb];exact⟨hc_lam, hb_lam⟩
  have Y : base.NoSeer ∧ l.prog.given.tree=none := ⟨hSeer, htree⟩
  have O_divisor_of := ok_divisor_of (P := l.prog) (w := w) (base := base) D_divisor_of T Y
  have O_over := ok_over (P := l.prog) (w := w) (base := base) D_over T Y
  have O_power := ok_power (P := l.prog) (w := w) (base := base) D_power T Y
  have O_checked_commas := ok_checked_commas (P := l.prog) (w := w) (base := base) D_checked_commas T Y
  have O_unit := ok_unit (P := l.prog) (w := w) (base := base) D_unit T Y
  have O_lead_place := ok_lead_place (P := l.prog) (w := w) (base := base) D_lead_place T Y
  have O_heard := ok_heard (P := l.prog) (w := w) (base := base) D_heard T Y
  have O_checked_keys := ok_checked_keys (P := l.prog) (w := w) (base := base) D_checked_keys T Y
  have O_law_cells := ok_law_cells (P := l.prog) (w := w) (base := base) D_law_cells T Y
  have O_law_near := ok_law_near (P := l.prog) (w := w) (base := base) D_law_near T Y
  have O_law_plus := ok_law_plus (P := l.prog) (w := w) (base := base) D_law_plus T Y
  have O_law_divisor := ok_law_divisor (P := l.prog) (w := w) (base := base) D_law_divisor T Y
  have O_law_is_row := ok_law_is_row (P := l.prog) (w := w) (base := base) D_law_is_row T Y
  have O_law_powered := ok_law_powered (P := l.prog) (w := w) (base := base) D_law_powered T Y
  have O_value := ok_value (P := l.prog) (w := w) (base := base) D_value T ⟨O_heard⟩ Y
  have O_by_place := ok_by_place (P := l.prog) (w := w) (base := base) D_by_place T ⟨O_unit, O_lead_place⟩ Y
  have O_product_of_leads := ok_product_of_leads (P := l.prog) (w := w) (base := base) D_product_of_leads T ⟨O_lead_place⟩ Y
  have O_weights_for := ok_weights_for (P := l.prog) (w := w) (base := base) D_weights_for T ⟨O_heard⟩ Y
  have O_law_any_rows := ok_law_any_rows (P := l.prog) (w := w) (base := base) D_law_any_rows T ⟨O_law_near⟩ Y
  have O_lowered := ok_lowered (P := l.prog) (w := w) (base := base) D_lowered T ⟨O_over, O_power⟩ Y
  have O_key_of := ok_key_of (P := l.prog) (w := w) (base := base) D_key_of T ⟨O_divisor_of⟩ Y
  have O_law_gathered := ok_law_gathered (P := l.prog) (w := w) (base := base) D_law_gathered T ⟨O_law_plus⟩ Y
  have O_law_is_made := ok_law_is_made (P := l.prog) (w := w) (base := base) D_law_is_made T ⟨O_law_plus⟩ Y
  have O_parted := ok_parted (P := l.prog) (w := w) (base := base) D_parted T ⟨O_power, O_lowered⟩ Y B_lam
  have O_keys_by_place := ok_keys_by_place (P := l.prog) (w := w) (base := base) D_keys_by_place T ⟨O_lead_place, O_by_place, O_product_of_leads, O_weights_for, O_key_of⟩ Y
  have O_law_steps := ok_law_steps (P := l.prog) (w := w) (base := base) D_law_steps T ⟨O_law_gathered⟩ Y
  have O_stepped := ok_stepped (P := l.prog) (w := w) (base := base) D_stepped T ⟨O_lowered, O_parted⟩ Y
  have O_table := ok_table (P := l.prog) (w := w) (base := base) D_table T ⟨O_checked_commas, O_stepped⟩ Y
  have O_lost_among := ok_lost_among (P := l.prog) (w := w) (base := base) D_lost_among T ⟨O_stepped, O_value⟩ Y
  have O_lost := ok_lost (P := l.prog) (w := w) (base := base) D_lost T ⟨O_unit, O_stepped, O_checked_keys, O_lost_among⟩ Y
  have O_keys_for := ok_keys_for (P := l.prog) (w := w) (base := base) D_keys_for T ⟨O_table, O_keys_by_place, O_lost⟩ Y
  have O_law_lost := ok_law_lost (P := l.prog) (w := w) (base := base) D_law_lost T ⟨O_law_plus, O_law_gathered, O_law_divisor⟩ Y
  have O_law_keys_hold := ok_law_keys_hold (P := l.prog) (w := w) (base := base) D_law_keys_hold T ⟨O_lost, O_keys_for, O_law_steps, O_law_is_made, O_law_lost, O_law_is_row, O_law_any_rows, O_law_powered⟩ Y
  exact fn_law F33 T ⟨O_table, O_lost, O_keys_for, O_law_cells, O_law_is_row, O_law_any_rows, O_law_powered, O_law_keys_hold⟩ Y
end Law
open PySem PySem.W PyProof.Rows
set_option maxRecDepth 100000 in
set_option maxHeartbeats 0 in
theorem PySem.Challenge.cw_tuningyard_k53_whole_there_and_back_holds : PySem.Challenge.rw_tuningyard_k53_whole_there_and_back.Holds := by
 w_on;o_law;k_head;(case hw=>w_witness2)
 k_fill
 refine' L2.walk_ofS (l:=PySem.Challenge.rw_tuningyard_k53_whole_there_and_back) (k:=69) (x:="_law_script") "parted" Law.lpP "parted.<locals>.<lambda>" (by decide +kernel) rfl rfl ⟨rfl,by decide,by decide⟩ ?hY ?ht ?hh ?hk ?F
 case hY=>exact fun w h Y=>⟨PySem.W.km_in_of Y,PySem.W.km_tabs_of Y _ (List.Mem.head _)⟩
 case ht=>exact fun w=>rfl
 case hh=>intro w;kernel_rfl
 case hk=>intro w;kernel_rfl
 case F =>
  intro w mg fa h KX G hmg htb
  refine' Law.all_mk KX G rfl hmg htb ?a0 ?l0 ?c0 ?k0 ?a1 ?l1 ?c1 ?k1 ?a2 ?l2 ?c2 ?k2 ?a3 ?l3 ?c3 ?k3 ?a4 ?l4 ?c4 ?k4 ?a5 ?l5 ?c5 ?k5 ?a6 ?l6 ?c6 ?k6 ?a7 ?l7 ?c7 ?k7 ?a8 ?l8 ?c8 ?k8 ?a9 ?l9 ?c9 ?k9 ?a10 ?l10 ?c10 ?k10 ?a11 ?l11 ?c11 ?k11 ?a12 ?l12 ?c12 ?k12 ?a13 ?l13 ?c13 ?k13 ?a14 ?l14 ?c14 ?k14 ?a15 ?l15 ?c15 ?k15 ?a16 ?l16 ?c16 ?k16 ?a17 ?l17 ?c17 ?k17 ?a18 ?l18 ?c18 ?k18 ?a19 ?l19 ?c19 ?k19 ?a20 ?l20 ?c20 ?k20 ?a21 ?l21 ?c21 ?k21 ?a22 ?l22 ?c22 ?k22 ?a23 ?l23 ?c23 ?k23 ?a24 ?l24 ?c24 ?k24 ?a25 ?l25 ?c25 ?k25 ?a26 ?l26 ?c26 ?k26 ?a27 ?l27 ?c27 ?k27 ?a28 ?l28 ?c28 ?k28 ?a29 ?l29 ?c29 ?k29 ?a30 ?l30 ?c30 ?k30 ?a31 ?l31 ?c31 ?k31 ?a32 ?l32 ?c32 ?k32 ?a33 ?l33 ?c33 ?k33 ?x_ONE ?y_ONE ?x_MOST_COMMAS ?x_MOST_KEYS ?x_WIDTH ?z_abs ?z_all ?z_bool ?z_enumerate ?z_int ?z_isinstance ?z_len ?z_list ?z_max ?z_min ?z_range ?z_sorted ?z_sum ?z_tuple ?z_zip
  (case a0=>k_is)
  (case l0=>k_is)
  (case c0=>k_is)
  (case k0=>k_is)
  (case a1=>k_is)
  (case l1=>k_is)
  (case c1=>k_is)
  (case k1=>k_is)
  (case a2=>k_is)
  (case l2=>k_is)
  (case c2=>k_is)
  (case k2=>k_is)
  (case a3=>k_is)
  (case l3=>k_is)
  (case c3=>k_is)
  (case k3=>k_is)
  (case a4=>k_is)
  (case l4=>k_is)
  (case c4=>k_is)
  (case k4=>k_is)
  (case a5=>k_is)
  (case l5=>k_is)
  (case c5=>k_is)
  (case k5=>k_is)
  (case a6=>k_is)
  (case l6=>k_is)
  (case c6=>k_is)
  (case k6=>k_is)
  (case a7=>k_is)
  (case l7=>k_is)
  (case c7=>k_is)
  (case k7=>k_is)
  (case a8=>k_is)
  (case l8=>k_is)
  (case c8=>k_is)
  (case k8=>k_is)
  (case a9=>k_is)
  (case l9=>k_is)
  (case c9=>k_is)
  (case k9=>k_is)
  (case a10=>k_is)
  (case l10=>k_is)
  (case c10=>k_is)
  (case k10=>k_is)
  (case a11=>k_is)
  (case l11=>k_is)
  (case c11=>k_is)
  (case k11=>k_is)
  (case a12=>k_is)
  (case l12=>k_is)
  (case c12=>k_is)
  (case k12=>k_is)
  (case a13=>k_is)
  (case l13=>k_is)
  (case c13=>k_is)
  (case k13=>k_is)
  (case a14=>k_is)
  (case l14=>k_is)
  (case c14=>k_is)
  (case k14=>k_is)
  (case a15=>k_is)
  (case l15=>k_is)
  (case c15=>k_is)
  (case k15=>k_is)
  (case a16=>k_is)
  (case l16=>k_is)
  (case c16=>k_is)
  (case k16=>k_is)
  (case a17=>k_is)
  (case l17=>k_is)
  (case c17=>k_is)
  (case k17=>k_is)
  (case a18=>k_is)
  (case l18=>k_is)
  (case c18=>k_is)
  (case k18=>k_is)
  (case a19=>k_is)
  (case l19=>k_is)
  (case c19=>k_is)
  (case k19=>k_is)
  (case a20=>k_is)
  (case l20=>k_is)
  (case c20=>k_is)
  (case k20=>k_is)
  (case a21=>k_is)
  (case l21=>k_is)
  (case c21=>k_is)
  (case k21=>k_is)
  (case a22=>k_is)
  (case l22=>k_is)
  (case c22=>k_is)
  (case k22=>k_is)
  (case a23=>k_is)
  (case l23=>k_is)
  (case c23=>k_is)
  (case k23=>k_is)
  (case a24=>k_is)
  (case l24=>k_is)
  (case c24=>k_is)
  (case k24=>k_is)
  (case a25=>k_is)
  (case l25=>k_is)
  (case c25=>k_is)
  (case k25=>k_is)
  (case a26=>k_is)
  (case l26=>k_is)
  (case c26=>k_is)
  (case k26=>k_is)
  (case a27=>k_is)
  (case l27=>k_is)
  (case c27=>k_is)
  (case k27=>k_is)
  (case a28=>k_is)
  (case l28=>k_is)
  (case c28=>k_is)
  (case k28=>k_is)
  (case a29=>k_is)
  (case l29=>k_is)
  (case c29=>k_is)
  (case k29=>k_is)
  (case a30=>k_is)
  (case l30=>k_is)
  (case c30=>k_is)
  (case k30=>k_is)
  (case a31=>k_is)
  (case l31=>k_is)
  (case c31=>k_is)
  (case k31=>k_is)
  (case a32=>k_is)
  (case l32=>k_is)
  (case c32=>k_is)
  (case k32=>k_is)
  (case a33=>k_is)
  (case l33=>k_is)
  (case c33=>k_is)
  (case k33=>k_is)
  (case x_ONE=>k_is)
  (case y_ONE=>k_is)
  (case x_MOST_COMMAS=>k_is)
  (case x_MOST_KEYS=>k_is)
  (case x_WIDTH=>k_is)
  (case z_abs=>k_is)
  (case z_all=>k_is)
  (case z_bool=>k_is)
  (case z_enumerate=>k_is)
  (case z_int=>k_is)
  (case z_isinstance=>k_is)
  (case z_len=>k_is)
  (case z_list=>k_is)
  (case z_max=>k_is)
  (case z_min=>k_is)
  (case z_range=>k_is)
  (case z_sorted=>k_is)
  (case z_sum=>k_is)
  (case z_tuple=>k_is)
  (case z_zip=>k_is)
