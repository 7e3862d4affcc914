import PyProof.Rows.All
import Wide.All
import OpenK.AllK
import Wide.FinOn
import Lean
import PyProof.EqAt
import PyProof.EqKinds
import PyProof.TupleCall
import PyProof.CompMap
import PyProof.ZipIter
import PyProof.TupleIter
import PyProof.ExcAttrAll.ValueError
import KE.KSortKey
import KE.KRevIter
import KE.KLam
import KE.KNestM
import PyProof.Rows.Range3
import PyProof.EnumMake
import PyProof.JoinWalk
import PyProof.Rows.StrSplitJoin
import PyProof.Rows.StrWeight2
import PyProof.StrOps2
import KE.KSortTup
import KE.KMinKey
import PyProof.ListRange
import PyProof.Rows.StrCountLaw
import PyProof.Rows.SetFrom
import PyProof.Rows.FactsT2
import PyProof.StrLawsTight
import PyProof.StrLawsChain
import PyProof.Rows.StrItems
import KE.KIntText
import PyProof.StrLawsFirst
import PyProof.StrBlockL
import PyProof.Rows.StrNews2
import PyProof.StrWalks
import PySem.Challenge.RW_tuningyard_k68_movers
set_option Elab.async false
set_option linter.all false
set_option maxRecDepth 100000
namespace L2
open PySem PySem.Spec PyProof.Rows
noncomputable abbrev Key:=Sum Int Str
noncomputable def keyIs:Key→Value→Bool
 | .inl k,v=>Value.isInt k v
 | .inr x,v=>Value.isStrOf x v
noncomputable def keyH (w:World):Key→Int
 | .inl k=>hashInt k
 | .inr x=>hashStr w x
theorem keyIs_shape:∀ {k:Key} {v:Value},keyIs k v=true→(∃ i t,k=Sum.inl i∧v=Value.int i t)∨(∃ x t,k=Sum.inr x∧v=Value.str x t)
 | .inl i,v,h=>by
  obtain ⟨t,e⟩:=Value.isInt_shape (k:=i) (v:=v) h
  exact .inl ⟨i,t,rfl,e⟩
 | .inr x,v,h=>by
  obtain ⟨t,e⟩:=Value.isStrOf_shape (x:=x) (v:=v) h
  exact .inr ⟨x,t,rfl,e⟩
theorem key_ll (a b:Int):decide ((Sum.inl a:Key)=Sum.inl b)=(a == b):=by
 by_cases e:a=b
 ·subst e;simp
 ·have h:¬ (Sum.inl a:Key)=Sum.inl b:=fun q=>e (Sum.inl.inj q)
  rw [decide_eq_false h]
  exact (beq_eq_false_iff_ne.mpr e).symm
theorem key_rr (a b:Str):decide ((Sum.inr a:Key)=Sum.inr b)=decide (a=b):=by
 by_cases e:a=b
 ·subst e;simp
 ·have h:¬ (Sum.inr a:Key)=Sum.inr b:=fun q=>e (Sum.inr.inj q)
  rw [decide_eq_false h,decide_eq_false e]
theorem key_lr (a:Int) (b:Str):decide ((Sum.inl a:Key)=Sum.inr b)=false:=decide_eq_false (fun q=>nomatch q)
theorem key_rl (a:Str) (b:Int):decide ((Sum.inr a:Key)=Sum.inl b)=false:=decide_eq_false (fun q=>nomatch q)
noncomputable def mixKind (prog:Program) (w:World):PySem.KeyKind prog w Key where
 is:=keyIs
 hash:=keyH w
 inj:=fun v a b ha hb=>by
  rcases keyIs_shape ha with ⟨i,t,rfl,rfl⟩|⟨x,t,rfl,rfl⟩
  ·rcases keyIs_shape hb with ⟨j,u,rfl,e⟩|⟨y,u,rfl,e⟩
   ·injection e with e1 _;rw [e1]
   ·exact nomatch e
  ·rcases keyIs_shape hb with ⟨j,u,rfl,e⟩|⟨y,u,rfl,e⟩
   ·exact nomatch e
   ·injection e with e1 _;rw [e1]
 byValue:=fun k v h=>by
  rcases keyIs_shape h with ⟨i,t,rfl,rfl⟩|⟨x,t,rfl,rfl⟩ <;> rfl
 pyHash:=fun hv h=>by
  rcases keyIs_shape hv with ⟨i,t,rfl,rfl⟩|⟨x,t,rfl,rfl⟩
  ·exact wpAny_pyHash_int h
  ·exact wpAny_pyHash_str h
 eqBool:=fun hu hv h=>by
  rcases keyIs_shape hu with ⟨i,t,rfl,rfl⟩|⟨x,t,rfl,rfl⟩
  ·rcases keyIs_shape hv with ⟨j,u,rfl,rfl⟩|⟨y,u,rfl,rfl⟩
   ·rw [key_ll] at h;exact wpAny_eqBool_int h
   ·rw [key_lr] at h;exact SeqAt.EqAt.int_str i t y u _ _ _ _ h
  ·rcases keyIs_shape hv with ⟨j,u,rfl,rfl⟩|⟨y,u,rfl,rfl⟩
   ·rw [key_rl] at h;exact SeqAt.EqAt.str_int x t j u _ _ _ _ h
   ·rw [key_rr] at h;exact wpAny_eqBool_str h
 «strs»:=fun k x t v h=>by
  rcases keyIs_shape h with ⟨i,u,rfl,e⟩|⟨y,u,rfl,e⟩
  ·exact nomatch e
  ·injection e with e1 _
   subst e1
   cases v <;> rfl
end L2
namespace L2
open PySem PySem.Spec PyProof.Rows
inductive V where
 | non|bl (b:Bool)|int (i:Int)|str (x:Str)|byt (b:Array UInt8)|flt (b:UInt64)|ref (a:Addr)|ty (n:String)
 deriving DecidableEq
noncomputable def RelV:V→Value→Prop
 | .non,u=>u=Value.none
 | .bl b,u=>u=Value.bool b
 | .int i,u=>∃ t,u=Value.int i t
 | .str x,u=>∃ t,u=Value.str x t
 | .byt b,u=>∃ t,u=Value.bytes b t
 | .flt b,u=>∃ t,u=Value.float b t
 | .ref a,u=>u=Value.ref a
 | .ty n,u=>u=Value.type n
noncomputable abbrev Vals:List V→List Value→Prop:=Paired RelV
theorem Vals.length {xs:List V} {us:List Value} (r:Vals xs us):xs.length=us.length:=Paired.length r
theorem Vals.get:∀ {xs:List V} {us:List Value} {i:Nat} {x:V},Vals xs us→xs[i]?=some x→∃ u,us[i]?=some u∧RelV x u
 | _,_,_,_,.nil,e=>by simp at e
 | _,_,0,_,.cons r _,e=>by simp at e;subst e;exact⟨_,rfl,r⟩
 | _,_,i+1,x,.cons _ t,e=>by
  obtain ⟨u,h1,h2⟩:=Vals.get (i:=i) (x:=x) t (by simpa using e)
  exact⟨u,by simpa using h1,h2⟩
theorem Vals.append:∀ {xs ys:List V} {us ws:List Value},Vals xs us→Vals ys ws→Vals (xs++ys) (us++ws)
 | _,_,_,_,.nil,s=>s
 | _,_,_,_,.cons r t,s=>.cons r (Vals.append t s)
theorem Vals.take:∀ {xs:List V} {us:List Value} (n:Nat),Vals xs us→Vals (xs.take n) (us.take n)
 | _,_,0,_=>.nil
 | _,_,_+1,.nil=>.nil
 | _,_,n+1,.cons r t=>.cons r (Vals.take n t)
theorem Vals.drop:∀ {xs:List V} {us:List Value} (n:Nat),Vals xs us→Vals (xs.drop n) (us.drop n)
 | _,_,0,r=>r
 | _,_,_+1,.nil=>.nil
 | _,_,n+1,.cons _ t=>Vals.drop n t
noncomputable def RelO:Option V→Option Value→Prop
 | some v,some u=>RelV v u
 | none,none=>True
 | _,_=>False
noncomputable def KV {κ:Type}:List (κ×V)→List (κ×Value)→Prop:=Paired fun (p:κ×V) (q:κ×Value)=>p.1=q.1∧RelV p.2 q.2
noncomputable def kV:Key→V
 | .inl i=>.int i
 | .inr x=>.str x
inductive HO where
 /-- a list -/
 | lst (xs:List V)
 /-- a tuple (never changes) -/
 | tup (xs:List V)
 /-- a dict whose keys are ints and texts;one whose keys are tuples of ints and texts (the empty one is both) -/
 | dK (kvs:List (Key×V))|dT (kvs:List (List Key×V))
 /-- a set of ints: its members,its size -/
 | set (S:Int→Bool) (n:Nat)
 /-- an instance of the class at C,its dict at dx,its attributes -/
 | ins (C dx:Addr) (fs:List (Str×V))
 /-- the dict of the instance at x -/
 | own (x:Addr)
 /-- the dict of an exception -/
 | xd (fs:List (Str×V))
 /-- a bound method,f of x -/
 | met (f x:Addr)
 /-- a range object lo,lo+1,.. below hi -/
 | rng (lo hi:Int)
 /-- a thing that is known to the object (the script;a dict while a loop walks it): read,never written while it is so -/
 | frz (o:Obj) (u:HO)
 /-- a code object's table -/
 | tbl (ps:Array Value)
 /-- any other thing,by what is true of its one object (a def of one's own: SetO a S n:=HO.ext fun h=>..) -/
 | ext (φ:Heap→Prop)
noncomputable abbrev Hp:=Addr→Option HO
noncomputable def upd (H:Hp) (a:Addr) (o:HO):Hp:=fun b=>if b=a then some o else H b
theorem upd_same {H:Hp} {a:Addr} {o:HO}:upd H a o a=some o:=by unfold upd;rw [if_pos rfl]
theorem upd_ne {H:Hp} {a b:Addr} {o:HO} (h:b≠a):upd H a o b=H b:=by unfold upd;rw [if_neg h]
theorem ne_of_none {H:Hp} {a b:Addr} {o:HO} (h:H a=some o) (h':H b=none):a≠b:=by
 intro e;subst e;rw [h] at h';cases h'
section
variable (P:Program) (w:World)
noncomputable def ObjOk (H:Hp) (h:Heap) (a:Addr):HO→Prop
 | .lst xs=>xs.length≤sizeLine∧∃ (its:List Value) (n:Nat),Vals xs its∧h.get? a=some { cls:=.type "list",data:=.seq its.toArray n }
 | .tup xs=>xs.length≤sizeLine∧∃ its:List Value,Vals xs its∧IsTup h a its.toArray
 | .dK kvs=>kvs.length≤sizeLine∧(a == sysModules)=false∧∃ vs,KV kvs vs∧h.DictOf (mixKind P w) a vs
 | .dT kvs=>kvs.length≤sizeLine∧(a == sysModules)=false∧∃ xs:List (List Key×Addr×Value),
   Paired (fun (p:List Key×V) (q:List Key×Addr×Value)=>p.1=q.1∧H q.2.1=some (.tup (p.1.map kV))∧RelV p.2 q.2.2) kvs xs ∧
   ∃ o es ep,h.get? a=some o∧o.ExactDict∧o.data=.dict es ep∧es.toList=xs.map (entryOfKey (tupleKind (mixKind P w)))∧(xs.map (·.1)).Nodup
 | .set S n=>h.SetOf (intKind P w) a S n
 | .ins C dx fs=>H dx=some (.own a)∧fs.length≤1000∧dx≠a∧h.get? a=some (PySem.W.instObj C dx) ∧
   ∃ mA,h.Ns1 dx mA∧(∀ f,RelO (fs.lookup f) (mA f))∧PySem.Within mA (fs.map (·.1))
 | .own _=>∃ o,h.get? a=some o
 | .xd fs=>∃ mA,h.Ns1 a mA∧∀ f,RelO (fs.lookup f) (mA f)
 | .rng lo hi=>∃ t u v,h.get? a=some { cls:=.type "range",data:=.fields #[.int lo t,.int hi u,.int 1 v] }
 | .frz o u=>h.get? a=some o∧ObjOk H h a u
 | .tbl ps=>h.get? a=some { cls:=.none,data:=.fields ps }
 | .met f x=>h.get? a=some (PySem.W.methodObj (.ref f) (.ref x))
 | .ext φ=>φ h∧(∃ o,h.get? a=some o)∧∀ h1 h2:Heap,φ h1→(∀ o,h1.get? a=some o→h2.get? a=some o)→φ h2
noncomputable def HOk (H:Hp) (h:Heap):Prop:=∀ a o,H a=some o→ObjOk P w H h a o
end
section
variable {P:Program} {w:World} {H H':Hp} {h h':Heap} {a:Addr} {o:HO}
theorem ObjOk.lt (x:ObjOk P w H h a o):a<h.objs.size:=by
 cases o with
 | lst xs=>obtain ⟨_,_,_,_,e⟩:=x;exact Heap.lt_size e
 | tup xs=>obtain ⟨_,_,_,p⟩:=x;exact p.lt
 | dK kvs=>obtain ⟨_,_,_,_,o,_,_,e,_⟩:=x;exact Heap.lt_size e
 | dT kvs=>obtain ⟨_,_,_,_,o,_,_,e,_⟩:=x;exact Heap.lt_size e
 | set S n=>obtain ⟨o,_,_,_,e,_⟩:=x;exact Heap.lt_size e
 | ins C dx fs=>obtain ⟨_,_,_,e,_⟩:=x;exact Heap.lt_size e
 | own y=>obtain ⟨_,e⟩:=x;exact Heap.lt_size e
 | xd fs=>obtain ⟨_,⟨_,_,_,e,_⟩,_⟩:=x;exact Heap.lt_size e
 | rng lo hi=>obtain ⟨_,_,_,e⟩:=x;exact Heap.lt_size e
 | frz ob u=>obtain ⟨e,_⟩:=x;exact Heap.lt_size e
 | tbl ps=>exact Heap.lt_size (show h.get? a=some _ from x)
 | met f y=>exact Heap.lt_size (show h.get? a=some _ from x)
 | ext φ=>obtain ⟨_,⟨_,e⟩,_⟩:=x;exact Heap.lt_size e
theorem Paired.mapP {α β:Type} {F G:α→β→Prop}:∀ {l₁:List α} {l₂:List β},Paired F l₁ l₂→(∀ a b,F a b→G a b)→Paired G l₁ l₂
 | _,_,.nil,_=>.nil
 | _,_,.cons r t,f=>.cons (f _ _ r) (Paired.mapP t f)
theorem ObjOk.stay (x:ObjOk P w H h a o) (k:∀ b u,(b=a∨H b=some (.own a))→h.get? b=some u→h'.get? b=some u)
  (ho:∀ b,H b=some (.own a)→H' b=some (.own a)) (ht:∀ b xs,H b=some (.tup xs)→H' b=some (.tup xs)):ObjOk P w H' h' a o:=by
 induction o with
 | lst xs=>obtain ⟨z,its,n,r,e⟩:=x;exact⟨z,its,n,r,k _ _ (.inl rfl) e⟩
 | tup xs=>obtain ⟨z,its,r,ob,e,c⟩:=x;exact⟨z,its,r,ob,k _ _ (.inl rfl) e,c⟩
 | dK kvs=>obtain ⟨z,y,vs,r,ob,es,ep,e,c⟩:=x;exact⟨z,y,vs,r,ob,es,ep,k _ _ (.inl rfl) e,c⟩
 | dT kvs =>
  obtain ⟨z,y,xs,r,ob,es,ep,e,c⟩:=x
  exact⟨z,y,xs,Paired.mapP r fun p q z=>⟨z.1,ht _ _ z.2.1,z.2.2⟩,ob,es,ep,k _ _ (.inl rfl) e,c⟩
 | set S n=>obtain ⟨ob,es,ep,t,e,c⟩:=x;exact⟨ob,es,ep,t,k _ _ (.inl rfl) e,c⟩
 | ins C dx fs =>
  obtain ⟨d,z,ne,e,mA,⟨od,es,ep,e2,c⟩,r⟩:=x
  exact⟨ho _ d,z,ne,k _ _ (.inl rfl) e,mA,⟨od,es,ep,k _ _ (.inr d) e2,c⟩,r⟩
 | own y=>obtain ⟨ob,e⟩:=x;exact⟨ob,k _ _ (.inl rfl) e⟩
 | xd fs=>obtain ⟨mA,⟨od,es,ep,e,c⟩,r⟩:=x;exact⟨mA,⟨od,es,ep,k _ _ (.inl rfl) e,c⟩,r⟩
 | rng lo hi=>obtain ⟨t,u,v,e⟩:=x;exact⟨t,u,v,k _ _ (.inl rfl) e⟩
 | frz ob u ih=>obtain ⟨e,q⟩:=x;exact⟨k _ _ (.inl rfl) e,ih q⟩
 | tbl ps =>
  have e:h.get? a=some { cls:=.none,data:=.fields ps }:=x
  show h'.get? a=some { cls:=.none,data:=.fields ps }
  exact k a _ (.inl rfl) e
 | met f y =>
  have e:h.get? a=some (PySem.W.methodObj (.ref f) (.ref y)):=x
  show h'.get? a=some (PySem.W.methodObj (.ref f) (.ref y))
  exact k a _ (.inl rfl) e
 | ext φ=>obtain ⟨p,⟨o,e⟩,st⟩:=x;exact⟨st _ _ p fun o q=>k _ _ (.inl rfl) q,⟨o,k _ _ (.inl rfl) e⟩,st⟩
theorem HOk.lt (x:HOk P w H h) (e:H a=some o):a<h.objs.size:=(x a o e).lt
theorem HOk.fresh (x:HOk P w H h) (e:h.objs.size≤a):H a=none:=by
 cases q:H a with
 | none=>rfl
 | some u=>exact absurd (Nat.lt_of_lt_of_le (x.lt q) e) (Nat.lt_irrefl _)
theorem HOk.kept (x:HOk P w H h) (k:∀ b u,h.get? b=some u→h'.get? b=some u):HOk P w H h':=fun a o e =>
 (x a o e).stay (fun b u _ q=>k b u q) (fun _ q=>q) fun _ _ q=>q
theorem HOk.laid (x:HOk P w H h) (k:∀ b u,h.get? b=some u→h'.get? b=some u) (hp:h.objs.size≤a) (new:ObjOk P w (upd H a o) h' a o):HOk P w (upd H a o) h':=fun b u e=>by
 have hn:=x.fresh hp
 by_cases hb:b=a
 ·subst hb;rw [upd_same] at e;cases e;exact new
 ·rw [upd_ne hb] at e
  exact (x b u e).stay (fun c v _ q=>k c v q) (fun c q=>by rw [upd_ne (ne_of_none q hn)];exact q) fun c xs q=>by rw [upd_ne (ne_of_none q hn)];exact q
end
noncomputable def Rd (H:Hp) (a:Addr) (u:HO):Prop:=H a=some u∨∃ o,H a=some (.frz o u)
theorem Rd.ok {P:Program} {w:World} {H:Hp} {h:Heap} {a:Addr} {u:HO} (r:Rd H a u) (x:HOk P w H h):ObjOk P w H h a u:=by
 rcases r with r|⟨o,r⟩
 ·exact x a u r
 ·obtain ⟨_,q⟩:=x a _ r
  exact q
noncomputable def Mut:Option HO→Prop
 | some (.lst _)=>True
 | some (.dK _)=>True
 | some (.dT _)=>True
 | some (.set _ _)=>True
 | some (.ins _ _ _)=>True
 | some (.ext _)=>True
 | _=>False
section
variable {P:Program} {w:World} {H:Hp} {h h':Heap} {x e:Addr} {o':HO}
theorem HOk.write (ok:HOk P w H h) (mu:Mut (H x)) (he:e=x∨H e=some (.own x)) (k:∀ b u,b≠e→h.get? b=some u→h'.get? b=some u) (heo:∃ u,h'.get? e=some u)
  (new:ObjOk P w (upd H x o') h' x o'):HOk P w (upd H x o') h':=fun b u q=>by
 have nown:∀ c y,H c=some (.own y)→c≠x:=fun c y r z=>by subst z;rw [r] at mu;exact mu
 have ntup:∀ c xs,H c=some (.tup xs)→c≠x:=fun c xs r z=>by subst z;rw [r] at mu;exact mu
 by_cases hb:b=x
 ·subst hb;rw [upd_same] at q;cases q;exact new
 ·rw [upd_ne hb] at q
  by_cases hbe:b=e
  ·have q':H b=some (.own x):=by
    rcases he with z|z
    ·exact absurd (hbe.trans z) hb
    ·rw [hbe];exact z
   rw [q] at q';cases q'
   obtain ⟨v,hv⟩:=heo
   exact⟨v,by rw [hbe];exact hv⟩
  ·refine (ok b u q).stay (fun c v hc r=>k c v ?_ r) (fun c r=>by rw [upd_ne (nown c b r)];exact r) fun c xs r=>by rw [upd_ne (ntup c xs r)];exact r
   rcases hc with rfl|hc
   ·exact hbe
   ·rintro rfl
    rcases he with z|z
    ·exact nown c b hc z
    ·rw [hc] at z;cases z;exact hb rfl
end
structure Un (fs ex:List Addr) (H H':Hp) (h h':Heap):Prop where
 keep:∀ b o,h.get? b=some o→H b=none→b∉fs→b∉ex→h'.get? b=some o
 slot:∀ b o,h.get? b=some o→H b=none→b∈fs→b∉ex→∃ sl,h'.get? b=some { o with slots:=sl }
 free:∀ b o,h.get? b=some o→H b=none→b∉ex→H' b=none
 there:∀ b o,h.get? b=some o→b∉ex→∃ o',h'.get? b=some o'
 tups:∀ b xs,H b=some (.tup xs)→H' b=some (.tup xs)
 frzs:∀ b o u,H b=some (.frz o u)→H' b=some (.frz o u)
 tbls:∀ b ps,H b=some (.tbl ps)→∃ more,H' b=some (.tbl (ps++more))
section
variable {fs fs' ex ex':List Addr} {H H1 H2:Hp} {h h1 h2 h':Heap} {a x e:Addr} {o:HO}
theorem Un.any (u:Un fs ex H H1 h h1) {b:Addr} {ob:Obj} (q:h.get? b=some ob) (n:H b=none) (hx:b∉ex):∃ sl,h1.get? b=some { ob with slots:=sl }:=by
 by_cases hb:b∈fs
 ·exact u.slot b ob q n hb hx
 ·exact⟨ob.slots,u.keep b ob q n hb hx⟩
theorem Un.kept (k:∀ b u,h.get? b=some u→h'.get? b=some u):Un fs ex H H h h' :=
 ⟨fun b ob q _ _ _=>k b ob q,fun b ob q _ _ _=>⟨ob.slots,k b ob q⟩,fun _ _ _ n _=>n,fun b ob q _=>⟨ob,k b ob q⟩,fun _ _ q=>q,fun _ _ _ q=>q,fun _ ps q=>⟨#[],by rw [q];simp⟩⟩
theorem Un.refl:Un fs ex H H h h:=Un.kept fun _ _ q=>q
theorem Un.laid (k:∀ b u,h.get? b=some u→h'.get? b=some u) (hp:h.objs.size≤a) (hn:H a=none):Un fs ex H (upd H a o) h h' where
 keep:=fun b u q _ _ _=>k b u q
 slot:=fun b u q _ _ _=>⟨u.slots,k b u q⟩
 free:=fun b u q n _=>by rw [upd_ne (Nat.ne_of_lt (Nat.lt_of_lt_of_le (Heap.lt_size q) hp))];exact n
 there:=fun b u q _=>⟨u,k b u q⟩
 tups:=fun b xs q=>by rw [upd_ne (ne_of_none q hn)];exact q
 frzs:=fun b u xs q=>by rw [upd_ne (ne_of_none q hn)];exact q
 tbls:=fun b ps q=>⟨#[],by rw [upd_ne (ne_of_none q hn),q];simp⟩
theorem Un.write (mu:Mut (H x)) (he:e=x∨H e=some (.own x)) (k:∀ b u,b≠e→h.get? b=some u→h'.get? b=some u) (heo:∃ u,h'.get? e=some u):Un fs ex H (upd H x o) h h':=by
 have hx:∀ b,H b=none→b≠x:=fun b n z=>by subst z;rw [n] at mu;exact mu
 have hb:∀ b,H b=none→b≠e:=fun b n z=>by
  subst z
  rcases he with r|r
  ·exact hx b n r
  ·rw [n] at r;cases r
 have hm:∀ b u,H b=some u→¬ Mut (some u)→b≠x:=fun b u q nm z=>by subst z;rw [q] at mu;exact nm mu
 refine⟨fun b u q n _ _=>k b u (hb b n) q,fun b u q n _ _=>⟨u.slots,k b u (hb b n) q⟩,fun b u q n _=>by rw [upd_ne (hx b n)];exact n,fun b u q _=>?_,
  fun b xs q=>by rw [upd_ne (hm b _ q fun z=>z)];exact q,fun b u xs q=>by rw [upd_ne (hm b _ q fun z=>z)];exact q,fun b ps q=>⟨#[],by rw [upd_ne (hm b _ q fun z=>z),q];simp⟩⟩
 by_cases hbe:b=e
 ·subst hbe;exact heo
 ·exact⟨u,k b u hbe q⟩
end
noncomputable def trk (h:Heap) (H:Hp):List Addr:=(List.range h.objs.size).filter fun a=>(H a).isSome
noncomputable def hidT (h:Heap) (H:Hp):Heap:=PySem.W.hideAll h (trk h H)
theorem hidT_size (h:Heap) (H:Hp):(hidT h H).objs.size=h.objs.size:=PySem.W.hideAll_size _ _
theorem hidT_get {h:Heap} {H:Hp} {b:Addr} {o:Obj} (e:h.get? b=some o) (n:H b=none):(hidT h H).get? b=some o :=
 PySem.W.hideAll_get _ e fun hm=>by
  have q:(H b).isSome=true:=(List.mem_filter.mp hm).2
  rw [n] at q;simp at q
theorem of_hidT {h:Heap} {H:Hp} {b:Addr} {o:Obj} (e:(hidT h H).get? b=some o):h.get? b=some o∧H b=none:=by
 have e':h.get? b=some o:=PySem.W.of_hideAll (trk h H) e
 refine⟨e',?_⟩
 cases q:H b with
 | none=>rfl
 | some x =>
  have hm:b∈trk h H:=List.mem_filter.mpr ⟨List.mem_range.mpr (Heap.lt_size e'),by simp [q]⟩
  have z:(hidT h H).get? b=none:=PySem.W.hideAll_none (trk h H) hm
  rw [z] at e;cases e
noncomputable def allNews (g h:Heap) (L:Addr):List (Addr×Obj):=(List.range h.objs.size).filterMap fun a=>if a=L∨(g.get? a).isSome=true then none else (h.get? a).map fun o=>(a,o)
noncomputable def rest (g h:Heap) (L d:Addr):List (Addr×Obj):=(allNews g h L).filter fun p=>decide (p.1≠d)
end L2
namespace L2
open PySem PySem.Spec PyProof.Rows
structure Mod (K:PySem.W.Frag) (mg:Str→Option Value) (base:Heap):Prop where
 kin:K.In base
 glob:base.Ns mainGlobals mg
 blt:∃ mb,base.Ns builtinsNs mb∧∀ x:Str,x≠"__name__"→mb x=bootBuiltins x
 nolimit:base.NoLimit
structure Cx where
 prog:Program
 w:World
 K:PySem.W.Frag
 mg:Str→Option Value
 base:Heap
 A:Around
 N:List Str
 s₀:Shared
 H₀:Hp
 env:Env
 outer:List Env
 stack:List Env
 ex:List Addr
 fn:Str→Bool
 calm:Bool
 pn:List (Addr×Obj)
 xe:Value→Shared→Prop
noncomputable def frs (l:List Env):List Addr:=l.filterMap (·.frame)
noncomputable abbrev Cx.fs (X:Cx):List Addr:=frs X.outer
noncomputable def Vis (sc:Scope) (x:Str):Prop:=sc.names.lookup x=some .local∨sc.names.lookup x=some .cell∨sc.names.lookup x=some .free
noncomputable def Loc (sc:Scope) (x:Str):Prop:=sc.names.lookup x=some .local∨sc.names.lookup x=some .cell
noncomputable def Look (env:Env) (h:Heap) (m:Str→Option Value) (x:Str) (u:Value):Prop :=
 (env.kindOf x=some .local∧m x=some u)∨((env.kindOf x=some .cell∨env.kindOf x=some .free)∧∃ c,env.cells.lookup x=some c∧h.IsCell c (some u))
structure Cx.Ok (X:Cx):Prop where
 mod:Mod X.K X.mg X.base
 kind:X.env.scope.kind=.function
 glob:X.env.globals=mainGlobals
 blt:X.env.builtins=builtinsNs
 above:X.s₀.heap.objs.size≤X.env.locals
 inj:∀ x y c,X.env.cells.lookup x=some c→X.env.cells.lookup y=some c→x=y
 has:∀ x,(X.env.kindOf x=some .cell∨X.env.kindOf x=some .free)→∃ c,X.env.cells.lookup x=some c
 cab:∀ x c,X.fn x=true→X.env.cells.lookup x=some c→X.s₀.heap.objs.size≤c
 hd:X.calm=true→X.A.handled=none
 frames:X.A.frames=some X.stack
 stk:X.stack=X.outer∨(X.stack=X.env::X.outer∧X.env.frame=some X.env.locals)
 exf:∀ b∈X.ex,b≠X.env.locals∧∀ x c,X.env.cells.lookup x=some c→c≠b
 bs:∀ b o,X.base.get? b=some o→X.s₀.heap.get? b=some o∧X.H₀ b=none
 bsz:X.base.objs.size≤X.s₀.heap.objs.size
 noex:∀ b o,X.base.get? b=some o→b∉X.ex
 exfs:∀ b∈X.ex,b∉X.fs
 funs:X.s₀.heap.FunFrames X.base X.outer
 frf:∀ b∈X.fs,X.H₀ b=none
structure Inv (X:Cx) (pins:List (Addr×Obj)) (σ:List (Option V)) (H:Hp) (s:Shared):Prop where
 ok:X.Ok
 os:s.os=X.s₀.os
 bare:AllBare s.gens
 base:Un X.fs X.ex X.H₀ H X.s₀.heap s.heap
 loc:∃ m,s.heap.Ns X.env.locals m∧∀ (i:Nat) (x:Str) (v:V),X.N[i]?=some x→σ[i]?=some (some v)→Vis X.env.scope x→∃ u,RelV v u∧Look X.env s.heap m x u
 cell:∀ x c,X.env.cells.lookup x=some c→∃ v,s.heap.IsCell c v
 free:H X.env.locals=none
 freeC:∀ x c,X.env.cells.lookup x=some c→H c=none
 pin:∀ p∈X.pn++pins,s.heap.get? p.1=some p.2∧H p.1=none∧p.1≠X.env.locals∧p.1∉X.fs∧∀ v,p.2.data≠.cell v
 hok:HOk X.prog X.w H s.heap
 len:σ.length=X.N.length
section
variable {X:Cx} {pins:List (Addr×Obj)} {σ:List (Option V)} {H H':Hp} {s:Shared} {h':Heap}
theorem Cx.Ok.nofr (ok:X.Ok) {b:Addr} {o:Obj} (e:X.base.get? b=some o):b∉X.fs:=fun hb=>by
 have:=(ok.funs.mem hb).1
 rw [e] at this;cases this
theorem Inv.bs (I:Inv X pins σ H s):∀ b o,X.base.get? b=some o→s.heap.get? b=some o∧H b=none:=fun b o e =>
 ⟨I.base.keep b o (I.ok.bs b o e).1 (I.ok.bs b o e).2 (I.ok.nofr e) (I.ok.noex b o e),I.base.free b o (I.ok.bs b o e).1 (I.ok.bs b o e).2 (I.ok.noex b o e)⟩
theorem Inv.bk (I:Inv X pins σ H s):∀ b o,X.base.get? b=some o→s.heap.get? b=some o:=fun b o e=>(I.bs b o e).1
theorem Inv.mod (I:Inv X pins σ H s):Mod X.K X.mg X.base:=I.ok.mod
theorem Inv.kIn (I:Inv X pins σ H s):X.K.In s.heap:=I.ok.mod.kin.keeps I.bk
theorem Inv.nolimit (I:Inv X pins σ H s):s.heap.NoLimit:=I.ok.mod.nolimit.keeps I.bk
theorem Inv.lt (I:Inv X pins σ H s):X.env.locals<s.heap.objs.size:=let ⟨_,hn,_⟩:=I.loc;hn.lt
theorem Inv.sz (I:Inv X pins σ H s):X.s₀.heap.objs.size≤s.heap.objs.size:=Nat.le_trans I.ok.above (Nat.le_of_lt I.lt)
theorem Inv.nofs (I:Inv X pins σ H s) {a:Addr} (h:s.heap.objs.size≤a):a∉X.fs:=fun hb=>by
 obtain ⟨_,o,ho,_⟩:=I.ok.funs.mem hb
 exact absurd (Nat.lt_of_lt_of_le (Heap.lt_size ho) (Nat.le_trans I.sz h)) (Nat.lt_irrefl _)
theorem Inv.cne (I:Inv X pins σ H s):∀ x c,X.env.cells.lookup x=some c→c≠X.env.locals:=fun x c e z=>by
 obtain ⟨v,o,ho,hd⟩:=I.cell x c e
 obtain ⟨m,⟨o',es,ep,ho',hd',_⟩,_⟩:=I.loc
 rw [z,ho'] at ho;cases ho;rw [hd'] at hd;cases hd
theorem Inv.funs (I:Inv X pins σ H s):s.heap.FunFrames X.base X.outer:=by
 have all:∀ (l:List Env),(∀ b∈frs l,b∈X.fs)→X.s₀.heap.FunFrames X.base l→s.heap.FunFrames X.base l:=by
  intro l
  induction l with
  | nil=>intro _ _;trivial
  | cons env r ih =>
   intro hs hl
   obtain ⟨hk,⟨L,o,hf,hn,ho,hd⟩,hr⟩:=hl
   have hL:L∈X.fs:=hs L (by unfold frs;rw [List.filterMap_cons,hf];exact List.mem_cons_self)
   obtain ⟨sl,e⟩:=I.base.slot L o ho (I.ok.frf L hL) hL fun z=>I.ok.exfs L z hL
   exact⟨hk,⟨L,_,hf,hn,e,hd⟩,ih (fun b hb=>hs b (by unfold frs;rw [List.filterMap_cons,hf];exact List.mem_cons_of_mem _ hb)) hr⟩
 exact all X.outer (fun _ hb=>hb) I.ok.funs
theorem Inv.stack (I:Inv X pins σ H s):s.heap.FunFrames X.base X.stack:=by
 rcases I.ok.stk with e|⟨e,hf⟩
 ·rw [e];exact I.funs
 ·rw [e]
  obtain ⟨m,hn,_⟩:=I.loc
  refine .cons (by rw [I.ok.kind];decide) hf hn ?_ I.funs
  exact Heap.get?_none_of_le (Nat.le_trans I.ok.bsz I.ok.above)
theorem Inv.stkSub (I:Inv X pins σ H s):∀ b∈frs X.stack,b∈X.env.locals::X.fs:=fun b hb=>by
 rcases I.ok.stk with e|⟨e,hf⟩
 ·rw [e] at hb;exact List.mem_cons_of_mem _ hb
 ·rw [e] at hb
  unfold frs at hb
  rw [List.filterMap_cons,hf] at hb
  exact hb
theorem Inv.stkFree (I:Inv X pins σ H s):∀ b∈frs X.stack,H b=none:=fun b hb=>by
 rcases List.mem_cons.mp (I.stkSub b hb) with e|hb
 ·rw [e];exact I.free
 ·obtain ⟨_,o,ho,_⟩:=I.ok.funs.mem hb
  exact I.base.free b o ho (I.ok.frf b hb) fun z=>I.ok.exfs b z hb
theorem Inv.step {g':Array GenState} {t':Nat} {d':Drawn} {ch:List Addr} (I:Inv X pins σ H s)
  (hch:∀ b∈ch,(b∈X.ex∨X.s₀.heap.objs.size≤b)∧b≠X.env.locals∧(∀ x c,X.env.cells.lookup x=some c→c≠b)∧∀ p∈X.pn++pins,p.1≠b)
  (keep:∀ b o,b≠X.env.locals→b∉X.fs→b∉ch→s.heap.get? b=some o→H b=none→h'.get? b=some o)
  (slot:∀ b o,b≠X.env.locals→b∈X.fs→b∉ch→s.heap.get? b=some o→H b=none→∃ sl,h'.get? b=some { o with slots:=sl }) (free:∀ b o,b∉ch→s.heap.get? b=some o→H b=none→H' b=none)
  (there:∀ b o,b∉ch→s.heap.get? b=some o→∃ o',h'.get? b=some o')
  (tups:∀ b xs,H b=some (.tup xs)→H' b=some (.tup xs)) (frzs:∀ b o u,H b=some (.frz o u)→H' b=some (.frz o u)) (tbls:∀ b ps,H b=some (.tbl ps)→∃ more,H' b=some (.tbl (ps++more)))
  (ns:∀ m,s.heap.Ns X.env.locals m→h'.Ns X.env.locals m) (hok:HOk X.prog X.w H' h') (hg:AllBare g') :
  Inv X pins σ H' { s with heap:=h',gens:=g',drawn:=d',toks:=t' }:=by
 have neL:∀ b o,X.s₀.heap.get? b=some o→b≠X.env.locals:=fun b o e=>Nat.ne_of_lt (Nat.lt_of_lt_of_le (Heap.lt_size e) I.ok.above)
 have neC:∀ b o,X.s₀.heap.get? b=some o→b∉X.ex→b∉ch:=fun b o e hx hb=>by
  rcases (hch b hb).1 with z|z
  ·exact hx z
  ·exact absurd (Nat.lt_of_lt_of_le (Heap.lt_size e) z) (Nat.lt_irrefl _)
 have cellK:∀ x c,X.env.cells.lookup x=some c→∀ v,s.heap.IsCell c v→h'.IsCell c v:=fun x c e v ⟨o,ho,hd⟩=>by
  have nch:c∉ch:=fun z=>(hch c z).2.2.1 x c e rfl
  by_cases hc:c∈X.fs
  ·obtain ⟨sl,q⟩:=slot c o (I.cne x c e) hc nch ho (I.freeC x c e)
   exact⟨_,q,hd⟩
  ·exact⟨o,keep c o (I.cne x c e) hc nch ho (I.freeC x c e),hd⟩
 refine⟨I.ok,I.os,hg,⟨fun b o e n hb hx=>?_,fun b o e n hb hx=>?_,fun b o e n hx=>?_,fun b o e hx=>?_,fun b xs e=>tups b xs (I.base.tups b xs e),fun b o xs e=>frzs b o xs (I.base.frzs b o xs e),fun b ps e=>?_⟩,?_,fun x c e=>?_,?_,fun x c e=>?_,fun p hp=>?_,hok,I.len⟩
 ·exact keep b o (neL b o e) hb (neC b o e hx) (I.base.keep b o e n hb hx) (I.base.free b o e n hx)
 ·obtain ⟨sl,e1⟩:=I.base.slot b o e n hb hx
  obtain ⟨sl',e2⟩:=slot b _ (neL b o e) hb (neC b o e hx) e1 (I.base.free b o e n hx)
  exact⟨sl',e2⟩
 ·obtain ⟨o',e1⟩:=I.base.there b o e hx
  exact free b o' (neC b o e hx) e1 (I.base.free b o e n hx)
 ·obtain ⟨o',e1⟩:=I.base.there b o e hx
  exact there b o' (neC b o e hx) e1
 ·obtain ⟨m1,e1⟩:=I.base.tbls b ps e
  obtain ⟨m2,e2⟩:=tbls b _ e1
  exact⟨m1++m2,by rw [e2,Array.append_assoc]⟩
 ·obtain ⟨m,hn,hl⟩:=I.loc
  refine⟨m,ns m hn,fun i x v e1 e2 e3=>?_⟩
  obtain ⟨u,r,l⟩:=hl i x v e1 e2 e3
  refine⟨u,r,?_⟩
  rcases l with l|⟨k,c,e,z⟩
  ·exact .inl l
  ·exact .inr ⟨k,c,e,cellK x c e _ z⟩
 ·obtain ⟨v,z⟩:=I.cell x c e
  exact⟨v,cellK x c e v z⟩
 ·obtain ⟨m,⟨o,_,_,ho,_⟩,_⟩:=I.loc
  exact free _ o (fun z=>(hch _ z).2.1 rfl) ho I.free
 ·obtain ⟨v,o,ho,hd⟩:=I.cell x c e
  exact free c o (fun z=>(hch c z).2.2.1 x c e rfl) ho (I.freeC x c e)
 ·obtain ⟨e,n,ne,nf,d⟩:=I.pin p hp
  have nch:p.1∉ch:=fun z=>(hch p.1 z).2.2.2 p hp rfl
  exact⟨keep p.1 p.2 ne nf nch e n,free p.1 p.2 nch e n,ne,nf,d⟩
theorem Inv.un {t':Nat} (I:Inv X pins σ H s) (u:Un X.fs [] H H' s.heap h') (hok:HOk X.prog X.w H' h'):Inv X pins σ H' { s with heap:=h',toks:=t' }:=by
 obtain ⟨m,⟨o,es,ep,ho,r⟩,_⟩:=id I.loc
 obtain ⟨sl,hL⟩:=u.any ho I.free (by simp)
 exact I.step (g':=s.gens) (d':=s.drawn) (ch:=[]) (fun _ z=>nomatch z) (fun b o _ hb _ e n=>u.keep b o e n hb (by simp)) (fun b o _ hb _ e n=>u.slot b o e n hb (by simp)) (fun b o _ e n=>u.free b o e n (by simp)) (fun b o _ e=>u.there b o e (by simp)) u.tups u.frzs u.tbls (fun m' hm=>by
  obtain ⟨o',es',ep',ho',r'⟩:=hm
  rw [ho] at ho';cases ho'
  exact⟨_,es',ep',hL,r'⟩) hok I.bare
theorem Inv.call {g':Array GenState} {t':Nat} {d':Drawn} {ch:List Addr} (I:Inv X pins σ H s) (u:Un (frs X.stack) ch H H' s.heap h') (hok:HOk X.prog X.w H' h') (hg:AllBare g')
  (hch:∀ b∈ch,(b∈X.ex∨X.s₀.heap.objs.size≤b)∧b≠X.env.locals∧(∀ x c,X.env.cells.lookup x=some c→c≠b)∧∀ p∈X.pn++pins,p.1≠b) :
  Inv X pins σ H' { s with heap:=h',gens:=g',drawn:=d',toks:=t' }:=by
 obtain ⟨m,⟨o,es,ep,ho,r⟩,_⟩:=id I.loc
 obtain ⟨sl,hL⟩:=u.any ho I.free fun z=>(hch _ z).2.1 rfl
 exact I.step (ch:=ch) hch (fun b o hL hb hc e n=>u.keep b o e n (fun z=>(List.mem_cons.mp (I.stkSub b z)).elim hL hb) hc) (fun b o _ _ hc e n=>u.any e n hc) (fun b o hc e n=>u.free b o e n hc) (fun b o hc e=>u.there b o e hc) u.tups u.frzs u.tbls (fun m' hm=>by
  obtain ⟨o',es',ep',ho',r'⟩:=hm
  rw [ho] at ho';cases ho'
  exact⟨_,es',ep',hL,r'⟩) hok hg
theorem Inv.turned {t':Nat} {it:Addr} (I:Inv X pins σ H s) (k:∀ b o,b≠it→s.heap.get? b=some o→h'.get? b=some o) (hn:H it=none) (hL:it≠X.env.locals)
  (h1:it∈X.ex∨X.s₀.heap.objs.size≤it) (h2:∀ x c,X.env.cells.lookup x=some c→c≠it) (h3:∀ p∈X.pn++pins,p.1≠it):Inv X pins σ H { s with heap:=h',toks:=t' }:=by
 have nit:∀ b u,H b=some u→b≠it:=fun b u e z=>by rw [z,hn] at e;cases e
 refine I.step (g':=s.gens) (d':=s.drawn) (ch:=[it]) (fun b hb=>?_) (fun b o _ _ hc e _=>k b o (fun z=>hc (by simp [z])) e) (fun b o _ _ hc e _=>⟨o.slots,k b o (fun z=>hc (by simp [z])) e⟩) (fun _ _ _ _ n=>n)
  (fun b o hc e=>⟨o,k b o (fun z=>hc (by simp [z])) e⟩) (fun _ _ e=>e) (fun _ _ _ e=>e) (fun b ps e=>⟨#[],by rw [e];simp⟩) (fun m hm=>?_) (fun b u e=>?_) I.bare
 ·have e:b=it:=by simpa using hb
  subst e
  exact⟨h1,hL,h2,h3⟩
 ·obtain ⟨o,es,ep,ho,r⟩:=hm
  exact⟨o,es,ep,k _ o (Ne.symm hL) ho,r⟩
 ·refine (I.hok b u e).stay (fun c v hc q=>k c v ?_ q) (fun _ q=>q) fun _ _ q=>q
  rcases hc with z|z
  ·rw [z];exact nit b u e
  ·exact nit c _ z
theorem Inv.tok (I:Inv X pins σ H s) (t:Nat):Inv X pins σ H { s with toks:=t }:=I.un (h':=s.heap) (t':=t) Un.refl I.hok
theorem Inv.kept {t':Nat} (I:Inv X pins σ H s) (k:∀ b u,s.heap.get? b=some u→h'.get? b=some u):Inv X pins σ H { s with heap:=h',toks:=t' }:=I.un (Un.kept k) (I.hok.kept k)
theorem Inv.laid {a:Addr} {o:HO} {t':Nat} (I:Inv X pins σ H s) (k:∀ b u,s.heap.get? b=some u→h'.get? b=some u) (hp:s.heap.objs.size≤a) (new:ObjOk X.prog X.w (upd H a o) h' a o) :
  Inv X pins σ (upd H a o) { s with heap:=h',toks:=t' }:=I.un (Un.laid k hp (I.hok.fresh hp)) (I.hok.laid k hp new)
theorem Inv.write {x e:Addr} {o:HO} {t':Nat} (I:Inv X pins σ H s) (mu:Mut (H x)) (he:e=x∨H e=some (.own x)) (k:∀ b u,b≠e→s.heap.get? b=some u→h'.get? b=some u) (heo:∃ u,h'.get? e=some u)
  (new:ObjOk X.prog X.w (upd H x o) h' x o):Inv X pins σ (upd H x o) { s with heap:=h',toks:=t' }:=I.un (Un.write mu he k heo) (I.hok.write mu he k heo new)
theorem Inv.pins_of {pins':List (Addr×Obj)} (I:Inv X pins σ H s) (h:∀ p∈pins',s.heap.get? p.1=some p.2∧H p.1=none∧p.1≠X.env.locals∧p.1∉X.fs∧∀ v,p.2.data≠.cell v):Inv X pins' σ H s :=
 ⟨I.ok,I.os,I.bare,I.base,I.loc,I.cell,I.free,I.freeC,fun p hp=>(List.mem_append.mp hp).elim (fun z=>I.pin p (List.mem_append_left _ z)) (h p),I.hok,I.len⟩
theorem nodup_ix {N:List Str} (hN:N.Nodup) {i j:Nat} {x:Str} (a:N[i]?=some x) (b:N[j]?=some x):i=j:=by
 obtain ⟨h1,e1⟩:=List.getElem?_eq_some_iff.mp a
 obtain ⟨h2,e2⟩:=List.getElem?_eq_some_iff.mp b
 exact (List.getElem_inj hN).mp (e1.trans e2.symm)
theorem store_ok2 {M:Model} {A:Around} {E:Value→Shared→Prop} {i:Nat} {x:Str} {v:V} {u:Value} {Q:Unit→Shared→Prop} (I:Inv X pins σ H s) (hN:X.N.Nodup) (hi:X.N[i]?=some x) (hx:Loc X.env.scope x) (r:RelV v u)
  (h:∀ s',Inv X pins (σ.set i (some v)) H s'→(∃ a,Heap.SameBut a s.heap s'.heap∧(a=X.env.locals∨X.env.cells.lookup x=some a))→Q () s') (hf:X.fn x=true∨X.env.scope.names.lookup x=some .local:=by first|exact .inl rfl|exact .inr rfl|assumption):wpAny M A (storeName X.env x u) Q E s:=by
 obtain ⟨m,hn,hl⟩:=id I.loc
 have hcls:(X.env.scope.kind == .class || (X.env.scope.kind == .module && X.env.locals != X.env.globals))=false:=by rw [I.ok.kind];rfl
 have hiσ:i<σ.length:=by rw [I.len];exact (List.getElem?_eq_some_iff.mp hi).1
 have cne:=I.cne
 have tracked:∀ {a:Addr} {h':Heap},(∃ o,s.heap.get? a=some o∧H a=none)→Heap.SameBut a s.heap h'→HOk X.prog X.w H h':=fun {a h'} ha hs b ob e=>by
  obtain ⟨_,_,hfree⟩:=ha
  refine (I.hok b ob e).stay (fun c w' hc q=>(hs.2 c ?_).trans q) (fun _ q=>q) fun _ _ q=>q
  rintro rfl
  rcases hc with rfl|hc
  ·rw [hfree] at e;cases e
  ·rw [hfree] at hc;cases hc
 rcases hx with hk|hk
 ·refine wpAny_storeName_local hk hn (fun h' hn' hs=>?_) hcls
  obtain ⟨oL,_,_,hoL,_⟩:=id hn
  refine h _ ⟨I.ok,I.os,I.bare,⟨fun b o e n hb hx=>?_,fun b o e n hb hx=>?_,I.base.free,fun b o e hx=>?_,I.base.tups,I.base.frzs,I.base.tbls⟩,⟨_,hn',fun j y v' e1 e2 e3=>?_⟩,fun y c e=>?_,I.free,I.freeC,fun p hp=>?_,tracked ⟨oL,hoL,I.free⟩ hs,by simpa using I.len⟩ ⟨_,hs,.inl rfl⟩
  ·exact (hs.2 b (Nat.ne_of_lt (Nat.lt_of_lt_of_le (Heap.lt_size e) I.ok.above))).trans (I.base.keep b o e n hb hx)
  ·obtain ⟨sl,e1⟩:=I.base.slot b o e n hb hx
   exact⟨sl,(hs.2 b (Nat.ne_of_lt (Nat.lt_of_lt_of_le (Heap.lt_size e) I.ok.above))).trans e1⟩
  ·obtain ⟨o',e1⟩:=I.base.there b o e hx
   exact⟨o',(hs.2 b (Nat.ne_of_lt (Nat.lt_of_lt_of_le (Heap.lt_size e) I.ok.above))).trans e1⟩
  ·by_cases hj:j=i
   ·subst hj
    rw [hi] at e1;cases e1
    rw [List.getElem?_set_self hiσ] at e2
    cases e2
    exact⟨u,r,.inl ⟨hk,by simp⟩⟩
   ·rw [List.getElem?_set_ne (Ne.symm hj)] at e2
    obtain ⟨u',r',q⟩:=hl j y v' e1 e2 e3
    refine⟨u',r',?_⟩
    rcases q with ⟨k,e⟩|⟨k,c,e,z⟩
    ·refine .inl ⟨k,?_⟩
     have:y≠x:=fun e=>hj (nodup_ix hN e1 (e ▸ hi))
     simp [this,e]
    ·exact .inr ⟨k,c,e,z.sameBut hs (cne y c e)⟩
  ·obtain ⟨w',z⟩:=I.cell y c e
   exact⟨w',z.sameBut hs (cne y c e)⟩
  ·obtain ⟨e,n,ne,nf,d⟩:=I.pin p hp
   exact⟨(hs.2 p.1 ne).trans e,n,ne,nf,d⟩
 ·have hfn:X.fn x=true:=by
   rcases hf with z|z
   ·exact z
   ·rw [z] at hk;cases hk
  obtain ⟨c,hc⟩:=I.ok.has x (.inl hk)
  obtain ⟨w',z⟩:=I.cell x c hc
  refine wpAny_storeName_cell I.ok.kind hk hc z (fun h' hc' hs=>?_)
  obtain ⟨oc,hoc,hocd⟩:=id z
  refine h { s with heap:=h' } ⟨I.ok,I.os,I.bare,⟨fun b o e n hb hx=>?_,fun b o e n hb hx=>?_,I.base.free,fun b o e hx=>?_,I.base.tups,I.base.frzs,I.base.tbls⟩,⟨m,hn.sameBut hs (Ne.symm (cne x c hc)),fun j y v' e1 e2 e3=>?_⟩,fun y c' e=>?_,I.free,I.freeC,fun p hp=>?_,tracked ⟨oc,hoc,I.freeC x c hc⟩ hs,by simpa using I.len⟩ ⟨c,hs,.inr hc⟩
  ·exact (hs.2 b (Nat.ne_of_lt (Nat.lt_of_lt_of_le (Heap.lt_size e) (I.ok.cab x c hfn hc)))).trans (I.base.keep b o e n hb hx)
  ·obtain ⟨sl,e1⟩:=I.base.slot b o e n hb hx
   exact⟨sl,(hs.2 b (Nat.ne_of_lt (Nat.lt_of_lt_of_le (Heap.lt_size e) (I.ok.cab x c hfn hc)))).trans e1⟩
  ·obtain ⟨o',e1⟩:=I.base.there b o e hx
   exact⟨o',(hs.2 b (Nat.ne_of_lt (Nat.lt_of_lt_of_le (Heap.lt_size e) (I.ok.cab x c hfn hc)))).trans e1⟩
  ·by_cases hj:j=i
   ·subst hj
    rw [hi] at e1;cases e1
    rw [List.getElem?_set_self hiσ] at e2
    cases e2
    exact⟨u,r,.inr ⟨.inl hk,c,hc,hc'⟩⟩
   ·rw [List.getElem?_set_ne (Ne.symm hj)] at e2
    obtain ⟨u',r',q⟩:=hl j y v' e1 e2 e3
    refine⟨u',r',?_⟩
    rcases q with q|⟨k,c',e,z'⟩
    ·exact .inl q
    ·refine .inr ⟨k,c',e,z'.sameBut hs ?_⟩
     rintro rfl
     exact hj (nodup_ix hN e1 (I.ok.inj _ _ _ e hc ▸ hi))
  ·by_cases hcc:c'=c
   ·subst hcc;exact⟨_,hc'⟩
   ·obtain ⟨w2,z2⟩:=I.cell y c' e
    exact⟨w2,z2.sameBut hs hcc⟩
  ·obtain ⟨e,n,ne,nf,d⟩:=I.pin p hp
   refine⟨(hs.2 p.1 ?_).trans e,n,ne,nf,d⟩
   intro q
   rw [q,hoc] at e
   have q':oc=p.2:=Option.some.inj e
   exact d w' (by rw [← q'];exact hocd)
theorem store_ok {M:Model} {A:Around} {E:Value→Shared→Prop} {i:Nat} {x:Str} {v:V} {u:Value} {Q:Unit→Shared→Prop} (I:Inv X pins σ H s) (hN:X.N.Nodup) (hi:X.N[i]?=some x) (hx:Loc X.env.scope x) (r:RelV v u)
  (h:∀ s',Inv X pins (σ.set i (some v)) H s'→Q () s') (hf:X.fn x=true∨X.env.scope.names.lookup x=some .local:=by first|exact .inl rfl|exact .inr rfl|assumption):wpAny M A (storeName X.env x u) Q E s :=
 store_ok2 I hN hi hx r (fun s' I' _=>h s' I') hf
theorem Inv.call' {s':Shared} {ch:List Addr} (I:Inv X pins σ H s) (ho:s'.os=s.os) (u:Un (frs X.stack) ch H H' s.heap s'.heap) (hok:HOk X.prog X.w H' s'.heap) (hg:AllBare s'.gens)
  (hch:∀ b∈ch,(b∈X.ex∨X.s₀.heap.objs.size≤b)∧b≠X.env.locals∧(∀ x c,X.env.cells.lookup x=some c→c≠b)∧∀ p∈X.pn++pins,p.1≠b):Inv X pins σ H' s':=by
 obtain ⟨h',g',d',t',o'⟩:=s'
 have e:o'=s.os:=ho
 subst e
 exact I.call (g':=g') (t':=t') (d':=d') u hok hg hch
end
noncomputable abbrev XK:=Value→Option Addr→Hp→Prop
noncomputable abbrev St:=List (Option V)
noncomputable abbrev VK:=V→Hp→Prop
noncomputable abbrev TE:=St→Hp→VK→Prop
noncomputable abbrev TT:=St→Hp→(Bool→Hp→Prop)→Prop
noncomputable abbrev TA:=St→Hp→(List V→Hp→Prop)→Prop
structure Ends where
 nx:St→Hp→Prop
 rt:VK
 bk:St→Hp→Prop:=fun _ _=>False
 ct:St→Hp→Prop:=fun _ _=>False
noncomputable abbrev TS:=Ends→St→Hp→Prop
noncomputable def EP (X:Cx) (pins:List (Addr×Obj)) (σ:St) (Q:VK) (u:Value) (s':Shared):Prop:=∃ v H',Inv X pins σ H' s'∧RelV v u∧Q v H'
noncomputable def TP (X:Cx) (pins:List (Addr×Obj)) (σ:St) (Q:Bool→Hp→Prop) (b:Bool) (s':Shared):Prop:=∃ H',Inv X pins σ H' s'∧Q b H'
noncomputable def AP (X:Cx) (pins:List (Addr×Obj)) (σ:St) (Q:List V→Hp→Prop) (us:List Value) (s':Shared):Prop:=∃ vs H',Inv X pins σ H' s'∧Vals vs us∧Q vs H'
noncomputable def SP (X:Cx) (pins:List (Addr×Obj)) (D:Ends) (f:Flow) (s':Shared):Prop :=
 match f with
 | .next=>∃ σ' H',Inv X pins σ' H' s'∧D.nx σ' H'
 | .brk=>∃ σ' H',Inv X pins σ' H' s'∧D.bk σ' H'
 | .cont=>∃ σ' H',Inv X pins σ' H' s'∧D.ct σ' H'
 | .ret u=>∃ v σ' H',Inv X pins σ' H' s'∧RelV v u∧D.rt v H'
noncomputable def PE (X:Cx) (e:Expr) (t:TE):Prop :=
 ∀ (pins:List (Addr×Obj)) (s:Shared) (σ:St) (H:Hp) (Q:VK),Inv X pins σ H s→t σ H Q→wpAny (model X.prog X.w) X.A (eval e X.env) (EP X pins σ Q) X.xe s
noncomputable def PT (X:Cx) (e:Expr) (t:TT):Prop :=
 ∀ (pins:List (Addr×Obj)) (s:Shared) (σ:St) (H:Hp) (Q:Bool→Hp→Prop),Inv X pins σ H s→t σ H Q→wpAny (model X.prog X.w) X.A (isTrue e X.env (eval e X.env)) (TP X pins σ Q) X.xe s
noncomputable def PW (X:Cx) (e:Expr) (t:TT):Prop :=
 ∀ (whole:Sem Value) (pins:List (Addr×Obj)) (s:Shared) (σ:St) (H:Hp) (Q:Bool→Hp→Prop),Inv X pins σ H s→t σ H Q→wpAny (model X.prog X.w) X.A (isTrue e X.env whole) (TP X pins σ Q) X.xe s
theorem PW.pt {X:Cx} {e:Expr} {t:TT} (h:PW X e t):PT X e t:=h _
noncomputable def PA (X:Cx) (es:List Expr) (t:TA):Prop :=
 ∀ (pos:Pos) (pins:List (Addr×Obj)) (s:Shared) (σ:St) (H:Hp) (Q:List V→Hp→Prop),Inv X pins σ H s→t σ H Q→wpAny (model X.prog X.w) X.A (spliced (backTo pos (starEach es X.env))) (AP X pins σ Q) X.xe s
noncomputable def PS (X:Cx) (st:Stmt) (t:TS):Prop :=
 ∀ (pins:List (Addr×Obj)) (s:Shared) (σ:St) (H:Hp) (D:Ends),Inv X pins σ H s→t D σ H→wpAny (model X.prog X.w) X.A (exec st X.env) (SP X pins D) X.xe s
noncomputable def PSs (X:Cx) (st:List Stmt) (t:TS):Prop :=
 ∀ (pins:List (Addr×Obj)) (s:Shared) (σ:St) (H:Hp) (D:Ends),Inv X pins σ H s→t D σ H→wpAny (model X.prog X.w) X.A (execs st X.env) (SP X pins D) X.xe s
theorem thn {α:Type} {t:Sem α} {Q Q':α→Shared→Prop} {M:Model} {A:Around} {E:Value→Shared→Prop} {s:Shared} (h:wpAny M A t Q E s) (hQ:∀ a s,Q a s→Q' a s):wpAny M A t Q' E s:=wpAny_mono h hQ fun _ _ x=>x
end L2
namespace L2
open PySem PySem.Spec PyProof.Rows
section
variable {X:Cx}
theorem bin {a b:Expr} {ta tb:TE} (ha:PE X a ta) (hb:PE X b tb) {pins:List (Addr×Obj)} {s:Shared} {σ:St} {H:Hp} {R:V→V→Hp→Prop} (I:Inv X pins σ H s) (h:ta σ H fun x H1=>tb σ H1 fun y H2=>R x y H2)
  {α:Type} {Q:α→Shared→Prop} {f:Value→Value→Sem α}
  (hf:∀ v u s2 x y H2,Inv X pins σ H2 s2→RelV x v→RelV y u→R x y H2→wpAny (model X.prog X.w) X.A (f v u) Q X.xe s2) :
  wpAny (model X.prog X.w) X.A (eval a X.env) (fun v s₁=>wpAny (model X.prog X.w) X.A (eval b X.env) (fun u s₂=>wpAny (model X.prog X.w) X.A (f v u) Q X.xe s₂) X.xe s₁) X.xe s:=by
 refine thn (ha pins s σ H _ I h) fun v s1 ⟨x,H1,I1,r1,q1⟩=>?_
 refine thn (hb pins s1 σ H1 _ I1 q1) fun u s2 ⟨y,H2,I2,r2,q2⟩=>?_
 exact hf v u s2 x y H2 I2 r1 r2 q2
noncomputable def tVar (i:Nat):TE:=fun σ H Q=>∃ v,σ[i]?=some (some v)∧Q v H
noncomputable def tC (v:V):TE:=fun _ H Q=>Q v H
theorem pe_var {i:Nat} {x:Str} {pos:Pos} (hN:X.N[i]?=some x) (hv:Vis X.env.scope x) (hd:(x == ("__debug__":Str))=false:=by decide) (hcd:(x == ("__classdict__":Str))=false:=by decide):PE X (.Name x pos) (tVar i):=by
 intro pins s σ H Q I h
 obtain ⟨v,e,h⟩:=h
 obtain ⟨m,hn,hl⟩:=I.loc
 obtain ⟨u,r,l⟩:=hl i x v hN e hv
 have fin:EP X pins σ Q u s:=⟨v,H,I,r,h⟩
 rcases l with ⟨hk,hm⟩|⟨hk,c,hc,hcell⟩
 ·exact wpAny_Name (wpAny_loadName_local I.ok.kind hk hn hm fin) hd
 ·rcases hk with hk|hk
  ·exact wpAny_Name (wpAny_loadName_cell I.ok.kind hk hc hcell fin) hd
  ·exact wpAny_Name (wpAny_loadName_free I.ok.kind hk hc hcell fin hcd) hd
theorem pe_int {i j pos}:PE X (.Constant (.int i) j pos) (tC (.int i)):=fun _ _ _ H _ I h=>wpAny_Constant_int ⟨.int i,H,I.tok _,⟨_,rfl⟩,h⟩
theorem pe_bl {b j pos}:PE X (.Constant (.bool b) j pos) (tC (.bl b)):=fun _ _ _ H _ I h=>Constant_bool ⟨.bl b,H,I,rfl,h⟩
theorem pe_non {j pos}:PE X (.Constant .none j pos) (tC .non):=fun _ _ _ H _ I h=>Constant_none ⟨.non,H,I,rfl,h⟩
theorem pe_str {x j pos}:PE X (.Constant (.str x) j pos) (tC (.str x)):=fun _ _ _ H _ I h=>Calls.Constant_str ⟨.str x,H,I.tok _,⟨_,rfl⟩,h⟩
noncomputable def Gl (X:Cx) (x:Str):Prop:=X.env.kindOf x=some .globalImplicit
theorem ld_glob {E:Value→Shared→Prop} {pins:List (Addr×Obj)} {s:Shared} {σ:St} {H:Hp} {x:Str} {u:Value} {pos:Pos} {Q:Value→Shared→Prop} (I:Inv X pins σ H s) (hg:Gl X x) (hm:X.mg x=some u) (h:Q u s)
  (hd:(x == ("__debug__":Str))=false:=by decide):wpAny (model X.prog X.w) X.A (eval (.Name x pos) X.env) Q E s :=
 Calls.Name_function_global I.ok.kind hg (Calls.loadGlobal_global (by rw [I.ok.glob];exact I.mod.glob.keeps I.bk) hm h) hd
theorem ld_blt {E:Value→Shared→Prop} {pins:List (Addr×Obj)} {s:Shared} {σ:St} {H:Hp} {x:Str} {u:Value} {pos:Pos} {Q:Value→Shared→Prop} (I:Inv X pins σ H s) (hg:Gl X x) (hm:X.mg x=none) (hv:bootBuiltins x=some u) (h:Q u s)
  (hn:x≠"__name__":=by decide) (hd:(x == ("__debug__":Str))=false:=by decide):wpAny (model X.prog X.w) X.A (eval (.Name x pos) X.env) Q E s:=by
 obtain ⟨mb,h1,h2⟩:=I.mod.blt
 exact Calls.Name_function_global I.ok.kind hg (Calls.loadGlobal_builtin (by rw [I.ok.glob];exact I.mod.glob.keeps I.bk) hm (by rw [I.ok.blt];exact h1.keeps I.bk) ((h2 x hn).trans hv) h) hd
theorem pe_glob {x:Str} {v:V} {u:Value} {pos:Pos} (hg:Gl X x) (hm:X.mg x=some u) (r:RelV v u) (hd:(x == ("__debug__":Str))=false:=by decide):PE X (.Name x pos) (tC v) :=
 fun _ _ _ H _ I h=>ld_glob I hg hm ⟨v,H,I,r,h⟩ hd
theorem pe_bltn {x:Str} {v:V} {u:Value} {pos:Pos} (hg:Gl X x) (hm:X.mg x=none) (hv:bootBuiltins x=some u) (r:RelV v u) (hn:x≠"__name__":=by decide) (hd:(x == ("__debug__":Str))=false:=by decide):PE X (.Name x pos) (tC v) :=
 fun _ _ _ H _ I h=>ld_blt I hg hm hv ⟨v,H,I,r,h⟩ hn hd
variable {a b:Expr} {ta tb:TE} {pos:Pos}
noncomputable def PC (X:Cx) (op:CmpOp) (a b:Expr) (t:TE):Prop :=
 ∀ (pins:List (Addr×Obj)) (s:Shared) (σ:St) (H:Hp) (Q:VK),Inv X pins σ H s→t σ H Q →
  wpAny (model X.prog X.w) X.A (eval a X.env) (fun v s₁=>wpAny (model X.prog X.w) X.A (eval b X.env) (fun u s₂=>wpAny (model X.prog X.w) X.A (compareOp op v u) (EP X pins σ Q) X.xe s₂) X.xe s₁) X.xe s
noncomputable def tB (t:TE):TT:=fun σ H Q=>t σ H fun x H1=>∃ c,x=.bl c∧Q c H1
theorem pt_cmp {op:CmpOp} {t:TE} (h:PC X op a b t) (h1:behindInMarks op b=false:=by first|exact nobehind _ (by decide) (by decide)|rfl):PT X (.Compare a [op] [b] pos) (tB t):=by
 intro pins s σ H Q I hw
 refine wpAny_isTrue_Compare1 (thn (h pins s σ H _ I hw) fun v s1 h1=>thn h1 fun u s2 h2=>thn h2 fun c s3 ⟨x,H1,I1,r1,q1⟩=>?_) h1
 obtain ⟨d,rfl,q⟩:=q1
 cases r1
 exact wpAny_truthy_bool ⟨H1,I1,q⟩
theorem pt_val {e:Expr} {t:TE} (h:PE X e t) (he:∀ whole,isTrue e X.env whole=(do let v ← whole;standAt e.pos;holding [v] (truthy v)):=by intro _;rfl):PT X e (tB t):=by
 intro pins s σ H Q I hw
 refine isTrue_plain (thn (h pins s σ H _ I hw) fun v s1 ⟨x,H1,I1,r1,q1⟩=>?_) (he _)
 obtain ⟨d,rfl,q⟩:=q1
 cases r1
 exact wpAny_truthy_bool ⟨H1,I1,q⟩
variable {tA tB':TT} {rest:List Expr}
noncomputable def tAnd (t u:TT):TT:=fun σ H Q=>t σ H fun c H1=>if c=true then u σ H1 Q else Q false H1
noncomputable def tOr (t u:TT):TT:=fun σ H Q=>t σ H fun c H1=>if c=true then Q true H1 else u σ H1 Q
noncomputable def tNot (t:TT):TT:=fun σ H Q=>t σ H fun c H1=>Q (!c) H1
theorem pw_and1 (ha:PT X a tA):PW X (.BoolOp .And [a] pos) tA:=by
 intro wh pins s σ H Q I h
 refine isTrue_and (thn (ha pins s σ H Q I h) fun c s1 e=>?_)
 cases c with
 | true=>exact isTrue_and_nil e
 | false=>exact e
theorem pw_or1 (ha:PT X a tA):PW X (.BoolOp .Or [a] pos) tA:=by
 intro wh pins s σ H Q I h
 refine isTrue_or (thn (ha pins s σ H Q I h) fun c s1 e=>?_)
 cases c with
 | false=>exact isTrue_or_nil e
 | true=>exact e
theorem pw_and (ha:PT X a tA) (hb:PW X (.BoolOp .And (b::rest) pos) tB'):PW X (.BoolOp .And (a::b::rest) pos) (tAnd tA tB'):=by
 intro wh pins s σ H Q I h
 refine isTrue_and (thn (ha pins s σ H _ I h) fun c s1 ⟨H1,I1,q1⟩=>?_)
 cases c with
 | true=>exact hb wh pins s1 σ H1 Q I1 q1
 | false=>exact⟨H1,I1,q1⟩
theorem pw_or (ha:PT X a tA) (hb:PW X (.BoolOp .Or (b::rest) pos) tB'):PW X (.BoolOp .Or (a::b::rest) pos) (tOr tA tB'):=by
 intro wh pins s σ H Q I h
 refine isTrue_or (thn (ha pins s σ H _ I h) fun c s1 ⟨H1,I1,q1⟩=>?_)
 cases c with
 | true=>exact⟨H1,I1,q1⟩
 | false=>exact hb wh pins s1 σ H1 Q I1 q1
theorem pt_not (ha:PT X a tA):PT X (.UnaryOp .Not a pos) (tNot tA):=by
 intro pins s σ H Q I h
 exact isTrue_not (ha pins s σ H (fun c H1=>Q (!c) H1) I h)
noncomputable def tAndV (ta tb:TE):TE:=fun σ H Q=>ta σ H fun x H1=>∃ c,x=.bl c∧if c=true then tb σ H1 Q else Q (.bl false) H1
noncomputable def tOrV (ta tb:TE):TE:=fun σ H Q=>ta σ H fun x H1=>∃ c,x=.bl c∧if c=true then Q (.bl true) H1 else tb σ H1 Q
noncomputable def tNotV (ta:TE):TE:=fun σ H Q=>ta σ H fun x H1=>∃ c,x=.bl c∧Q (.bl (!c)) H1
theorem pe_one {op} {t:TE} (h:PE X a t):PE X (.BoolOp op [a] pos) t:=fun pins s σ H Q I hw=>BoolOp_one (h pins s σ H Q I hw)
theorem pe_and (ha:PE X a ta) (hb:PE X (.BoolOp .And (b::rest) pos) tb):PE X (.BoolOp .And (a::b::rest) pos) (tAndV ta tb):=by
 intro pins s σ H Q I h
 refine BoolOp_and (thn (ha pins s σ H _ I h) fun v s1 ⟨x,H1,I1,r1,q1⟩=>?_)
 obtain ⟨c,rfl,q1⟩:=q1
 cases r1
 refine wpAny_truthy_bool ?_
 cases c with
 | true=>exact hb pins s1 σ H1 Q I1 q1
 | false=>exact⟨.bl false,H1,I1,rfl,q1⟩
theorem pe_or (ha:PE X a ta) (hb:PE X (.BoolOp .Or (b::rest) pos) tb):PE X (.BoolOp .Or (a::b::rest) pos) (tOrV ta tb):=by
 intro pins s σ H Q I h
 refine BoolOp_or (thn (ha pins s σ H _ I h) fun v s1 ⟨x,H1,I1,r1,q1⟩=>?_)
 obtain ⟨c,rfl,q1⟩:=q1
 cases r1
 refine wpAny_truthy_bool ?_
 cases c with
 | false=>exact hb pins s1 σ H1 Q I1 q1
 | true=>exact⟨.bl true,H1,I1,rfl,q1⟩
theorem pe_not (ha:PE X a ta):PE X (.UnaryOp .Not a pos) (tNotV ta):=by
 intro pins s σ H Q I h
 refine UnaryOp_ (thn (ha pins s σ H _ I h) fun v s1 ⟨x,H1,I1,r1,q1⟩=>?_)
 obtain ⟨c,rfl,q1⟩:=q1
 cases r1
 exact not_of (wpAny_truthy_bool ⟨.bl (!c),H1,I1,rfl,q1⟩)
noncomputable def tIf (t:TT) (ta tb:TE):TE:=fun σ H Q=>t σ H fun c H1=>if c=true then ta σ H1 Q else tb σ H1 Q
theorem pe_ifExp {c:Expr} (hc:PT X c tA) (ha:PE X a ta) (hb:PE X b tb):PE X (.IfExp c a b pos) (tIf tA ta tb):=by
 intro pins s σ H Q I h
 refine wpAny_IfExp (thn (hc pins s σ H _ I h) fun d s1 ⟨H1,I1,q1⟩=>?_)
 cases d with
 | true=>exact ha pins s1 σ H1 Q I1 q1
 | false=>exact hb pins s1 σ H1 Q I1 q1
end
end L2
namespace L2
open PySem PySem.Spec PyProof.Rows
noncomputable def SqL (K:PySem.W.Frag) (H:Hp) (a:Addr) (xs:List V):Prop :=
 Rd H a (.lst xs) ∨
  ∃ (o:Obj) (its:Array Value) (n:Nat),K.lookup a=some o∧o.cls=.type "list"∧o.dict=none∧o.data=.seq its n∧its.size≤sizeLine∧Vals xs its.toList
noncomputable def SqT (K:PySem.W.Frag) (H:Hp) (a:Addr) (xs:List V):Prop :=
 Rd H a (.tup xs) ∨
  ∃ (o:Obj) (its:Array Value) (n:Nat),K.lookup a=some o∧o.cls=.type "tuple"∧o.data=.seq its n∧its.size≤sizeLine∧Vals xs its.toList
noncomputable def absV:Value→Option V
 | .none=>some .non
 | .bool b=>some (.bl b)
 | .int i _=>some (.int i)
 | .str x _=>some (.str x)
 | .bytes b _=>some (.byt b)
 | .float b _=>some (.flt b)
 | .ref a=>some (.ref a)
 | .type n=>some (.ty n)
 | _=>none
theorem RelV.abs {x:V} {u:Value} (r:RelV x u):absV u=some x:=by
 cases x with
 | non=>cases r;rfl
 | bl _=>cases r;rfl
 | int _=>obtain ⟨t,rfl⟩:=r;rfl
 | str _=>obtain ⟨t,rfl⟩:=r;rfl
 | byt _=>obtain ⟨t,rfl⟩:=r;rfl
 | flt _=>obtain ⟨t,rfl⟩:=r;rfl
 | ref _=>cases r;rfl
 | ty _=>cases r;rfl
theorem RelV.inj {x y:V} {u:Value} (r:RelV x u) (q:RelV y u):x=y:=Option.some.inj (r.abs.symm.trans q.abs)
theorem Vals.inj:∀ {xs ys:List V} {us:List Value},Vals xs us→Vals ys us→xs=ys
 | _,_,_,.nil,.nil=>rfl
 | _,_,_,.cons r t,.cons r' t'=>by rw [r.inj r',Vals.inj t t']
section
variable {X:Cx} {pins:List (Addr×Obj)} {σ:St} {H:Hp} {s:Shared} {a:Addr} {xs ys:List V}
theorem SqL.of {K:PySem.W.Frag} (h:H a=some (.lst xs)):SqL K H a xs:=.inl (.inl h)
theorem SqT.of {K:PySem.W.Frag} (h:H a=some (.tup xs)):SqT K H a xs:=.inl (.inl h)
theorem Inv.list (I:Inv X pins σ H s) (h:SqL X.K H a xs):∃ its:List Value,Vals xs its∧PlainL s.heap a its.toArray∧xs.length≤sizeLine:=by
 rcases h with h|⟨o,its,n,hk,hc,hd,hs,hz,r⟩
 ·obtain ⟨z,its,n,r,e⟩:=h.ok I.hok
  exact⟨its,r,⟨_,n,e,rfl,rfl,rfl⟩,z⟩
 ·refine⟨its.toList,r,⟨o,n,I.kIn a o hk,hc,hd,by simpa using hs⟩,?_⟩
  have e:=r.length
  simp only [Array.length_toList] at e
  lia
theorem Inv.tuple (I:Inv X pins σ H s) (h:SqT X.K H a xs):∃ its:List Value,Vals xs its∧IsTup s.heap a its.toArray∧xs.length≤sizeLine:=by
 rcases h with h|⟨o,its,n,hk,hc,hs,hz,r⟩
 ·obtain ⟨z,its,r,p⟩:=h.ok I.hok
  exact⟨its,r,p,z⟩
 ·refine⟨its.toList,r,⟨o,I.kIn a o hk,hc,n,by simpa using hs⟩,?_⟩
  have e:=r.length
  simp only [Array.length_toList] at e
  lia
theorem Inv.list_inj (I:Inv X pins σ H s) (h:SqL X.K H a xs) (h':SqL X.K H a ys):xs=ys:=by
 obtain ⟨its,r,⟨o,n,e,_,_,d⟩,_⟩:=I.list h
 obtain ⟨its',r',⟨o',n',e',_,_,d'⟩,_⟩:=I.list h'
 rw [e] at e';cases e'
 rw [d] at d'
 injection d' with d1 _
 have:its=its':=by simpa using congrArg Array.toList d1
 subst this
 exact r.inj r'
theorem Inv.tuple_inj (I:Inv X pins σ H s) (h:SqT X.K H a xs) (h':SqT X.K H a ys):xs=ys:=by
 obtain ⟨its,r,⟨o,e,_,n,d⟩,_⟩:=I.tuple h
 obtain ⟨its',r',⟨o',e',_,n',d'⟩,_⟩:=I.tuple h'
 rw [e] at e';cases e'
 rw [d] at d'
 injection d' with d1 _
 have:its=its':=by simpa using congrArg Array.toList d1
 subst this
 exact r.inj r'
end
noncomputable abbrev Cx.wish (X:Cx) (E:Value→Shared→Prop):Cx:={ X with xe:=E }
noncomputable abbrev Cx.nox (X:Cx):Cx:=X.wish fun _ _=>False
theorem Cx.Ok.wish {X:Cx} (ok:X.Ok) (E:Value→Shared→Prop):(X.wish E).Ok :=
 ⟨ok.mod,ok.kind,ok.glob,ok.blt,ok.above,ok.inj,ok.has,ok.cab,ok.hd,ok.frames,ok.stk,ok.exf,ok.bs,ok.bsz,ok.noex,ok.exfs,ok.funs,ok.frf⟩
theorem Cx.Ok.unwish {X:Cx} {E:Value→Shared→Prop} (ok:(X.wish E).Ok):X.Ok :=
 ⟨ok.mod,ok.kind,ok.glob,ok.blt,ok.above,ok.inj,ok.has,ok.cab,ok.hd,ok.frames,ok.stk,ok.exf,ok.bs,ok.bsz,ok.noex,ok.exfs,ok.funs,ok.frf⟩
section
variable {X:Cx} {pins:List (Addr×Obj)} {σ:St} {H:Hp} {s:Shared} {E:Value→Shared→Prop}
theorem Inv.wish (I:Inv X pins σ H s) (E:Value→Shared→Prop):Inv (X.wish E) pins σ H s:=⟨I.ok.wish E,I.os,I.bare,I.base,I.loc,I.cell,I.free,I.freeC,I.pin,I.hok,I.len⟩
theorem Inv.unwish (I:Inv (X.wish E) pins σ H s):Inv X pins σ H s:=⟨I.ok.unwish,I.os,I.bare,I.base,I.loc,I.cell,I.free,I.freeC,I.pin,I.hok,I.len⟩
theorem SP.unwish {D:Ends} {f:Flow} {s':Shared} (h:SP (X.wish E) pins D f s'):SP X pins D f s':=by
 cases f with
 | next=>obtain ⟨σ',H',I,q⟩:=h;exact⟨σ',H',I.unwish,q⟩
 | brk=>obtain ⟨σ',H',I,q⟩:=h;exact⟨σ',H',I.unwish,q⟩
 | cont=>obtain ⟨σ',H',I,q⟩:=h;exact⟨σ',H',I.unwish,q⟩
 | ret u=>obtain ⟨v,σ',H',I,r,q⟩:=h;exact⟨v,σ',H',I.unwish,r,q⟩
theorem PSs.nox {st:List Stmt} {t:TS} (h:PSs X.nox st t):PSs X st t:=fun pins s σ H D I hw =>
 wpAny_mono (h pins s σ H D (I.wish _) hw) (fun _ _ q=>q.unwish) fun _ _ z=>False.elim z
end
section
variable {X:Cx} {st:Stmt} {rest:List Stmt} {t u:TS} {e:Expr} {te:TE} {pos:Pos}
noncomputable def tNext:TS:=fun D σ H=>D.nx σ H
noncomputable def tSeq (t u:TS):TS:=fun D σ H=>t { D with nx:=u D } σ H
theorem pss_nil:PSs X [] tNext:=fun _ _ σ H _ I h=>wpAny_execs_nil ⟨σ,H,I,h⟩
theorem pss_cons (h1:PS X st t) (h2:PSs X rest u):PSs X (st::rest) (tSeq t u):=by
 intro pins s σ H D I h
 refine wpAny_execs_cons (thn (h1 pins s σ H { D with nx:=u D } I h) fun f s1 q=>?_)
 cases f with
 | next =>
  obtain ⟨σ',H',I',q⟩:=q
  exact h2 pins s1 σ' H' D I' q
 | ret v=>exact q
 | brk=>exact q
 | cont=>exact q
theorem pss_one (h1:PS X st t):PSs X [st] t:=by
 intro pins s σ H D I h
 refine wpAny_execs_cons (thn (h1 pins s σ H D I h) fun f s1 q=>?_)
 cases f with
 | next=>exact wpAny_execs_nil q
 | ret v=>exact q
 | brk=>exact q
 | cont=>exact q
theorem Inv.quiet {pins:List (Addr×Obj)} {σ:St} {H:Hp} {s:Shared} (I:Inv X pins σ H s):interactive X.env=false:=by simp [interactive,I.ok.kind]
noncomputable def tDrop (te:TE):TS:=fun D σ H=>te σ H fun _ H1=>D.nx σ H1
theorem ps_expr (he:PE X e te) (hs:swapsWith e none pos.line X.env=pure false:=by rfl):PS X (.Expr e pos) (tDrop te):=by
 intro pins s σ H D I h
 exact wpAny_Expr_any (thn (he pins s σ H _ I h) fun v s1 ⟨x,H1,I1,r1,q1⟩=>⟨σ,H1,I1,q1⟩) I.quiet hs
noncomputable def tRet (te:TE):TS:=fun D σ H=>te σ H D.rt
theorem ps_ret (he:PE X e te):PS X (.Return (some e) pos) (tRet te):=by
 intro pins s σ H D I h
 exact wpAny_Return_some (thn (he pins s σ H _ I h) fun v s1 ⟨x,H1,I1,r1,q1⟩=>⟨x,σ,H1,I1,r1,q1⟩)
noncomputable def tIfS (c:TT) (t u:TS):TS:=fun D σ H=>c σ H fun b H1=>if b=true then t D σ H1 else u D σ H1
theorem ps_if {c:Expr} {a b:List Stmt} {tc:TT} (hc:PT X c tc) (ha:PSs X a t) (hb:PSs X b u):PS X (.If c a b pos) (tIfS tc t u):=by
 intro pins s σ H D I h
 refine wpAny_If (thn (hc pins s σ H _ I h) fun d s1 ⟨H1,I1,q1⟩=>?_)
 cases d with
 | true=>exact ha pins s1 σ H1 D I1 q1
 | false=>exact hb pins s1 σ H1 D I1 q1
end
noncomputable abbrev TG:=V→St→Hp→(St→Hp→Prop)→Prop
noncomputable abbrev TGs:=List V→St→Hp→(St→Hp→Prop)→Prop
noncomputable def PG (X:Cx) (target:Expr) (t:TG):Prop :=
 ∀ (pins:List (Addr×Obj)) (s:Shared) (σ:St) (H:Hp) (v:V) (u:Value) (Q:St→Hp→Prop),Inv X pins σ H s→RelV v u→t v σ H Q →
  wpAny (model X.prog X.w) X.A (assign target X.env u) (fun _ s'=>∃ σ' H',Inv X pins σ' H' s'∧Q σ' H') X.xe s
noncomputable def PGs (X:Cx) (ts:List Expr) (t:TGs):Prop :=
 ∀ (pins:List (Addr×Obj)) (s:Shared) (σ:St) (H:Hp) (vs:List V) (us:List Value) (Q:St→Hp→Prop),Inv X pins σ H s→Vals vs us→t vs σ H Q →
  wpAny (model X.prog X.w) X.A (assignInOrder ((assignEach ts X.env).map (·.2)) us) (fun _ s'=>∃ σ' H',Inv X pins σ' H' s'∧Q σ' H') X.xe s
section
variable {X:Cx} {pos:Pos}
noncomputable def gName (i:Nat):TG:=fun v σ H Q=>Q (σ.set i (some v)) H
theorem pg_name {i:Nat} {x:Str} (hN:X.N.Nodup) (hi:X.N[i]?=some x) (hx:Loc X.env.scope x) (hf:X.fn x=true∨X.env.scope.names.lookup x=some .local:=by first|exact .inl rfl|exact .inr rfl|assumption):PG X (.Name x pos) (gName i):=by
 intro pins s σ H v u Q I r h
 exact wpAny_assign_Name (store_ok I hN hi hx r (fun s' I'=>⟨_,H,I',h⟩) hf)
noncomputable def gNil:TGs:=fun vs σ H Q=>vs=[]∧Q σ H
noncomputable def gCons (t:TG) (u:TGs):TGs:=fun vs σ H Q=>∃ v r,vs=v::r∧t v σ H fun σ' H'=>u r σ' H' Q
theorem pgs_nil:PGs X [] gNil:=by
 intro pins s σ H vs us Q I r h
 obtain ⟨e,h⟩:=h
 subst e
 cases r
 exact assignInOrder_nil ⟨σ,H,I,h⟩
theorem pgs_cons {e:Expr} {es:List Expr} {t:TG} {u:TGs} (h1:PG X e t) (h2:PGs X es u)
  (hs:(assignEach (e::es) X.env).map (·.2)=assign e X.env::(assignEach es X.env).map (·.2):=by rfl):PGs X (e::es) (gCons t u):=by
 intro pins s σ H vs us Q I r h
 obtain ⟨v,vr,e1,h⟩:=h
 subst e1
 cases r with
 | cons r rr =>
  rw [hs]
  refine assignInOrder_cons (thn (h1 pins s σ H _ _ _ I r h) fun _ s1 ⟨σ1,H1,I1,q1⟩=>?_)
  exact h2 pins s1 σ1 H1 _ _ Q I1 rr q1
noncomputable def gTup (K:PySem.W.Frag) (n:Nat) (t:TGs):TG:=fun v σ H Q=>∃ a xs,v=.ref a∧SqT K H a xs∧xs.length=n∧t xs σ H Q
theorem pg_tup {es:List Expr} {k:Nat} {t:TGs} {n:Nat} (hc:X.calm=true) (h:PGs X es t)
  (hn:(assignEach es X.env).length=n:=by rfl) (hst:(assignEach es X.env).findIdx? (·.1)=none:=by rfl):PG X (.Tuple es k pos) (gTup X.K n t):=by
 intro pins s σ H v u Q I r hw
 obtain ⟨a,xs,e1,hq,hl,hw⟩:=hw
 subst e1
 cases r
 obtain ⟨its,rv,ht,hz⟩:=I.tuple hq
 refine assign_Tuple_tuple (I.ok.hd hc) ht (by simp [hn,← hl,rv.length]) hst fun h' hx=>?_
 have I1:Inv X pins σ H { s with heap:=h' }:=I.kept (t':=s.toks) fun b o e=>hx b o (Nat.ne_of_lt (Heap.lt_size e)) e
 exact h pins _ σ H xs _ Q I1 (by simpa using rv) hw
noncomputable def tAsg (te:TE) (g:TG):TS:=fun D σ H=>te σ H fun x H1=>g x σ H1 D.nx
theorem ps_set {i:Nat} {x:Str} {e:Expr} {te:TE} {pos':Pos} (hN:X.N.Nodup) (hi:X.N[i]?=some x) (hx:Loc X.env.scope x) (he:PE X e te) (hs:swapsWith e (some (.Name x pos')) pos.line X.env=pure false:=by rfl) (hf:X.fn x=true∨X.env.scope.names.lookup x=some .local:=by first|exact .inl rfl|exact .inr rfl|assumption) :
  PS X (.Assign [.Name x pos'] e pos) (tAsg te (gName i)):=by
 intro pins s σ H D I h
 refine wpAny_Assign_Name (thn (he pins s σ H _ I h) fun v s1 ⟨y,H1,I1,r1,q1⟩=>?_) hs
 exact store_ok I1 hN hi hx r1 (fun s2 I2=>⟨_,H1,I2,q1⟩) hf
noncomputable def tPar (i j:Nat) (ta:TA):TS:=fun D σ H=>ta σ H fun vs H1=>∃ v w,vs=[v,w]∧D.nx ((σ.set i (some v)).set j (some w)) H1
theorem ps_par {i j:Nat} {x y:Str} {a b:Expr} {ta:TA} {px py pt:Pos} {kt k2 pt2} (hc:X.calm=true) (hN:X.N.Nodup) (hi:X.N[i]?=some x) (hj:X.N[j]?=some y) (hij:i≠j)
  (hx:X.env.scope.names.lookup x=some .local) (hy:X.env.scope.names.lookup y=some .local) (ha:PA X [a,b] ta)
  (hw:swappedStores [.Tuple [.Name x px,.Name y py] kt pt] (.Tuple [a,b] k2 pt2) X.env=pure (some [x,y]))
  (hs:swapsWithSole [.Tuple [.Name x px,.Name y py] kt pt] (.Tuple [a,b] k2 pt2) pos.line X.env=pure false:=by rfl) :
  PS X (.Assign [.Tuple [.Name x px,.Name y py] kt pt] (.Tuple [a,b] k2 pt2) pos) (tPar i j ta):=by
 intro pins s σ H D I h
 rw [exec_Assign_arm]
 refine wpAny_bind (wpAny_standAt ?_)
 rw [hs]
 refine wpAny_bind (wpAny_pure ?_)
 rw [if_neg (by decide)]
 refine wpAny_bind (Tuple_ (thn (ha _ pins s σ H _ I h) fun us s1 ⟨vs,H1,I1,r1,q1⟩=>?_))
 obtain ⟨v,w,e1,q1⟩:=q1
 subst e1
 obtain ⟨u1,u2,rfl,rv,rw'⟩:∃ u1 u2,us=[u1,u2]∧RelV v u1∧RelV w u2:=by
  cases r1 with
  | cons p q =>
   cases q with
   | cons p' q' =>
    cases q'
    exact⟨_,_,rfl,p,p'⟩
 refine wpAny_newObj_type ?_ (by show 2≤sizeLine;decide)
 have I2:Inv X pins σ H1 { s1 with heap:=s1.heap.push { cls:=.type "tuple",data:=.seq [u1,u2].toArray } }:=I1.kept (t':=s1.toks) fun b o e=>Heap.get?_push_of_some _ e
 rw [hw]
 refine wpAny_bind (wpAny_pure ?_)
 show wpAny (model X.prog X.w) X.A (do rule "assign.swapped-stores"; let items ← unpackItems (.ref s1.heap.objs.size) 2 none;assignInOrder [fun v=>bindName X.env y v,fun v=>bindName X.env x v] items.reverse;pure Flow.next) _ _ _
 refine wpAny_bind (wpAny_rule (wpAny_bind (unpackItems_tuple (items:=#[u1,u2]) (I.ok.hd hc) (IsTup.new s1.heap _) fun h' hx'=>?_)))
 have I3:=I2.kept (h':=h') (t':=s1.toks) fun b o e=>hx' b o (Nat.ne_of_lt (Heap.lt_size e)) e
 show wpAny _ _ (assignInOrder [fun v=>bindName X.env y v,fun v=>bindName X.env x v] [u2,u1] >>= fun _=>pure Flow.next) _ _ _
 refine wpAny_bind (assignInOrder_cons (wpAny_bindName (store_ok I3 hN hj (.inl hy) rw' (fun s2 I4=>?_) (.inr hy))))
 refine assignInOrder_cons (wpAny_bindName (store_ok I4 hN hi (.inl hx) rv (fun s3 I5=>assignInOrder_nil (wpAny_pure ?_)) (.inr hx)))
 rw [List.set_comm _ _ (Ne.symm hij)] at I5
 exact⟨_,H1,I5,q1⟩
end
section
variable {X:Cx} {pos:Pos}
noncomputable def tWhile (c:TT) (tb:TS):TS:=fun D σ H=>∃ W:Nat→St→Hp→Prop,(∃ m,W m σ H)∧∀ m σ H,W m σ H →
 c σ H fun b H1=>if b=true then ∃ N:St→Hp→Prop,(∀ σ' H',N σ' H'→∃ m',m'<m∧W m' σ' H')∧tb { D with nx:=N,ct:=N,bk:=D.nx } σ H1 else D.nx σ H1
theorem ps_while {c:Expr} {body:List Stmt} {tc:TT} {tb:TS} (hp:PassesOwn (model X.prog X.w) X.A X.env X.xe) (hc:PT X c tc) (hb:PSs X body tb):PS X (.While c body [] pos) (tWhile tc tb):=by
 intro pins s σ H D I h
 obtain ⟨W,⟨m0,w0⟩,turn⟩:=h
 refine wpAny_While (codeAny_whileLoop (fun n s'=>∃ σ' H',Inv X pins σ' H' s'∧W n σ' H') ?_ m0 ⟨σ,H,I,w0⟩)
 rintro n s1 ⟨σ1,H1,I1,w1⟩
 refine wpAny_passesOwn hp (thn (hc pins s1 σ1 H1 _ I1 (turn n σ1 H1 w1)) fun b s2 ⟨H2,I2,q2⟩=>?_)
 cases b with
 | true =>
  obtain ⟨N,hN,q2⟩:=q2
  rw [if_pos rfl]
  refine wpAny_passesOwn hp (thn (hb pins s2 σ1 H2 _ I2 q2) fun f s3 q3=>?_)
  cases f with
  | next =>
   obtain ⟨σ3,H3,I3,n3⟩:=q3
   obtain ⟨m',hm,w3⟩:=hN σ3 H3 n3
   exact⟨m',hm,σ3,H3,I3,w3⟩
  | cont =>
   obtain ⟨σ3,H3,I3,n3⟩:=q3
   obtain ⟨m',hm,w3⟩:=hN σ3 H3 n3
   exact⟨m',hm,σ3,H3,I3,w3⟩
  | brk=>exact q3
  | ret v=>exact q3
 | false =>
  rw [if_neg Bool.false_ne_true]
  exact wpAny_execs_nil ⟨σ1,H2,I2,q2⟩
end
structure It where
 go:Nat→Hp→Prop
 yld:Nat→Hp→V→Hp→Prop
 stop:Nat→Hp→Prop
noncomputable def FpOk (X:Cx) (pins:List (Addr×Obj)) (H:Hp) (b:Addr):Prop :=
 H b=none∧b≠X.env.locals∧b∉X.fs∧(b∈X.ex∨X.s₀.heap.objs.size≤b)∧(∀ x c,X.env.cells.lookup x=some c→c≠b)∧∀ p∈X.pn++pins,p.1≠b
theorem Inv.fpOk {X:Cx} {pins:List (Addr×Obj)} {σ:St} {H H':Hp} {s:Shared} {b:Addr} (I:Inv X pins σ H s) (hb:s.heap.objs.size≤b) (hn:H' b=none):FpOk X pins H' b:=by
 refine⟨hn,Nat.ne_of_gt (Nat.lt_of_lt_of_le I.lt hb),I.nofs hb,.inr (Nat.le_trans I.sz hb),fun x c e z=>?_,fun p hp z=>?_⟩
 ·obtain ⟨v,q⟩:=I.cell x c e
  exact absurd (Nat.lt_of_lt_of_le q.lt (by rw [z];exact hb)) (Nat.lt_irrefl _)
 ·exact absurd (Nat.lt_of_lt_of_le (Heap.lt_size (I.pin p hp).1) (by rw [z];exact hb)) (Nat.lt_irrefl _)
structure Turn (P:Program) (w:World) (K:PySem.W.Frag) (tg:Expr) (J:It) (fp:List Addr) (it:Addr) (tn:Nat→Heap→Prop):Prop where
 mem:it∈fp
 obj:∀ i h,tn i h→∀ b∈fp,∃ o,h.get? b=some o∧∀ v,o.data≠.cell v
 keep:∀ i h h',tn i h→(∀ b∈fp,∀ o,h.get? b=some o→h'.get? b=some o)→tn i h'
 item:∀ (X:Cx),X.prog=P→X.w=w→X.K=K→X.calm=true→∀ (i:Nat) (pins:List (Addr×Obj)) (s:Shared) (σ:St) (H:Hp) (E:Value→Shared→Prop),Inv X pins σ H s→(∀ b∈fp,FpOk X pins H b)→tn i s.heap→J.go i H →
  wpAny (model P w) X.A (pyNext (.ref it)) (fun r s1=>∃ u,r=some u ∧
   wpAny (model P w) X.A (letOwnedTupleGo tg (.ref it) u) (fun _ s2=>∃ x H',Inv X pins σ H' s2∧RelV x u∧J.yld i H x H'∧tn (i+1) s2.heap∧∀ b∈fp,H' b=none) E s1) E s
 done:∀ (X:Cx),X.prog=P→X.w=w→X.K=K→X.calm=true→∀ (i:Nat) (pins:List (Addr×Obj)) (s:Shared) (σ:St) (H:Hp) (E:Value→Shared→Prop),Inv X pins σ H s→(∀ b∈fp,FpOk X pins H b)→tn i s.heap→J.stop i H →
  wpAny (model P w) X.A (pyNext (.ref it)) (fun r s1=>r=none∧Inv X pins σ H s1) E s
 self:∀ (A:Around) (i:Nat) (s:Shared) (Q:Value→Shared→Prop) (E:Value→Shared→Prop),tn i s.heap→Q (.ref it) s→wpAny (model P w) A (pyIter (.ref it)) Q E s
noncomputable abbrev TI:=St→Hp→(It→Hp→Prop)→Prop
noncomputable def PIE (X:Cx) (pins:List (Addr×Obj)) (σ:St) (tg:Expr) (R:It→Hp→Prop) (itv:Value) (s2:Shared):Prop :=
 ∃ (it:Addr) (fp:List Addr) (tn:Nat→Heap→Prop) (J:It) (H':Hp),itv=.ref it∧Inv X pins σ H' s2∧Turn X.prog X.w X.K tg J fp it tn∧tn 0 s2.heap∧(∀ b∈fp,FpOk X pins H' b)∧R J H'
noncomputable def PI (X:Cx) (tg iter:Expr) (wi:TI):Prop :=
 ∀ (pins:List (Addr×Obj)) (s:Shared) (σ:St) (H:Hp) (R:It→Hp→Prop),Inv X pins σ H s→wi σ H R →
  wpAny (model X.prog X.w) X.A (eval iter X.env) (fun v s1=>wpAny (model X.prog X.w) X.A (pyIter v) (PIE X pins σ tg R) X.xe s1) X.xe s
theorem go_of {M : Model} {A : Around} {E : Value → Shared → Prop} {s : Shared} {tg : Expr} {it : Addr} {u : Value} {o : Obj} {n : String} {vs : Array Value} {Q : Unit → Shared → Prop} (ho : s.heap.get? it=some o) (hc : o.cls=.type n) (hd : o.data=.fields vs)
    (hn : ["enumerate", "zip", "dict_itemiterator", "dict_reverseitemiterator", "odict_iterator", "itertools.zip_longest", "itertools.pairwise"].contains n=false) (hQ : Q () s) : wpAny M A (letOwnedTupleGo tg (.ref it) u) Q E s := by
  unfold letOwnedTupleGo
  cases tg <;> first
    | exact wpAny_pure hQ
    | (cases u <;> first
        | exact wpAny_pure hQ
        | (refine wpAny_bind (wpAny_load ho ?_)
           rw [hc, hd]
           show wpAny M A (if (["enumerate", "zip", "dict_itemiterator", "dict_reverseitemiterator", "odict_iterator", "itertools.zip_longest", "itertools.pairwise"].contains n && vs[0]? == some (rawInt _))=true then _ else _) Q E s
           rw [if_neg (by intro h;rw [hn, Bool.false_and] at h;cases h)]
           exact wpAny_pure hQ))
noncomputable def Itl (K:PySem.W.Frag) (a:Addr):It :=
 ⟨fun i H=>∃ xs x,SqL K H a xs∧xs[i]?=some x,fun i H x H'=>H'=H∧∀ xs,SqL K H a xs→xs[i]?=some x,fun i H=>∃ xs,SqL K H a xs∧xs.length≤i⟩
noncomputable def Itt (K:PySem.W.Frag) (a:Addr):It :=
 ⟨fun i H=>∃ xs x,SqT K H a xs∧xs[i]?=some x,fun i H x H'=>H'=H∧∀ xs,SqT K H a xs→xs[i]?=some x,fun i H=>∃ xs,SqT K H a xs∧xs.length≤i⟩
noncomputable def Itr (lo:Int) (n:Nat):It:=⟨fun i _=>i<n,fun i H x H'=>H'=H∧x=.int (lo+i),fun i _=>n≤i⟩
theorem turn_list {P:Program} {w:World} {K:PySem.W.Frag} {tg:Expr} (a it:Addr):Turn P w K tg (Itl K a) [it] it (fun i h=>h.IsListIter it a i) where
 mem:=by simp
 obj:=fun i h st b hb=>by
  have e:b=it:=by simpa using hb
  subst e
  obtain ⟨o,e,c,d⟩:=st
  exact⟨o,e,fun v z=>by rw [d] at z;cases z⟩
 keep:=fun i h h' st k=>st.at fun o e=>k it (by simp) o e
 item:=by
  intro X hP hw hK hc i pins s σ H E I hf st hg
  subst hP hw hK
  obtain ⟨xs,x,hq,hx⟩:=hg
  obtain ⟨its,rv,p,hz⟩:=I.list hq
  obtain ⟨u,hu,ru⟩:=rv.get hx
  obtain ⟨f0,f1,f2,f3,f4,f5⟩:=hf it (by simp)
  refine wpAny_pyNext_list_item st p.isList (x:=u) (by simpa using hu) fun h' st' sb=>?_
  have I1:Inv X pins σ H { s with heap:=h' }:=I.turned (t':=s.toks) (fun b o hb e=>(sb.2 b hb).trans e) f0 f1 f3 f4 f5
  obtain ⟨o,e,c,d⟩:=id st'
  exact⟨u,rfl,go_of (s:={ s with heap:=h' }) e c d (by decide) ⟨x,H,I1,ru,⟨rfl,fun ys hy=>by rw [I.list_inj hy hq];exact hx⟩,st',fun b hb=>(hf b hb).1⟩⟩
 done:=by
  intro X hP hw hK hc i pins s σ H E I hf st hg
  subst hP hw hK
  obtain ⟨xs,hq,hx⟩:=hg
  obtain ⟨its,rv,p,hz⟩:=I.list hq
  obtain ⟨f0,f1,f2,f3,f4,f5⟩:=hf it (by simp)
  have hl:=rv.length
  exact wpAny_pyNext_list_end (I.ok.hd hc) st p.isList (by simp;lia) fun h' eb=>⟨rfl,I.turned (t':=s.toks) (fun b o hb e=>eb b o hb e) f0 f1 f3 f4 f5⟩
 self:=fun _ _ _ _ _ st h=>wpAny_pyIter_listiter st h
theorem turn_tuple {P:Program} {w:World} {K:PySem.W.Frag} {tg:Expr} (a it:Addr):Turn P w K tg (Itt K a) [it] it (fun i h=>h.IsTupleIter it a i) where
 mem:=by simp
 obj:=fun i h st b hb=>by
  have e:b=it:=by simpa using hb
  subst e
  obtain ⟨o,e,c,d⟩:=st
  exact⟨o,e,fun v z=>by rw [d] at z;cases z⟩
 keep:=fun i h h' st k=>st.at fun o e=>k it (by simp) o e
 item:=by
  intro X hP hw hK hc i pins s σ H E I hf st hg
  subst hP hw hK
  obtain ⟨xs,x,hq,hx⟩:=hg
  obtain ⟨its,rv,p,hz⟩:=I.tuple hq
  obtain ⟨u,hu,ru⟩:=rv.get hx
  obtain ⟨f0,f1,f2,f3,f4,f5⟩:=hf it (by simp)
  refine wpAny_pyNext_tuple_item st (show s.heap.IsTuple a its.toArray from p) (x:=u) (by simpa using hu) fun h' st' sb=>?_
  have I1:Inv X pins σ H { s with heap:=h' }:=I.turned (t':=s.toks) (fun b o hb e=>(sb.2 b hb).trans e) f0 f1 f3 f4 f5
  obtain ⟨o,e,c,d⟩:=id st'
  exact⟨u,rfl,go_of (s:={ s with heap:=h' }) e c d (by decide) ⟨x,H,I1,ru,⟨rfl,fun ys hy=>by rw [I.tuple_inj hy hq];exact hx⟩,st',fun b hb=>(hf b hb).1⟩⟩
 done:=by
  intro X hP hw hK hc i pins s σ H E I hf st hg
  subst hP hw hK
  obtain ⟨xs,hq,hx⟩:=hg
  obtain ⟨its,rv,p,hz⟩:=I.tuple hq
  obtain ⟨f0,f1,f2,f3,f4,f5⟩:=hf it (by simp)
  have hl:=rv.length
  exact wpAny_pyNext_tuple_end (I.ok.hd hc) st (show s.heap.IsTuple a its.toArray from p) (by simp;lia) fun h' eb=>⟨rfl,I.turned (t':=s.toks) (fun b o hb e=>eb b o hb e) f0 f1 f3 f4 f5⟩
 self:=fun _ _ _ _ _ st h=>wpAny_pyIter_tupleiter st h
theorem turn_range {P:Program} {w:World} {K:PySem.W.Frag} {tg:Expr} (it:Addr) (lo:Int) (n:Nat):Turn P w K tg (Itr lo n) [it] it (fun i h=>IsRangeIter h it (lo+(i:Nat)*1) ((n:Int) - (i:Nat)) 1) where
 mem:=by simp
 obj:=fun i h st b hb=>by
  have e:b=it:=by simpa using hb
  subst e
  exact⟨_,st,fun v z=>by
   have z':Data.fields _=Data.cell v:=z
   cases z'⟩
 keep:=fun i h h' st k=>k it (by simp) _ st
 item:=by
  intro X hP hw hK hc i pins s σ H E I hf st hg
  subst hP hw hK
  obtain ⟨f0,f1,f2,f3,f4,f5⟩:=hf it (by simp)
  have W:=Walks.range (prog:=X.prog) (w:=X.w) (I.ok.hd hc) it lo 1 n
  refine W.item i s _ _ hg st fun v h' tk hv st' kk=>?_
  obtain ⟨t,rfl⟩:=hv
  have I1:Inv X pins σ H { s with heap:=h',toks:=tk }:=I.turned (fun b o hb e=>kk b o (by simpa using hb) e) f0 f1 f3 f4 f5
  refine⟨_,rfl,go_of (s:={ s with heap:=h',toks:=tk }) (n:="range_iterator") st' rfl rfl (by decide) ⟨.int (lo+i),H,I1,⟨t,?_⟩,⟨rfl,rfl⟩,st',fun b hb=>(hf b hb).1⟩⟩
  rw [Int.mul_one]
 done:=by
  intro X hP hw hK hc i pins s σ H E I hf st hg
  subst hP hw hK
  obtain ⟨f0,f1,f2,f3,f4,f5⟩:=hf it (by simp)
  exact wpAny_pyNext_range_end (I.ok.hd hc) st (by have:n≤i:=hg;lia) fun h' eb=>⟨rfl,I.turned (t':=s.toks) (fun b o hb e=>eb b o hb e) f0 f1 f3 f4 f5⟩
 self:=fun _ _ _ _ _ st h=>wpAny_pyIter_rangeiter st h
end L2
namespace L2
open PySem PySem.Spec PyProof.Rows
section
variable {X:Cx} {tg:Expr}
noncomputable def iList (K:PySem.W.Frag) (tl:TE):TI:=fun σ H R=>tl σ H fun x H1=>∃ a,x=.ref a∧(∃ xs,SqL K H1 a xs)∧R (Itl K a) H1
noncomputable def iTup (K:PySem.W.Frag) (tl:TE):TI:=fun σ H R=>tl σ H fun x H1=>∃ a,x=.ref a∧(∃ xs,SqT K H1 a xs)∧R (Itt K a) H1
theorem pi_list {l:Expr} {tl:TE} (hl:PE X l tl):PI X tg l (iList X.K tl):=by
 intro pins s σ H R I h
 refine thn (hl pins s σ H _ I h) fun v s1 ⟨x,H1,I1,r1,q1⟩=>?_
 obtain ⟨a,e,⟨xs,hq⟩,q⟩:=q1
 subst e
 cases r1
 obtain ⟨its,rv,p,hz⟩:=I1.list hq
 refine wpAny_pyIter_list p.isList ?_
 refine⟨s1.heap.objs.size,[s1.heap.objs.size],_,_,H1,rfl,I1.kept (t':=s1.toks) fun b o e=>Heap.get?_push_of_some _ e,turn_list a _,⟨_,Heap.get?_push_size _ rfl,rfl,rfl⟩,fun b hb=>?_,q⟩
 have e:b=s1.heap.objs.size:=by simpa using hb
 subst e
 exact I1.fpOk (Nat.le_refl _) (I1.hok.fresh (Nat.le_refl _))
theorem pi_tup {l:Expr} {tl:TE} (hl:PE X l tl):PI X tg l (iTup X.K tl):=by
 intro pins s σ H R I h
 refine thn (hl pins s σ H _ I h) fun v s1 ⟨x,H1,I1,r1,q1⟩=>?_
 obtain ⟨a,e,⟨xs,hq⟩,q⟩:=q1
 subst e
 cases r1
 obtain ⟨its,rv,p,hz⟩:=I1.tuple hq
 refine wpAny_pyIter_tuple (show s1.heap.IsTuple a its.toArray from p) ?_
 refine⟨s1.heap.objs.size,[s1.heap.objs.size],_,_,H1,rfl,I1.kept (t':=s1.toks) fun b o e=>Heap.get?_push_of_some _ e,turn_tuple a _,⟨_,Heap.get?_push_size _ rfl,rfl,rfl⟩,fun b hb=>?_,q⟩
 have e:b=s1.heap.objs.size:=by simpa using hb
 subst e
 exact I1.fpOk (Nat.le_refl _) (I1.hok.fresh (Nat.le_refl _))
theorem range_it {pins:List (Addr×Obj)} {σ:St} {H:Hp} {s:Shared} {R:It→Hp→Prop} {E:Value→Shared→Prop} {lo hi:Int} {t u v:Tok} {tk:Nat} (I:Inv X pins σ H s) (h1:-(2 ^ 62)≤lo) (h2:lo<2 ^ 62) (h3:-(2 ^ 62)≤hi) (h4:hi<2 ^ 62)
  (q:R (Itr lo (hi - lo).toNat) H):wpAny (model X.prog X.w) X.A (pyIter (.ref s.heap.objs.size)) (PIE X pins σ tg R) E { s with heap:=s.heap.push { cls:=.type "range",data:=.fields #[.int lo t,.int hi u,.int 1 v] },toks:=tk }:=by
 refine wpAny_pyIter_range (IsRange.new ..) (small_one h1 h2 h3 h4) ?_
 have I1:Inv X pins σ H { s with heap:=s.heap.push { cls:=.type "range",data:=.fields #[.int lo t,.int hi u,.int 1 v] },toks:=tk }:=I.kept fun b o e=>Heap.get?_push_of_some _ e
 refine⟨(s.heap.push { cls:=.type "range",data:=.fields #[.int lo t,.int hi u,.int 1 v] }).objs.size,[(s.heap.push { cls:=.type "range",data:=.fields #[.int lo t,.int hi u,.int 1 v] }).objs.size],_,_,H,rfl,
  I1.kept (t':=tk) fun b o e=>Heap.get?_push_of_some _ e,turn_range _ lo (hi - lo).toNat,?_,fun b hb=>?_,q⟩
 ·have e1:lo+((0:Nat):Int)*1=lo:=by simp
  have e2:(((hi - lo).toNat:Nat):Int) - ((0:Nat):Int)=Builtin.Range.rangeSize lo hi 1:=by rw [rangeSize_one];split <;> lia
  show IsRangeIter _ _ (lo+((0:Nat):Int)*1) ((((hi - lo).toNat:Nat):Int) - ((0:Nat):Int)) 1
  rw [e1,e2]
  exact Heap.get?_push_size _ rfl
 ·have e:b=(s.heap.push { cls:=.type "range",data:=.fields #[.int lo t,.int hi u,.int 1 v] }).objs.size:=by simpa using hb
  subst e
  exact I1.fpOk (Nat.le_refl _) (I1.hok.fresh (Nat.le_refl _))
noncomputable def iRng1 (ta:TA):TI:=fun σ H R=>ta σ H fun vs H1=>∃ j:Int,vs=[.int j]∧-(2 ^ 62)≤j∧j<2 ^ 62∧R (Itr 0 j.toNat) H1
theorem pi_range1 {a:Expr} {ta:TA} {p pos:Pos} (hg:Gl X "range") (hm:X.mg "range"=none) (ha:PA X [a] ta) (hs:starEach [a] X.env=[(false,eval a X.env)]:=by rfl):PI X tg (.Call (.Name "range" p) [a] [] pos) (iRng1 ta):=by
 intro pins s σ H R I h
 refine Call_ (ld_blt I hg hm boot_range (PyProof.Rows.callWith_type1 (thn (ha pos pins s σ H _ I h) fun us s1 ⟨vs,H1,I1,r1,q1⟩=>?_) hs rfl))
 obtain ⟨j,e,q1,q2,q⟩:=q1
 subst e
 cases r1 with
 | cons r rr =>
  cases rr
  obtain ⟨t,rfl⟩:=r
  exact call_range_1 (range_it I1 (by lia) (by lia) q1 q2 (by simpa using q))
noncomputable def tFor (wi:TI) (g:TG) (tb:TS):TS:=fun D σ H=>wi σ H fun J H1=>∃ W:Nat→Nat→St→Hp→Prop,(∃ m,W 0 m σ H1)∧∀ i m σ H,W i m σ H →
 (J.stop i H∧D.nx σ H)∨(J.go i H∧∃ N:St→Hp→Prop,(∀ σ' H',N σ' H'→∃ m',m'<m∧W (i+1) m' σ' H')∧∀ x H',J.yld i H x H'→g x σ H' fun σ2 H2=>tb { D with nx:=N,ct:=N,bk:=D.nx } σ2 H2)
noncomputable def pinsAt (fp:List Addr) (h:Heap):List (Addr×Obj):=fp.filterMap fun b=>(h.get? b).map fun o=>(b,o)
theorem mem_pinsAt {fp:List Addr} {h:Heap} {b:Addr} {o:Obj} (hb:b∈fp) (e:h.get? b=some o):(b,o)∈pinsAt fp h:=List.mem_filterMap.mpr ⟨b,hb,by rw [e];rfl⟩
theorem of_pinsAt {fp:List Addr} {h:Heap} {p:Addr×Obj} (hp:p∈pinsAt fp h):p.1∈fp∧h.get? p.1=some p.2:=by
 obtain ⟨b,hb,e⟩:=List.mem_filterMap.mp hp
 cases q:h.get? b with
 | none=>rw [q] at e;cases e
 | some o =>
  rw [q] at e
  have e':(b,o)=p:=Option.some.inj e
  subst e'
  exact⟨hb,q⟩
theorem Inv.pinned {pins:List (Addr×Obj)} {σ:St} {H:Hp} {s:Shared} {fp:List Addr} (I:Inv X pins σ H s) (hf:∀ b∈fp,FpOk X pins H b) (ho:∀ b∈fp,∃ o,s.heap.get? b=some o∧∀ v,o.data≠.cell v):Inv X (pins++pinsAt fp s.heap) σ H s :=
 I.pins_of fun p hp=>(List.mem_append.mp hp).elim (fun z=>I.pin p (List.mem_append_right _ z)) fun z=>by
  obtain ⟨hb,e⟩:=of_pinsAt z
  obtain ⟨f0,f1,f2,_⟩:=hf p.1 hb
  obtain ⟨o,e',d⟩:=ho p.1 hb
  rw [e] at e';cases e'
  exact⟨e,f0,f1,f2,d⟩
theorem Inv.unpinned {pins pl:List (Addr×Obj)} {σ:St} {H:Hp} {s:Shared} (I:Inv X (pins++pl) σ H s):Inv X pins σ H s:=I.pins_of fun p hp=>I.pin p (List.mem_append_right _ (List.mem_append_left _ hp))
theorem ps_for {iter:Expr} {body:List Stmt} {wi:TI} {g:TG} {tb:TS} {pos:Pos} (hp:PassesOwn (model X.prog X.w) X.A X.env X.xe) (hc:X.calm=true) (hi:PI X tg iter wi) (hg:PG X tg g) (hb:PSs X body tb)
  (hs:∀ x,foldedSetIterable iter X.env x=pure x:=by intro _;rfl):PS X (.For tg iter body [] pos) (tFor wi g tb):=by
 intro pins s σ H D I h
 refine wpAny_For (thn (hi pins s σ H _ I h) fun v s1 h1=>thn h1 fun itv s2 h2=>?_) hs
 obtain ⟨it,fp,tn,J,H2,e,I2,T,st2,f2,W,⟨m0,w0⟩,turn⟩:=h2
 subst e
 have stat:∀ {H':Hp},(∀ b∈fp,H' b=none)→∀ b∈fp,FpOk X pins H' b:=fun hn b hb=>⟨hn b hb,(f2 b hb).2⟩
 refine codeAny_forLoop_any (fun n s'=>∃ i σ' H',Inv X pins σ' H' s'∧tn i s'.heap∧(∀ b∈fp,H' b=none)∧W i n σ' H') ?_ m0 ⟨0,σ,H2,I2,st2,fun b hb=>(f2 b hb).1,w0⟩
 rintro n s3 ⟨i,σ3,H3,I3,st3,fr3,w3⟩
 rcases turn i n σ3 H3 w3 with ⟨stop,qn⟩|⟨go,N,hN,step⟩
 ·refine wpAny_passesOwn hp (thn (T.done X rfl rfl rfl hc i pins s3 σ3 H3 X.xe I3 (stat fr3) st3 stop) fun r s4 ⟨hr,I4⟩=>?_)
  subst hr
  exact wpAny_execs_nil ⟨σ3,H3,I4,qn⟩
 ·refine wpAny_passesOwn hp (thn (T.item X rfl rfl rfl hc i pins s3 σ3 H3 X.xe I3 (stat fr3) st3 go) fun r s4 ⟨u,hr,h4⟩=>?_)
  subst hr
  refine wpAny_passesOwn hp (thn h4 fun _ s5 ⟨x,H5,I5,r5,y5,st5,fr5⟩=>?_)
  have I5':=I5.pinned (stat fr5) (T.obj _ _ st5)
  refine wpAny_passesOwn hp (thn (hg _ s5 σ3 H5 x u _ I5' r5 (step x H5 y5)) fun _ s6 ⟨σ6,H6,I6,q6⟩=>?_)
  refine wpAny_passesOwn hp (thn (hb _ s6 σ6 H6 _ I6 q6) fun f s7 q7=>?_)
  have again:∀ {σ7:St} {H7:Hp},Inv X (pins++pinsAt fp s5.heap) σ7 H7 s7→N σ7 H7→∃ m,m<n∧∃ i σ' H',Inv X pins σ' H' s7∧tn i s7.heap∧(∀ b∈fp,H' b=none)∧W i m σ' H':=fun {σ7 H7} I7 n7=>by
   obtain ⟨m',hm,w7⟩:=hN σ7 H7 n7
   refine⟨m',hm,i+1,σ7,H7,I7.unpinned,T.keep _ _ _ st5 fun b hb o e=>(I7.pin (b,o) (List.mem_append_right _ (List.mem_append_right _ (mem_pinsAt hb e)))).1,fun b hb=>?_,w7⟩
   obtain ⟨o,e,d⟩:=T.obj _ _ st5 b hb
   exact (I7.pin (b,o) (List.mem_append_right _ (List.mem_append_right _ (mem_pinsAt hb e)))).2.1
  cases f with
  | next=>obtain ⟨σ7,H7,I7,n7⟩:=q7;exact again I7 n7
  | cont=>obtain ⟨σ7,H7,I7,n7⟩:=q7;exact again I7 n7
  | brk=>obtain ⟨σ7,H7,I7,q7⟩:=q7;exact⟨σ7,H7,I7.unpinned,q7⟩
  | ret v=>obtain ⟨x7,σ7,H7,I7,r7,q7⟩:=q7;exact⟨x7,σ7,H7,I7.unpinned,r7,q7⟩
end
theorem for_range {lo:Int} {n:Nat} {g:TG} {tb:TS} {D:Ends} {σ:St} {H:Hp} (Pv:Nat→St→Hp→Prop) (h0:Pv 0 σ H)
  (hs:∀ i σ H,i<n→Pv i σ H→g (.int (lo+i)) σ H fun σ2 H2=>tb { D with nx:=Pv (i+1),ct:=Pv (i+1),bk:=D.nx } σ2 H2) (hd:∀ σ H,Pv n σ H→D.nx σ H) :
  ∃ W:Nat→Nat→St→Hp→Prop,(∃ m,W 0 m σ H)∧∀ i m σ H,W i m σ H →
   ((Itr lo n).stop i H∧D.nx σ H)∨((Itr lo n).go i H∧∃ N:St→Hp→Prop,(∀ σ' H',N σ' H'→∃ m',m'<m∧W (i+1) m' σ' H')∧∀ x H',(Itr lo n).yld i H x H'→g x σ H' fun σ2 H2=>tb { D with nx:=N,ct:=N,bk:=D.nx } σ2 H2):=by
 refine⟨fun i m σ H=>m=n - i∧i≤n∧Pv i σ H,⟨n,by simp,Nat.zero_le _,h0⟩,?_⟩
 rintro i m σ H ⟨rfl,hi,p⟩
 by_cases hlt:i<n
 ·refine .inr ⟨hlt,Pv (i+1),fun σ' H' p'=>⟨n - (i+1),by lia,rfl,hlt,p'⟩,fun x H' y=>?_⟩
  obtain ⟨e,y⟩:=y
  subst e y
  exact hs i σ _ hlt p
 ·have e:i=n:=by lia
  subst e
  exact .inl ⟨Nat.le_refl _,hd σ H p⟩
end L2
namespace L2
open PySem PySem.Spec PyProof.Rows
noncomputable abbrev R2:=V→V→Hp→VK→Prop
noncomputable def OpR (X:Cx) (f:Value→Value→Sem Value) (r:R2):Prop :=
 ∀ (pins:List (Addr×Obj)) (s:Shared) (σ:St) (H:Hp) (x y:V) (v u:Value) (Q:VK),Inv X pins σ H s→RelV x v→RelV y u→r x y H Q →
  wpAny (model X.prog X.w) X.A (f v u) (EP X pins σ Q) X.xe s
noncomputable def UnR (X:Cx) (f:Value→Sem Value) (r:V→Hp→VK→Prop):Prop :=
 ∀ (pins:List (Addr×Obj)) (s:Shared) (σ:St) (H:Hp) (x:V) (v:Value) (Q:VK),Inv X pins σ H s→RelV x v→r x H Q →
  wpAny (model X.prog X.w) X.A (f v) (EP X pins σ Q) X.xe s
noncomputable def CallR (X:Cx) (f:Value) (r:List V→Hp→VK→Prop):Prop :=
 ∀ (pins:List (Addr×Obj)) (s:Shared) (σ:St) (H:Hp) (xs:List V) (us:List Value) (Q:VK),Inv X pins σ H s→Vals xs us→r xs H Q →
  wpAny (model X.prog X.w) X.A (call f us) (EP X pins σ Q) X.xe s
noncomputable def tOp (r:R2) (ta tb:TE):TE:=fun σ H Q=>ta σ H fun x H1=>tb σ H1 fun y H2=>r x y H2 Q
noncomputable def tUn (r:V→Hp→VK→Prop) (ta:TE):TE:=fun σ H Q=>ta σ H fun x H1=>r x H1 Q
noncomputable def rI (C:Int→Int→Prop) (g:Int→Int→V):R2:=fun x y H Q=>∃ i j,x=.int i∧y=.int j∧C i j∧Q (g i j) H
noncomputable def rI0 (g:Int→Int→V):R2:=fun x y H Q=>∃ i j,x=.int i∧y=.int j∧Q (g i j) H
noncomputable def rU (g:Int→V):V→Hp→VK→Prop:=fun x H Q=>∃ i,x=.int i∧Q (g i) H
section
variable {X:Cx} {a b c:Expr} {ta tb tc:TE} {pos:Pos}
theorem binT (ha:PE X a ta) (hb:PE X b tb) {pins:List (Addr×Obj)} {s:Shared} {σ:St} {H:Hp} {R:V→V→Hp→Prop} (I:Inv X pins σ H s)
  (h:ta σ H fun x H1=>tb σ H1 fun y H2=>R x y H2) {Q:Value→Shared→Prop} {f:Value→Value→Sem Value}
  (hf:∀ v u s2 x y H2,Inv X pins σ H2 s2→RelV x v→RelV y u→R x y H2→wpAny (model X.prog X.w) X.A (f v u) Q X.xe s2) :
  wpAny (model X.prog X.w) X.A (eval a X.env) (fun v s₁=>wpAny (model X.prog X.w) X.A (eval b X.env) (fun u s₂=>wpAny (model X.prog X.w) X.A (f v u) Q X.xe s₂) X.xe s₁) X.xe s:=by
 refine thn (ha pins s σ H _ I h) fun v s1 ⟨x,H1,I1,r1,q1⟩=>?_
 refine thn (hb pins s1 σ H1 _ I1 q1) fun u s2 ⟨y,H2,I2,r2,q2⟩=>?_
 exact hf v u s2 x y H2 I2 r1 r2 q2
theorem pe_op {op:Operator} {r:R2} (ho:OpR X (binaryOp op) r) (ha:PE X a ta) (hb:PE X b tb):PE X (.BinOp a op b pos) (tOp r ta tb):=by
 intro pins s σ H Q I h
 exact wpAny_BinOp (binT ha hb I h fun v u s2 x y H2 I2 rx ry q=>ho pins s2 σ H2 x y v u Q I2 rx ry q)
theorem pe_un {op:UnaryOp} {r:V→Hp→VK→Prop} (ho:UnR X (unaryOp op) r) (ha:PE X a ta):PE X (.UnaryOp op a pos) (tUn r ta):=by
 intro pins s σ H Q I h
 exact UnaryOp_ (thn (ha pins s σ H _ I h) fun v s1 ⟨x,H1,I1,r1,q1⟩=>ho pins s1 σ H1 x v Q I1 r1 q1)
theorem opI {f:Value→Value→Sem Value} {C:Int→Int→Prop} {g:Int→Int→Int}
  (rule:∀ (i j:Int) (t u:Tok) (s:Shared) (Q:Value→Shared→Prop) (E:Value→Shared→Prop),C i j→Q (.int (g i j) s.toks) { s with toks:=s.toks+1 }→wpAny (model X.prog X.w) X.A (f (.int i t) (.int j u)) Q E s) :
  OpR X f (rI C fun i j=>.int (g i j)):=by
 intro pins s σ H x y v u Q I rx ry h
 obtain ⟨i,j,rfl,rfl,hc,q⟩:=h
 obtain ⟨t,rfl⟩:=rx
 obtain ⟨t',rfl⟩:=ry
 exact rule i j t t' s _ _ hc ⟨.int (g i j),H,I.tok _,⟨_,rfl⟩,q⟩
theorem opI0 {f:Value→Value→Sem Value} {g:Int→Int→Int}
  (rule:∀ (i j:Int) (t u:Tok) (s:Shared) (Q:Value→Shared→Prop) (E:Value→Shared→Prop),Q (.int (g i j) s.toks) { s with toks:=s.toks+1 }→wpAny (model X.prog X.w) X.A (f (.int i t) (.int j u)) Q E s) :
  OpR X f (rI0 fun i j=>.int (g i j)):=by
 intro pins s σ H x y v u Q I rx ry h
 obtain ⟨i,j,rfl,rfl,q⟩:=h
 obtain ⟨t,rfl⟩:=rx
 obtain ⟨t',rfl⟩:=ry
 exact rule i j t t' s _ _ ⟨.int (g i j),H,I.tok _,⟨_,rfl⟩,q⟩
theorem opB0 {f:Value→Value→Sem Value} {g:Int→Int→Bool}
  (rule:∀ (i j:Int) (t u:Tok) (s:Shared) (Q:Value→Shared→Prop) (E:Value→Shared→Prop),Q (.bool (g i j)) s→wpAny (model X.prog X.w) X.A (f (.int i t) (.int j u)) Q E s) :
  OpR X f (rI0 fun i j=>.bl (g i j)):=by
 intro pins s σ H x y v u Q I rx ry h
 obtain ⟨i,j,rfl,rfl,q⟩:=h
 obtain ⟨t,rfl⟩:=rx
 obtain ⟨t',rfl⟩:=ry
 exact rule i j t t' s _ _ ⟨.bl (g i j),H,I,rfl,q⟩
noncomputable def CDiv (i j:Int):Prop:=0<j∧j<1073741824
noncomputable def CPow (i j:Int):Prop:=0≤j∧j≤1000000∧i.natAbs<2 ^ 64
noncomputable def CMul (i j:Int):Prop:=(-(2 ^ 64)<i∧i<2 ^ 64)∨(-(2 ^ 64)<j∧j<2 ^ 64)
theorem CMul.ok {i j:Int} (h:CMul i j):IntMulOk i j:=by
 rcases h with ⟨h1,h2⟩|⟨h1,h2⟩
 ·exact .of_left (intBits_le_64 h1 h2)
 ·exact .of_right (intBits_le_64 h1 h2)
theorem op_add:OpR X (binaryOp .Add) (rI0 fun i j=>.int (i+j)):=opI0 fun _ _ _ _ _ _ _ q=>add_int q
theorem op_sub:OpR X (binaryOp .Sub) (rI0 fun i j=>.int (i - j)):=opI0 fun _ _ _ _ _ _ _ q=>sub_int q
theorem op_mul:OpR X (binaryOp .Mult) (rI CMul fun i j=>.int (i*j)):=opI fun _ _ _ _ _ _ _ hc q=>mul_int q hc.ok
theorem op_fdiv:OpR X (binaryOp .FloorDiv) (rI CDiv fun i j=>.int (i / j)):=opI fun i j _ _ _ _ _ hc q=>by
 have h1:(0:Int)<j:=hc.1
 have h2:j<1073741824:=hc.2
 exact floordiv_int (by lia) (by rw [Int.fdiv_eq_ediv_of_nonneg i (by lia)];exact q) (.inl (PyProof.noPylong_small (by lia)))
theorem op_mod:OpR X (binaryOp .Mod) (rI (fun _ j=>0<j) fun i j=>.int (i % j)):=opI fun i j _ _ _ _ _ hc q=>by
 have h1:(0:Int)<j:=hc
 exact mod_int' (by lia) (by rw [Int.fmod_eq_emod_of_nonneg i (by lia)];exact q)
theorem op_pow:OpR X (binaryOp .Pow) (rI CPow fun i j=>.int (i ^ j.toNat)):=opI fun _ _ _ _ _ _ _ hc q=>pow_int_small hc.1 hc.2.1 hc.2.2 q
theorem unI {f:Value→Sem Value} {g:Int→Int}
  (rule:∀ (i:Int) (t:Tok) (s:Shared) (Q:Value→Shared→Prop) (E:Value→Shared→Prop),Q (.int (g i) s.toks) { s with toks:=s.toks+1 }→wpAny (model X.prog X.w) X.A (f (.int i t)) Q E s) :
  UnR X f (rU fun i=>.int (g i)):=by
 intro pins s σ H x v Q I rx h
 obtain ⟨i,rfl,q⟩:=h
 obtain ⟨t,rfl⟩:=rx
 exact rule i t s _ _ ⟨.int (g i),H,I.tok _,⟨_,rfl⟩,q⟩
theorem un_neg:UnR X (unaryOp .USub) (rU fun i=>.int (-i)):=unI fun _ _ _ _ _ q=>neg_int q
end
noncomputable def scal:V→V→Bool
 | .non,.non=>true|.non,.int _=>true|.int _,.non=>true|.non,.bl _=>true|.bl _,.non=>true|.non,.str _=>true|.str _,.non=>true
 | .int _,.int _=>true|.bl _,.bl _=>true|.str _,.str _=>true|.byt _,.byt _=>true
 | .int _,.str _=>true|.str _,.int _=>true|.bl _,.str _=>true|.str _,.bl _=>true
 | _,_=>false
noncomputable def rEq:R2:=fun x y H Q=>scal x y=true∧Q (.bl (decide (x=y))) H
noncomputable def rNe:R2:=fun x y H Q=>scal x y=true∧Q (.bl (!decide (x=y))) H
theorem dec_int {i j:Int}:decide (V.int i=V.int j)=(i == j):=by
 rw [Bool.eq_iff_iff]
 simp
theorem dec_bl {i j:Bool}:decide (V.bl i=V.bl j)=(i == j):=by
 rw [Bool.eq_iff_iff]
 simp
theorem dec_str {i j:Str}:decide (V.str i=V.str j)=(i == j):=by
 rw [Bool.eq_iff_iff]
 simp
theorem dec_byt {i j:Array UInt8}:decide (V.byt i=V.byt j)=(i.toList == j.toList):=by
 rw [Bool.eq_iff_iff]
 cases i
 cases j
 simp
section
variable {X:Cx} {a b c:Expr} {ta tb tc:TE} {pos:Pos}
theorem fin_bl {pins:List (Addr×Obj)} {σ:St} {H:Hp} {s:Shared} {Q:VK} {k k':Bool} (I:Inv X pins σ H s) (q:Q (.bl k) H) (e:k=k'):EP X pins σ Q (.bool k') s:=by
 subst e
 exact⟨.bl k,H,I,rfl,q⟩
theorem op_eq:OpR X (compareOp .Eq) rEq:=by
 intro pins s σ H x y v u Q I rx ry h
 obtain ⟨hs,q⟩:=h
 cases x with
 | non =>
  cases rx
  cases y with
  | non=>cases ry;exact PySem.EqNone.eq_none_none (fin_bl I q (by simp))
  | bl j=>cases ry;exact PySem.EqNone.eq_none_bool (fin_bl I q (by simp))
  | int j=>obtain ⟨t',rfl⟩:=ry;exact PySem.EqNone.eq_none_int (fin_bl I q (by simp))
  | str j=>obtain ⟨t',rfl⟩:=ry;exact PySem.EqNone.eq_none_str (fin_bl I q (by simp))
  | _=>exact absurd (show false=true from hs) Bool.false_ne_true
 | bl i =>
  cases rx
  cases y with
  | non=>cases ry;exact PySem.EqNone.eq_bool_none (fin_bl I q (by simp))
  | bl j=>cases ry;exact eq_bool (fin_bl I q dec_bl)
  | str j=>obtain ⟨t',rfl⟩:=ry;exact PySem.EqMixed.eq_bool_str (fin_bl I q (by simp))
  | _=>exact absurd (show false=true from hs) Bool.false_ne_true
 | int i =>
  obtain ⟨t,rfl⟩:=rx
  cases y with
  | non=>cases ry;exact PySem.EqNone.eq_int_none (fin_bl I q (by simp))
  | int j=>obtain ⟨t',rfl⟩:=ry;exact eq_int (fin_bl I q dec_int)
  | str j=>obtain ⟨t',rfl⟩:=ry;exact PySem.EqMixed.eq_int_str (fin_bl I q (by simp))
  | _=>exact absurd (show false=true from hs) Bool.false_ne_true
 | str i =>
  obtain ⟨t,rfl⟩:=rx
  cases y with
  | non=>cases ry;exact PySem.EqNone.eq_str_none (fin_bl I q (by simp))
  | bl j=>cases ry;exact PySem.EqMixed.eq_str_bool (fin_bl I q (by simp))
  | int j=>obtain ⟨t',rfl⟩:=ry;exact PySem.EqMixed.eq_str_int (fin_bl I q (by simp))
  | str j=>obtain ⟨t',rfl⟩:=ry;exact eq_str (fin_bl I q dec_str)
  | _=>exact absurd (show false=true from hs) Bool.false_ne_true
 | byt i =>
  obtain ⟨t,rfl⟩:=rx
  cases y with
  | byt j=>obtain ⟨t',rfl⟩:=ry;exact PySem.W.eq_bytes (fin_bl I q dec_byt)
  | _=>exact absurd (show false=true from hs) Bool.false_ne_true
 | _=>cases y <;> exact absurd (show false=true from hs) Bool.false_ne_true
theorem op_ne:OpR X (compareOp .NotEq) rNe:=by
 intro pins s σ H x y v u Q I rx ry h
 obtain ⟨hs,q⟩:=h
 cases x with
 | non =>
  cases rx
  cases y with
  | non=>cases ry;exact PySem.EqNone.ne_none_none (fin_bl I q (by simp))
  | bl j=>cases ry;exact PySem.EqNone.ne_none_bool (fin_bl I q (by simp))
  | int j=>obtain ⟨t',rfl⟩:=ry;exact PySem.EqNone.ne_none_int (fin_bl I q (by simp))
  | str j=>obtain ⟨t',rfl⟩:=ry;exact PySem.EqNone.ne_none_str (fin_bl I q (by simp))
  | _=>exact absurd (show false=true from hs) Bool.false_ne_true
 | bl i =>
  cases rx
  cases y with
  | non=>cases ry;exact PySem.EqNone.ne_bool_none (fin_bl I q (by simp))
  | bl j=>cases ry;exact ne_bool (fin_bl I q (congrArg not dec_bl))
  | str j=>obtain ⟨t',rfl⟩:=ry;exact PySem.EqMixed.ne_bool_str (fin_bl I q (by simp))
  | _=>exact absurd (show false=true from hs) Bool.false_ne_true
 | int i =>
  obtain ⟨t,rfl⟩:=rx
  cases y with
  | non=>cases ry;exact PySem.EqNone.ne_int_none (fin_bl I q (by simp))
  | int j=>obtain ⟨t',rfl⟩:=ry;exact ne_int (fin_bl I q (congrArg not dec_int))
  | str j=>obtain ⟨t',rfl⟩:=ry;exact PySem.EqMixed.ne_int_str (fin_bl I q (by simp))
  | _=>exact absurd (show false=true from hs) Bool.false_ne_true
 | str i =>
  obtain ⟨t,rfl⟩:=rx
  cases y with
  | non=>cases ry;exact PySem.EqNone.ne_str_none (fin_bl I q (by simp))
  | bl j=>cases ry;exact PySem.EqMixed.ne_str_bool (fin_bl I q (by simp))
  | int j=>obtain ⟨t',rfl⟩:=ry;exact PySem.EqMixed.ne_str_int (fin_bl I q (by simp))
  | str j=>obtain ⟨t',rfl⟩:=ry;exact ne_str (fin_bl I q (congrArg not dec_str))
  | _=>exact absurd (show false=true from hs) Bool.false_ne_true
 | byt i =>
  obtain ⟨t,rfl⟩:=rx
  cases y with
  | byt j=>obtain ⟨t',rfl⟩:=ry;exact PySem.W.ne_bytes (fin_bl I q (congrArg not dec_byt))
  | _=>exact absurd (show false=true from hs) Bool.false_ne_true
 | _=>cases y <;> exact absurd (show false=true from hs) Bool.false_ne_true
theorem op_lt:OpR X (compareOp .Lt) (rI0 fun i j=>.bl (decide (i<j))):=opB0 fun _ _ _ _ _ _ _ q=>lt_int q
theorem op_le:OpR X (compareOp .LtE) (rI0 fun i j=>.bl (decide (i≤j))):=opB0 fun _ _ _ _ _ _ _ q=>le_int q
theorem op_gt:OpR X (compareOp .Gt) (rI0 fun i j=>.bl (decide (j<i))):=opB0 fun _ _ _ _ _ _ _ q=>gt_int q
theorem op_isN:OpR X (compareOp .Is) (fun x y H Q=>y=.non∧Q (.bl (decide (x=.non))) H):=by
 intro pins s σ H x y v u Q I rx ry h
 obtain ⟨rfl,q⟩:=h
 cases ry
 refine is_none_gen (fin_bl I q ?_)
 cases x <;> first
  | (cases rx;rfl)
  | (obtain ⟨t,rfl⟩:=rx;rfl)
theorem op_notN:OpR X (compareOp .IsNot) (fun x y H Q=>y=.non∧Q (.bl (!decide (x=.non))) H):=by
 intro pins s σ H x y v u Q I rx ry h
 obtain ⟨rfl,q⟩:=h
 cases ry
 refine isnot_none_gen (fin_bl I q ?_)
 cases x <;> first
  | (cases rx;rfl)
  | (obtain ⟨t,rfl⟩:=rx;rfl)
theorem nomark (b:Expr) {op:CmpOp} (h:op≠.In:=by decide) (h2:op≠.NotIn:=by decide):behindInMarks op b=false:=by
 have e1:(op == CmpOp.In)=false:=by cases op <;> first|rfl|exact absurd rfl h
 have e2:(op == CmpOp.NotIn)=false:=by cases op <;> first|rfl|exact absurd rfl h2
 cases b <;> simp [behindInMarks,e1,e2]
theorem pe_cmpR {op:CmpOp} {r:R2} (ho:OpR X (compareOp op) r) (ha:PE X a ta) (hb:PE X b tb) (hm:behindInMarks op b=false):PE X (.Compare a [op] [b] pos) (tOp r ta tb):=by
 intro pins s σ H Q I h
 exact wpAny_Compare1 (binT ha hb I h fun v u s2 x y H2 I2 rx ry q=>ho pins s2 σ H2 x y v u Q I2 rx ry q) hm
noncomputable def tTest (t:TE):TT:=fun σ H Q=>t σ H fun x H'=>∃ k,x=.bl k∧Q k H'
theorem pt_cmpR {op:CmpOp} {r:R2} (ho:OpR X (compareOp op) r) (ha:PE X a ta) (hb:PE X b tb) (hm:behindInMarks op b=false):PT X (.Compare a [op] [b] pos) (tTest (tOp r ta tb)):=by
 intro pins s σ H Q I h
 refine wpAny_isTrue_Compare1 (thn (ha pins s σ H _ I h) fun v s1 ⟨x,H1,I1,r1,q1⟩=>thn (hb pins s1 σ H1 _ I1 q1) fun u s2 ⟨y,H2,I2,r2,q2⟩ =>
  thn (ho pins s2 σ H2 x y v u _ I2 r1 r2 q2) fun c s3 ⟨z,H3,I3,r3,k,e,q3⟩=>?_) hm
 subst e
 cases r3
 exact wpAny_truthy_bool ⟨H3,I3,q3⟩
theorem line63:(sizeLine:Nat)<2 ^ 63:=by rw [sizeLine_eq];decide
theorem op_add_str:OpR X (binaryOp .Add) (fun x y H Q=>∃ i j,x=.str i∧y=.str j∧i.length+j.length≤sizeLine∧Q (.str (i++j)) H):=by
 intro pins s σ H x y v u Q I rx ry h
 obtain ⟨i,j,rfl,rfl,hz,q⟩:=h
 obtain ⟨t,rfl⟩:=rx
 obtain ⟨t',rfl⟩:=ry
 exact add_str (fun t' tk=>⟨.str (i++j),H,I.tok _,⟨_,rfl⟩,q⟩) hz
theorem vals1 {x:V} {us:List Value} (r:Vals [x] us):∃ u,us=[u]∧RelV x u:=by
 cases r with
 | cons r1 r2=>cases r2;exact⟨_,rfl,r1⟩
theorem vals2 {x y:V} {us:List Value} (r:Vals [x,y] us):∃ u w',us=[u,w']∧RelV x u∧RelV y w':=by
 cases r with
 | cons r1 r2 =>
  cases r2 with
  | cons r3 r4=>cases r4;exact⟨_,_,rfl,r1,r3⟩
theorem call_abs:CallR X (.builtin "abs") (fun xs H Q=>∃ i,xs=[.int i]∧Q (.int (if i<0 then -i else i)) H):=by
 intro pins s σ H xs us Q I r h
 obtain ⟨i,rfl,q⟩:=h
 obtain ⟨u,rfl,t,rfl⟩:=vals1 r
 exact call_abs_int fun u tk=>⟨.int (if i<0 then -i else i),H,I.tok _,⟨_,rfl⟩,q⟩
theorem call_str_int:CallR X (.type "str") (fun xs H Q=>∃ i,xs=[.int i]∧i.natAbs.log2<1920∧Q (.str (toString i)) H):=by
 intro pins s σ H xs us Q I r h
 obtain ⟨i,rfl,hz,q⟩:=h
 obtain ⟨u,rfl,t,rfl⟩:=vals1 r
 exact PySem.P.str_of_int hz ⟨.str _,H,I.tok _,⟨_,rfl⟩,q⟩
end
end L2
namespace L2
open PySem PySem.Spec PyProof.Rows
structure ObjM (h:Heap) (x dx C:Addr) (mA:Str→Option Value):Prop where
 obj:h.get? x=some (PySem.W.instObj C dx)
 ns:h.Ns1 dx mA
 ne:dx≠x
theorem lookIn_ns {h:Heap} {dx:Addr} {mA:Str→Option Value} (n:h.Ns1 dx mA):∃ od,h.get? dx=some od∧∀ name,PySem.W.lookIn name od=some (mA name):=by
 obtain ⟨o,es,ep,ho,hd,hk,_,hm⟩:=n
 refine⟨o,ho,fun name=>?_⟩
 have e:=hm name
 unfold nsFind findBy at e
 rw [← Array.find?_toList] at e
 unfold PySem.W.lookIn
 rw [hd]
 dsimp only
 split
 ·rename_i y q
  rw [q] at e
  exact congrArg some e
 ·rename_i q
  rw [q] at e
  have a:es.toList.any (·.refKey)=false:=by
   rw [List.any_eq_false]
   intro y hy
   obtain ⟨z,t,hkey⟩:=hk y (Array.mem_toList_iff.mp hy)
   simp [DictEntry.refKey,hkey]
  have a':¬ es.toList.any (·.refKey)=true:=by rw [a];exact Bool.false_ne_true
  rw [if_neg a']
  exact congrArg some e
theorem ObjM.look {h:Heap} {x dx C:Addr} {mA:Str→Option Value} (I:ObjM h x dx C mA):∃ od,PySem.W.InstAt h x (PySem.W.instObj C dx) C (some od)∧∀ name,PySem.W.lookIn name od=some (mA name) :=
 let ⟨od,ho,hl⟩:=lookIn_ns I.ns
 ⟨od,⟨I.obj,rfl,rfl,ho⟩,hl⟩
section
variable {P:Program} {w:World} {H H':Hp} {h h':Heap} {a C dx:Addr} {fs fs':List (Str×V)}
theorem ins_get (hok:HOk P w H h) (e:H a=some (.ins C dx fs)):∃ mA,ObjM h a dx C mA∧(∀ f,RelO (fs.lookup f) (mA f))∧PySem.Within mA (fs.map (·.1))∧fs.length≤1000∧H dx=some (.own a):=by
 obtain ⟨d,z,ne,ob,mA,n,r,q⟩:=(show ObjOk P w H h a (.ins C dx fs) from hok a _ e)
 exact⟨mA,⟨ob,n,ne⟩,r,q,z,d⟩
end
structure Cls (K:PySem.W.Frag) (C:Addr):Prop where
 pg:PySem.W.plainGet K C Str.empty=true
 hd:PySem.W.hasDictIn K C=true
 po:PySem.W.plainOver K C=true
 sa:PySem.W.findIn K (.ref C) "__setattr__"=some (some (.builtin "object.__setattr__"))
theorem Cls.get {K:PySem.W.Frag} {C:Addr} (c:Cls K C) (f:Str):PySem.W.plainGet K C f=true:=c.pg
section
variable {X:Cx} {pins:List (Addr×Obj)} {σ:St} {H:Hp} {s:Shared} {A:Around} {E:Value→Shared→Prop} {Q:Value→Shared→Prop} {c:Value} {b:Bool}
inductive TyOf (K:PySem.W.Frag) (H:Hp):V→Value→Prop where
 | non:TyOf K H .non (.type "NoneType")
 | bl (x:Bool):TyOf K H (.bl x) (.type "bool")
 | int (i:Int):TyOf K H (.int i) (.type "int")
 | str (x:Str):TyOf K H (.str x) (.type "str")
 | flt (x:UInt64):TyOf K H (.flt x) (.type "float")
 | lst {a:Addr} {xs:List V} (e:H a=some (.lst xs)):TyOf K H (.ref a) (.type "list")
 | frz {a:Addr} {o:Obj} {xs:List V} (e:H a=some (.frz o (.lst xs))):TyOf K H (.ref a) (.type "list")
 | tup {a:Addr} {xs:List V} (e:H a=some (.tup xs)):TyOf K H (.ref a) (.type "tuple")
 | dK {a:Addr} {kvs:List (Key×V)} (e:H a=some (.dK kvs)):TyOf K H (.ref a) (.type "dict")
 | dT {a:Addr} {kvs:List (List Key×V)} (e:H a=some (.dT kvs)):TyOf K H (.ref a) (.type "dict")
 | ins {a C dx:Addr} {fs:List (Str×V)} (e:H a=some (.ins C dx fs)) (cl:Cls K C) (ha:PySem.W.findIn K (.ref C) "__class__"=some (some (.builtin "object.__class__")))
   (hn:PySem.W.specialIn K (.builtin "object.__class__") "__get__"=some (some (.builtin "getset_descriptor.__get__"))) (htk:PySem.W.takesIn K (.builtin "object.__class__")=some true)
   (hm:PySem.W.mroIn K C (.type "object")=some true):TyOf K H (.ref a) (.ref C)
theorem isinst_ok {x:V} {u t:Value} (I:Inv X pins σ H s) (rx:RelV x u) (ty:TyOf X.K H x t) (e:PySem.W.kitOne X.K t c=some b) (h:∀ tk,Q (.bool b) { s with toks:=tk }) :
  wpAny (model X.prog X.w) A (call (.builtin "isinstance") [u,c]) Q E s:=by
 cases ty with
 | non=>cases (show u=Value.none from rx);exact PySem.W.kia_one PySem.W.kitx_none I.kIn True.intro e (fun z=>nomatch z) h
 | bl y=>cases (show u=Value.bool y from rx);exact PySem.W.kia_one PySem.W.kitx_bool I.kIn True.intro e (fun z=>nomatch z) h
 | int i=>obtain ⟨t,q⟩:=(show ∃ t,u=Value.int i t from rx);cases q;exact PySem.W.kia_one PySem.W.kitx_int I.kIn True.intro e (fun z=>nomatch z) h
 | str y=>obtain ⟨t,q⟩:=(show ∃ t,u=Value.str y t from rx);cases q;exact PySem.W.kia_one PySem.W.kitx_str I.kIn True.intro e (fun z=>nomatch z) h
 | flt y=>obtain ⟨t,q⟩:=(show ∃ t,u=Value.float y t from rx);cases q;exact PySem.W.kia_one PySem.W.kitx_float I.kIn True.intro e (fun z=>nomatch z) h
 | @lst a xs ea =>
  cases (show u=Value.ref a from rx)
  obtain ⟨_,_,n,_,h1⟩:=(show ObjOk X.prog X.w H s.heap a (.lst xs) from I.hok a _ ea)
  exact PySem.W.kia_one PySem.W.kitx_list I.kIn ⟨_,h1,rfl⟩ e (fun z=>nomatch z) h
 | @frz a ob xs ea =>
  cases (show u=Value.ref a from rx)
  obtain ⟨_,_,_,n,_,h1⟩:=(show ObjOk X.prog X.w H s.heap a (.frz ob (.lst xs)) from I.hok a _ ea)
  exact PySem.W.kia_one PySem.W.kitx_list I.kIn ⟨_,h1,rfl⟩ e (fun z=>nomatch z) h
 | @tup a xs ea =>
  cases (show u=Value.ref a from rx)
  obtain ⟨_,_,_,p⟩:=(show ObjOk X.prog X.w H s.heap a (.tup xs) from I.hok a _ ea)
  obtain ⟨o,h1,h2,_⟩:=p
  exact PySem.W.kia_one PySem.W.kitx_tuple I.kIn ⟨o,h1,h2⟩ e (fun z=>nomatch z) h
 | @dK a kvs ea =>
  cases (show u=Value.ref a from rx)
  obtain ⟨_,_,vs,_,p⟩:=(show ObjOk X.prog X.w H s.heap a (.dK kvs) from I.hok a _ ea)
  obtain ⟨o,es,ep,h1,h2,_⟩:=p
  exact PySem.W.kia_one PySem.W.kitx_dict I.kIn ⟨o,h1,h2.1⟩ e (fun z=>nomatch z) h
 | @dT a kvs ea =>
  cases (show u=Value.ref a from rx)
  obtain ⟨_,_,xs,_,o,es,ep,h1,h2,_⟩:=(show ObjOk X.prog X.w H s.heap a (.dT kvs) from I.hok a _ ea)
  exact PySem.W.kia_one PySem.W.kitx_dict I.kIn ⟨o,h1,h2.1⟩ e (fun z=>nomatch z) h
 | @ins a C dx fs ea cl ha hn htk hm =>
  cases (show u=Value.ref a from rx)
  obtain ⟨mA,O,_⟩:=ins_get I.hok ea
  obtain ⟨od,J,_⟩:=O.look
  exact PySem.W.kia_one (PySem.W.kitx_own (cl.get _) cl.hd ha hn htk hm) I.kIn J e (fun z=>nomatch z) h
end
end L2
namespace L2
open PySem PySem.Spec PyProof.Rows
structure Room (k:Nat) (A:Around):Prop where
 hd:A.handled=none
 dp:A.depth+3*k+5<recursionLimit
 un:A.units+16*k+200<cLine
theorem Room.mono {j k:Nat} {A:Around} (r:Room k A) (h:j≤k):Room j A:=⟨r.hd,by have:=r.dp;lia,by have:=r.un;lia⟩
theorem Room.deeper {k:Nat} {A:Around} (r:Room (k+1) A) (env:Env):Room k (A.deeper env) :=
 ⟨r.hd,by have:=r.dp;show A.depth+1+3*k+5<_;lia,by have:=r.un;show A.units+3+16*k+200<_;lia⟩
theorem Room.depth {k:Nat} {A:Around} (r:Room k A):A.depth<recursionLimit:=by have:=r.dp;lia
theorem Room.units {k:Nat} {A:Around} (r:Room k A):A.units+64<cLine:=by have:=r.un;lia
noncomputable def tNil:TA:=fun _ H Q=>Q [] H
noncomputable def tCons (ta:TE) (tr:TA):TA:=fun σ H Q=>ta σ H fun x H1=>tr σ H1 fun xs H2=>Q (x::xs) H2
section
variable {X:Cx} {e:Expr} {es:List Expr} {te:TE} {t:TA} {pos:Pos}
theorem pa_nil:PA X [] tNil:=fun _ _ _ _ H Q I h=>Calls.spliced_nil ⟨[],H,I,.nil,h⟩
theorem pa_cons (ha:PE X e te) (hr:PA X es t) (hs:starEach (e::es) X.env=(false,eval e X.env)::starEach es X.env:=by rfl):PA X (e::es) (tCons te t):=by
 intro pos pins s σ H Q I h
 rw [hs]
 show wpAny _ _ (spliced ((false,eval e X.env)::backTo pos (starEach es X.env))) _ _ s
 refine Calls.spliced_cons (thn (ha pins s σ H _ I h) fun u s1 ⟨x,H1,I1,r1,q1⟩=>?_)
 exact thn (hr pos pins s1 σ H1 _ I1 q1) fun us s2 ⟨xs,H2,I2,r2,q2⟩=>⟨x::xs,H2,I2,.cons r1 r2,q2⟩
noncomputable def tTup (t:TA):TE:=fun σ H Q=>t σ H fun xs H1=>xs.length≤sizeLine∧∀ p,H1 p=none→Q (.ref p) (upd H1 p (.tup xs))
noncomputable def tLst (t:TA):TE:=fun σ H Q=>t σ H fun xs H1=>xs.length≤sizeLine∧∀ p,H1 p=none→Q (.ref p) (upd H1 p (.lst xs))
theorem pe_tup {x1} (h:PA X es t):PE X (.Tuple es x1 pos) (tTup t):=by
 intro pins s σ H Q I hq
 refine wpAny_Tuple_spliced (thn (h pos pins s σ H _ I hq) fun us s1 ⟨xs,H1,I1,r,z,q⟩=>⟨by rw [← r.length];exact z,?_⟩)
 have hf:H1 s1.heap.objs.size=none:=I1.hok.fresh (Nat.le_refl _)
 refine⟨.ref s1.heap.objs.size,upd H1 s1.heap.objs.size (.tup xs),I1.laid (t':=s1.toks) (fun b u e=>Heap.get?_push_of_some _ e) (Nat.le_refl _) ?_,rfl,q _ hf⟩
 exact⟨z,us,r,⟨_,Heap.get?_push_size _ rfl,rfl,_,rfl⟩⟩
theorem pe_lst (h:PA X es t):PE X (.List es pos) (tLst t):=by
 intro pins s σ H Q I hq
 refine wpAny_List_spliced (thn (h pos pins s σ H _ I hq) fun us s1 ⟨xs,H1,I1,r,z,q⟩=>⟨by rw [← r.length];exact z,?_⟩)
 have hf:H1 s1.heap.objs.size=none:=I1.hok.fresh (Nat.le_refl _)
 refine⟨.ref s1.heap.objs.size,upd H1 s1.heap.objs.size (.lst xs),I1.laid (t':=s1.toks) (fun b u e=>Heap.get?_push_of_some _ e) (Nat.le_refl _) ?_,rfl,q _ hf⟩
 exact⟨z,us,0,r,Heap.get?_push_size _ rfl⟩
end
noncomputable abbrev Sp:=List V→Hp→VK→XK→Prop
noncomputable abbrev CXT:=List Env→Hp→Shared→XK→Value→Shared→Prop
structure Env0 (P:Program) (w:World) (K:PySem.W.Frag) (mg:Str→Option Value) (base:Heap) (A:Around) (outer:List Env) (s:Shared) (H:Hp):Prop where
 frames:A.frames=some outer
 mod:Mod K mg base
 bs:∀ b o,base.get? b=some o→s.heap.get? b=some o∧H b=none
 bsz:base.objs.size≤s.heap.objs.size
 funs:s.heap.FunFrames base outer
 frf:∀ b∈frs outer,H b=none
 hok:HOk P w H s.heap
 bare:AllBare s.gens
noncomputable def CE (outer:List Env) (P:Program) (w:World) (H:Hp) (s:Shared) (Q:VK) (u:Value) (s':Shared):Prop :=
 ∃ v H',s'.os=s.os∧AllBare s'.gens∧Un (frs outer) [] H H' s.heap s'.heap∧HOk P w H' s'.heap∧RelV v u∧Q v H'
noncomputable def CR (CX:CXT) (outer:List Env) (P:Program) (w:World) (H:Hp) (s:Shared) (Q:VK) (E:XK) (r:Result) (s':Shared):Prop :=
 match r with
 | .ok (.ret u)=>CE outer P w H s Q u s'
 | .ok _=>False
 | .error e=>CX outer H s E e s'
structure FnOk (P:Program) (w:World) (K:PySem.W.Frag) (mg:Str→Option Value) (base:Heap) (CX:CXT) (k:Nat) (f:Addr) (fd:FuncData) (ps:List Str) (sp:Sp):Prop where
 len:∀ vs H Q E,sp vs H Q E→vs.length=ps.length
 run:∀ (A:Around) (outer:List Env) (s:Shared) (H:Hp) (args:Args) (us:List Value) (vs:List V) (Q:VK) (E:XK),Room k A→Env0 P w K mg base A outer s H→BindsTo s fd args (ps.zip us)→Vals vs us→sp vs H Q E →
  codeAny (model P w) A (.call (.ref f) args) (CR CX outer P w H s Q E) s
section
variable {X:Cx} {pins:List (Addr×Obj)} {σ:St} {H:Hp} {s s':Shared}
theorem Inv.env0 (I:Inv X pins σ H s):Env0 X.prog X.w X.K X.mg X.base X.A X.stack s H :=
 ⟨I.ok.frames,I.ok.mod,I.bs,Nat.le_trans I.ok.bsz I.sz,I.stack,I.stkFree,I.hok,I.bare⟩
theorem Inv.after {Q:VK} {u:Value} (I:Inv X pins σ H s) (h:CE X.stack X.prog X.w H s Q u s'):EP X pins σ Q u s':=by
 obtain ⟨v,H',os,bare,un,hok,r,q⟩:=h
 obtain ⟨hh,g,d,t,os'⟩:=s'
 obtain rfl:os'=s.os:=os
 exact⟨v,H',I.call (h':=hh) (g':=g) (d':=d) (t':=t) (ch:=[]) un hok bare (fun b z=>absurd z (by simp)),r,q⟩
end
noncomputable def tCall (sp:Sp) (dvs:List V) (E:XK) (t:TA):TE:=fun σ H Q=>t σ H fun vs H1=>sp (vs++dvs) H1 Q E
noncomputable def Binds (K:PySem.W.Frag) (fd:FuncData) (ps:List Str) (ds:List Value):Prop :=
 ∀ (s:Shared) (us:List Value),K.In s.heap→(us++ds).length=ps.length→BindsTo s fd ⟨us,[]⟩ (ps.zip (us++ds))
theorem Binds.all {K:PySem.W.Frag} {fd:FuncData} {ps:List Str} (h:∀ us:List Value,us.length=ps.length→bindArgs fd ⟨us,[]⟩=pure (ps.zip us)):Binds K fd ps []:=fun s us _ hl=>by
 rw [List.append_nil] at hl ⊢
 exact .of_eq (h us hl)
noncomputable def Passes (CX:CXT) (X:Cx) (E:XK):Prop:=∀ (pins:List (Addr×Obj)) (σ:St) (H:Hp) (s:Shared) (e:Value) (s':Shared),Inv X pins σ H s→CX X.stack H s E e s'→X.xe e s'
section
variable {X:Cx} {CX:CXT} {k:Nat} {f C:Addr} {fd:FuncData} {ps:List Str} {sp:Sp} {dvs:List V} {ds:List Value} {E:XK} {x m:Str} {p pos apos:Pos} {e o:Expr} {es:List Expr} {ta:TE} {t:TA}
theorem run_fn {pins:List (Addr×Obj)} {σ:St} {H:Hp} {s:Shared} {Q:VK} {us:List Value} {vs:List V} (F:FnOk X.prog X.w X.K X.mg X.base CX k f fd ps sp) (hr:Room k X.A) (hb:Binds X.K fd ps ds) (hd:Vals dvs ds) (hx:Passes CX X E)
  (I:Inv X pins σ H s) (r:Vals vs us) (h:sp (vs++dvs) H Q E):wpAny (model X.prog X.w) X.A (call (.ref f) us) (EP X pins σ Q) X.xe s:=by
 have r2:Vals (vs++dvs) (us++ds):=r.append hd
 have hl:(us++ds).length=ps.length:=by rw [← r2.length];exact F.len _ _ _ _ h
 refine wpAny_call (codeAny_mono (F.run X.A X.stack s H ⟨us,[]⟩ (us++ds) (vs++dvs) Q E hr I.env0 (hb s us I.kIn hl) r2 h) fun r s' hq=>?_)
 cases r with
 | error e=>exact hx pins σ H s e s' I hq
 | ok fl =>
  cases fl with
  | ret u=>exact I.after hq
  | next=>exact False.elim hq
  | brk=>exact False.elim hq
  | cont=>exact False.elim hq
theorem pe_call (F:FnOk X.prog X.w X.K X.mg X.base CX k f fd ps sp) (hr:Room k X.A) (hg:Gl X x) (hm:X.mg x=some (.ref f)) (hk:PySem.W.keepIn X.K (.ref f)=true) (hb:Binds X.K fd ps ds) (hd:Vals dvs ds) (hx:Passes CX X E)
  (ha:PA X (e::es) t) (hdb:(x == ("__debug__":Str))=false:=by decide) (he:starEach (e::es) X.env=(false,eval e X.env)::starEach es X.env:=by rfl) (hpl:(backTo pos (starEach es X.env)).any (·.1)=false:=by rfl) :
  PE X (.Call (.Name x p) (e::es) [] pos) (tCall sp dvs E t):=by
 intro pins s σ H Q I h
 refine wpAny_Call_Name_kw (ld_glob I hg hm ?_ hdb)
 refine PySem.W.callWith_K (h₀:=X.base) I.ok.mod.kin hk (thn (ha pos pins s σ H _ I h) fun us s1 ⟨vs,H1,I1,r,q⟩=>⟨I1.kIn,?_⟩) he hpl
 exact run_fn F hr hb hd hx I1 r q
end
structure FnScope (N P:List Str) (sc:Scope):Prop where
 kind:sc.kind=.function
 co:sc.isCoroutine=false
 gen:sc.isGenerator=false
 nd:N.Nodup
 pre:N.take P.length=P
 par:∀ x∈P,sc.names.lookup x=some .local∨sc.names.lookup x=some .cell
 nofree:∀ y∈sc.names,y.2≠.free
theorem bindL_out {kindOf:Str→Option NameKind} {x:Str}:∀ {binds:List (Str×Value)} {m:Str→Option Value},(∀ v,(x,v)∉binds)→bindL kindOf binds m x=m x
 | [],_,_=>rfl
 | (n,v)::r,m,h=>by
  unfold bindL
  rw [bindL_out fun w hw=>h w (List.mem_cons_of_mem _ hw)]
  split
  ·have:x≠n:=by rintro rfl;exact h v List.mem_cons_self
   simp [this]
  ·rfl
theorem bindC_out {kindOf:Str→Option NameKind} {x:Str}:∀ {binds:List (Str×Value)} {m:Str→Option Value},(∀ v,(x,v)∉binds)→bindC kindOf binds m x=m x
 | [],_,_=>rfl
 | (n,v)::r,m,h=>by
  unfold bindC
  rw [bindC_out fun w hw=>h w (List.mem_cons_of_mem _ hw)]
  split
  ·rfl
  ·have:x≠n:=by rintro rfl;exact h v List.mem_cons_self
   simp [this]
theorem bindL_get {kindOf:Str→Option NameKind} {x:Str} {v:Value}:∀ {P:List Str} {vs:List Value} {i:Nat} {m:Str→Option Value},P.Nodup→P[i]?=some x→vs[i]?=some v→kindOf x=some .local →
  bindL kindOf (P.zip vs) m x=some v
 | [],_,_,_,_,h,_,_=>by simp at h
 | _::_,[],_,_,_,_,h,_=>by simp at h
 | p::P,w::vs,0,m,nd,h1,h2,hk=>by
  simp at h1 h2;subst h1;subst h2
  show bindL kindOf ((p,w)::P.zip vs) m p=_
  unfold bindL
  rw [bindL_out fun v hv=>(List.nodup_cons.mp nd).1 (List.of_mem_zip hv).1,if_pos hk]
  simp
 | p::P,w::vs,i+1,m,nd,h1,h2,hk=>by
  show bindL kindOf ((p,w)::P.zip vs) m x=_
  unfold bindL
  exact bindL_get (i:=i) (List.nodup_cons.mp nd).2 (by simpa using h1) (by simpa using h2) hk
theorem bindC_get {kindOf:Str→Option NameKind} {x:Str} {v:Value}:∀ {P:List Str} {vs:List Value} {i:Nat} {m:Str→Option Value},P.Nodup→P[i]?=some x→vs[i]?=some v→kindOf x≠some .local →
  bindC kindOf (P.zip vs) m x=some v
 | [],_,_,_,_,h,_,_=>by simp at h
 | _::_,[],_,_,_,_,h,_=>by simp at h
 | p::P,w::vs,0,m,nd,h1,h2,hk=>by
  simp at h1 h2;subst h1;subst h2
  show bindC kindOf ((p,w)::P.zip vs) m p=_
  unfold bindC
  rw [bindC_out fun v hv=>(List.nodup_cons.mp nd).1 (List.of_mem_zip hv).1,if_neg hk]
  simp
 | p::P,w::vs,i+1,m,nd,h1,h2,hk=>by
  show bindC kindOf ((p,w)::P.zip vs) m x=_
  unfold bindC
  exact bindC_get (i:=i) (List.nodup_cons.mp nd).2 (by simpa using h1) (by simpa using h2) hk
noncomputable def start (N:List Str) (vs:List V):St:=vs.map some++List.replicate (N.length - vs.length) none
noncomputable def cxOf (CX:CXT) (P:Program) (w:World) (K:PySem.W.Frag) (mg:Str→Option Value) (base:Heap) (N:List Str) (qual:Str) (scope:Scope) (f:Addr) (cd:Value) (A:Around) (outer:List Env) (s:Shared) (H:Hp) (E:XK):Cx where
 prog:=P
 w:=w
 K:=K
 mg:=mg
 base:=base
 A:=A.deeper (envOfC qual scope s.heap.objs.size f cd)
 N:=N
 s₀:=s
 H₀:=H
 env:=envOfC qual scope s.heap.objs.size f cd
 outer:=outer
 stack:=envOfC qual scope s.heap.objs.size f cd::outer
 ex:=[]
 calm:=true
 fn:=fun _=>true
 pn:=[]
 xe:=fun e s'=>wpAny (model P w) (A.deeper (envOfC qual scope s.heap.objs.size f cd)) (leaving (envOfC qual scope s.heap.objs.size f cd) e) (fun _ s''=>CX outer H s E e s'') (fun e' s''=>CX outer H s E e' s'') s'
theorem cell_has {sc:Scope} {n:Nat} {x:Str} (h:sc.names.lookup x=some .cell):∃ c,(cellsFrom n sc.names []).lookup x=some c:=by
 have q:=PySem.W.cellsFrom_some sc.names n [] (.inl h)
 exact Option.isSome_iff_exists.mp q
theorem inv_start {CX:CXT} {P:Program} {w:World} {K:PySem.W.Frag} {mg:Str→Option Value} {base:Heap} {N ps:List Str} {qual:Str} {scope:Scope} {f:Addr} {cd:Value} {A:Around} {outer:List Env} {s s1:Shared} {H:Hp} {E:XK} {us:List Value} {vs:List V}
  (S:FnScope N ps scope) (hd:A.handled=none) (e0:Env0 P w K mg base A outer s H) (hl:vs.length=ps.length) (r:Vals vs us)
  (x:InCallC s s.heap.objs.size (bindL (envOfC qual scope s.heap.objs.size f cd).kindOf (ps.zip us) fun _=>none) (cellsFrom (s.heap.objs.size+1) scope.names []) (bindC (envOfC qual scope s.heap.objs.size f cd).kindOf (ps.zip us) fun _=>none) s1) :
  Inv (cxOf CX P w K mg base N qual scope f cd A outer s H E) [] (start N vs) H s1:=by
 have hpl:ps.length≤N.length:=by have:=congrArg List.length S.pre;rw [List.length_take] at this;lia
 obtain ⟨h1,tk,rfl,hk⟩:=x.done
 have noA:∀ b:Addr,b∉(cxOf CX P w K mg base N qual scope f cd A outer s H E).ex:=fun b z=>absurd (show b∈([]:List Addr) from z) (by simp)
 refine⟨⟨e0.mod,S.kind,rfl,rfl,Nat.le_refl _,fun y z c h1 h2=>?_,fun y hy=>?_,fun y c _ h=>?_,fun _=>hd,Around.frames_deeper e0.frames,.inr ⟨rfl,rfl⟩,fun b z=>absurd z (noA b),e0.bs,e0.bsz,fun b _ _=>noA b,fun b z=>absurd z (noA b),e0.funs,e0.frf⟩,
  rfl,e0.bare,Un.kept hk,⟨_,x.toInCall.ns,fun i y v h1 h2 h3=>?_⟩,fun y c h=>⟨_,x.cell y c h⟩,e0.hok.fresh (Nat.le_refl _),fun y c h=>?_,fun p hp=>absurd (show p∈([]:List (Addr×Obj)) from hp) (by simp),e0.hok.kept hk,?_⟩
 ·exact name_of_addr x.apart (PySem.mem_of_lookup h1) (PySem.mem_of_lookup h2)
 ·have hy:scope.names.lookup y=some .cell∨scope.names.lookup y=some .free:=hy
  rcases hy with hy|hy
  ·exact cell_has hy
  ·exact absurd rfl (S.nofree _ (PySem.mem_of_lookup hy))
 ·exact Nat.le_of_lt (x.above y c (PySem.mem_of_lookup h))
 ·have hi:i<vs.length:=by
   unfold start at h2
   by_cases hi:i<vs.length
   ·exact hi
   ·rw [List.getElem?_append_right (by simpa using hi)] at h2
    rw [List.getElem?_replicate] at h2
    split at h2 <;> cases h2
  have ha:vs[i]?=some v:=by
   unfold start at h2
   rw [List.getElem?_append_left (by simpa using hi),List.getElem?_map] at h2
   cases e:vs[i]? with
   | none=>rw [e] at h2;cases h2
   | some a=>rw [e] at h2;cases h2;rfl
  obtain ⟨u,hu,rv⟩:=r.get ha
  have hp:ps[i]?=some y:=by
   rw [← S.pre,List.getElem?_take_of_lt (by lia)];exact h1
  have ndP:ps.Nodup:=by rw [← S.pre];exact S.nd.sublist (List.take_sublist _ _)
  refine⟨u,rv,?_⟩
  rcases S.par y (List.mem_of_getElem? hp) with k|k
  ·exact .inl ⟨k,bindL_get ndP hp hu k⟩
  ·obtain ⟨c,e⟩:=cell_has (n:=s.heap.objs.size+1) k
   refine .inr ⟨.inl k,c,e,?_⟩
   have q:=x.cell y c e
   rw [bindC_get ndP hp hu (by show scope.names.lookup y≠_;rw [k];decide)] at q
   exact q
 ·exact e0.hok.fresh (Nat.le_of_lt (x.above y c (PySem.mem_of_lookup h)))
 ·unfold start
  show _=N.length
  rw [List.length_append,List.length_map,List.length_replicate]
  lia
theorem fn_of {CX:CXT} {P:Program} {w:World} {K:PySem.W.Frag} {mg:Str→Option Value} {base:Heap} {k:Nat} {f:Addr} {name qual:Str} {params:Arguments} {body:List Stmt} {scope:Scope} {dV kV doc pm cdv ct oc:Value} {an od:Option Addr}
  {osl:Array (Option Value)} {N ps:List Str} {sp:Sp} (lk:K.lookup f=some ⟨oc,od,.func (PySem.W.fnOf name qual params body scope dV kV doc pm an cdv ct),osl⟩) (hcd:PySem.W.codeIn K cdv qual=true) (S:FnScope N ps scope)
  (len:∀ vs H Q E,sp vs H Q E→vs.length=ps.length)
  (hbody:∀ (A:Around) (outer:List Env) (s:Shared) (H:Hp) (vs:List V) (Q:VK) (E:XK),Room k (A.deeper (envOfC qual scope s.heap.objs.size f cdv))→sp vs H Q E →
   ∃ t,PSs (cxOf CX P w K mg base N qual scope f cdv A outer s H E) body t∧t { nx:=fun _ H'=>Q .non H',rt:=Q } (start N vs) H) :
  FnOk P w K mg base CX (k+1) f (PySem.W.fnOf name qual params body scope dV kV doc pm an cdv ct) ps sp:=by
 refine⟨len,fun A outer s H args us vs Q E hr e0 hb r hsp=>?_⟩
 have hl:=len _ _ _ _ hsp
 have KX:K.In s.heap:=e0.mod.kin.keeps fun b o e=>(e0.bs b o e).1
 have lim:s.heap.NoLimit:=e0.mod.nolimit.keeps fun b o e=>(e0.bs b o e).1
 have hkind:∀ y∈ps.zip us,scope.names.lookup y.1=some .local∨(scope.names.lookup y.1=some .cell∧((cellsFrom (s.heap.objs.size+1) scope.names []).lookup y.1).isSome=true):=fun ⟨n,v⟩ hy=>by
  rcases S.par n (List.of_mem_zip hy).1 with q|q
  ·exact .inl q
  ·exact .inr ⟨q,PySem.W.cellsFrom_some _ _ _ (.inl q)⟩
 refine codeAny_call_function hr.depth (KX _ _ lk) rfl S.co S.gen rfl (PySem.W.codeRec_of KX hcd) (hb _ _ _ _ ?_)
 refine wpAny_newFunctionEnv_cells S.kind hkind fun env he s1 x=>?_
 subst he
 refine⟨lim.keeps x.toInCall.keep,codeAny_func ?_⟩
 obtain ⟨t,ht,hq⟩:=hbody A outer s H vs Q E (hr.deeper _) hsp
 have I:Inv (cxOf CX P w K mg base N qual scope f cdv A outer s H E) [] (start N vs) H s1:=inv_start S hr.hd e0 hl r x
 refine wpAny_mono (ht [] s1 (start N vs) H _ I hq) (fun fl s' hs=>?_) fun e s' hs=>hs
 have fin:∀ {σ':St} {H':Hp} {v:V} {u:Value},Inv (cxOf CX P w K mg base N qual scope f cdv A outer s H E) [] σ' H' s'→RelV v u→Q v H'→CE outer P w H s Q u s' :=
  fun {σ' H' v u} J rv q=>⟨v,H',J.os,J.bare,J.base,J.hok,rv,q⟩
 cases fl with
 | ret u =>
  obtain ⟨v,σ',H',J,rv,q⟩:=hs
  exact fin J rv q
 | next =>
  obtain ⟨σ',H',J,q⟩:=hs
  exact fin (v:=V.non) (u:=Value.none) J rfl q
 | brk =>
  obtain ⟨_,_,_,q⟩:=hs
  exact False.elim q
 | cont =>
  obtain ⟨_,_,_,q⟩:=hs
  exact False.elim q
end L2
namespace L2
open PySem PySem.Spec PyProof.Rows
section
variable {X:Cx} {x:Str} {p pos:Pos} {e:Expr} {es:List Expr} {t:TA} {id T:String} {r:List V→Hp→VK→Prop}
noncomputable def tCB (r:List V→Hp→VK→Prop) (t:TA):TE:=fun σ H Q=>t σ H fun vs H1=>r vs H1 Q
theorem pe_callB (hc:CallR X (.builtin id) r) (hg:Gl X x) (hm:X.mg x=none) (hv:bootBuiltins x=some (.builtin id)) (ha:PA X (e::es) t) (hn:x≠"__name__":=by decide) (hdb:(x == ("__debug__":Str))=false:=by decide)
  (he:starEach (e::es) X.env=(false,eval e X.env)::starEach es X.env:=by rfl) (hpl:(backTo pos (starEach es X.env)).any (·.1)=false:=by rfl):PE X (.Call (.Name x p) (e::es) [] pos) (tCB r t):=by
 intro pins s σ H Q I h
 refine wpAny_Call_Name_kw (ld_blt I hg hm hv ?_ hn hdb)
 exact PyProof.Rows.callWith_builtin1 (thn (ha pos pins s σ H _ I h) fun us s1 ⟨vs,H1,I1,r1,q1⟩=>hc pins s1 σ H1 vs us Q I1 r1 q1) he hpl
theorem pe_callTy (hc:CallR X (.type T) r) (hg:Gl X x) (hm:X.mg x=none) (hv:bootBuiltins x=some (.type T)) (ha:PA X (e::es) t) (hn:x≠"__name__":=by decide) (hdb:(x == ("__debug__":Str))=false:=by decide)
  (he:starEach (e::es) X.env=(false,eval e X.env)::starEach es X.env:=by rfl) (hpl:(backTo pos (starEach es X.env)).any (·.1)=false:=by rfl):PE X (.Call (.Name x p) (e::es) [] pos) (tCB r t):=by
 intro pins s σ H Q I h
 refine wpAny_Call_Name_kw (ld_blt I hg hm hv ?_ hn hdb)
 exact PyProof.Rows.callWith_type1 (thn (ha pos pins s σ H _ I h) fun us s1 ⟨vs,H1,I1,r1,q1⟩=>hc pins s1 σ H1 vs us Q I1 r1 q1) he hpl
end
end L2
namespace HT
open PySem PyProof.Rows
section
variable {prog:Program} {w:World} {A:Around} {E:Value→Shared→Prop} {s:Shared}
theorem cat_tup {t b:Addr} {vs ws:List Value} {Q:Value→Shared→Prop} (ht:IsTup s.heap t vs.toArray) (hb:IsTup s.heap b ws.toArray) (hv:vs≠[])
  (h1:ws=[]→Q (.ref t) s) (h2:ws≠[]→Q (.ref s.heap.objs.size) { s with heap:=s.heap.push { cls:=.type "tuple",data:=.seq (vs++ws).toArray } })
  (hsz:vs.length+ws.length≤sizeLine):wpAny (model prog w) A (binaryOp .Add (.ref t) (.ref b)) Q E s:=by
 obtain ⟨⟨cls,dd,data,sl⟩,ho,hc,n,hd⟩:=id ht
 obtain ⟨⟨cls2,dd2,data2,sl2⟩,ho2,hc2,n2,hd2⟩:=id hb
 simp only at hc hd hc2 hd2
 subst hc hd hc2 hd2
 have e:vs.toArray++ws.toArray=(vs++ws).toArray:=by simp
 by_cases hw:ws=[]
 ·exact concat_meets ⟨_,ho,rfl⟩ ⟨_,ho2,rfl⟩ noFill_tuple_add seq_tuple_add PySem.F.slot_tuple_add PySem.F.entry_tuple_add (PySem.F.args_tuple_add_2 _ _)
   (tuple_addW1 t b vs.toArray ws.toArray n n2 dd dd2 sl sl2 (by simpa using hv) (by simp [hw])) ⟨ho,ho2,h1 hw⟩
 ·refine concat_meets ⟨_,ho,rfl⟩ ⟨_,ho2,rfl⟩ noFill_tuple_add seq_tuple_add PySem.F.slot_tuple_add PySem.F.entry_tuple_add (PySem.F.args_tuple_add_2 _ _)
   (tuple_addW2 t b vs.toArray ws.toArray n n2 dd dd2 sl sl2 (by simpa using hv) (by simpa using hw) (by rw [List.size_toArray,List.size_toArray];exact hsz)) ⟨ho,ho2,?_⟩
  rw [e]
  exact h2 hw
noncomputable def sIx (n d:Nat):Option Int→Nat
 | none=>d
 | some v=>if v<0 then (v+(n:Int)).toNat else min v.toNat n
theorem sIx_none (n d:Nat):sIx n d none=d:=rfl
theorem sIx_nat (n d k:Nat):sIx n d (some (k:Int))=min k n:=by
 show (if (k:Int)<0 then ((k:Int)+(n:Int)).toNat else min (k:Int).toNat n)=min k n
 rw [if_neg (by lia),Int.toNat_natCast]
theorem sIx_le (n d:Nat) (hd:d≤n) (o:Option Int):sIx n d o≤n:=by
 cases o with
 | none=>exact hd
 | some v =>
  show (if v<0 then (v+(n:Int)).toNat else min v.toNat n)≤n
  by_cases hv:v<0
  ·rw [if_pos hv];lia
  ·rw [if_neg hv];exact Nat.min_le_right _ _
theorem clip_eq (v:Int) (n d:Nat):(if v<0 then max (v+(n:Int)) 0 else min v (n:Int))=((sIx n d (some v):Nat):Int):=by
 show (if v<0 then max (v+(n:Int)) 0 else min v (n:Int))=(((if v<0 then (v+(n:Int)).toNat else min v.toNat n):Nat):Int)
 by_cases hv:v<0
 ·simp only [if_pos hv];lia
 ·simp only [if_neg hv];lia
theorem adjust_gen (lo hi:Option Int) (n:Nat):Builtin.Slice.sliceAdjust lo hi 1 (n:Int)=(((sIx n 0 lo:Nat):Int),((sIx n n hi:Nat):Int)):=by
 have h1:¬ ((1:Int)<0):=by lia
 unfold Builtin.Slice.sliceAdjust
 simp only [h1,if_false]
 refine Prod.ext ?_ ?_
 ·cases lo with
  | none=>rfl
  | some v=>exact clip_eq v n 0
 ·cases hi with
  | none=>rfl
  | some v=>exact clip_eq v n n
theorem places_gen (i j:Nat):Builtin.Slice.slicePlaces (i:Int) (j:Int) 1=j - i:=by
 unfold Builtin.Slice.slicePlaces
 have h1:(1:Int) > 0:=by lia
 simp only [h1,if_true,Int.ediv_one]
 split <;> lia
theorem slicePart_ {v:Value} {o:Option Int} {Q:Option Int→Shared→Prop} (p:IsPart v o) (h:Q o s):wpAny (model prog w) A (Builtin.Slice.slicePartIndex v) Q E s:=by
 cases p with
 | none=>exact slicePart_none h
 | int i t=>exact slicePart_int h
theorem sliceApplied_gen {sl:Addr} {vl vu:Value} {lo hi:Option Int} {n:Nat} {Q:Int×Int×Nat→Shared→Prop} (hs:s.heap.IsSliceOf sl vl vu .none) (pl:IsPart vl lo) (pu:IsPart vu hi)
  (h:Q (((sIx n 0 lo:Nat):Int),1,sIx n n hi - sIx n 0 lo) s):wpAny (model prog w) A (Builtin.Slice.sliceApplied (.ref sl) (pure (n:Int))) Q E s:=by
 obtain ⟨os,hos,hcs,hds⟩:=id hs
 unfold Builtin.Slice.sliceApplied Builtin.Slice.sliceFields
 refine wpAny_bind (wpAny_bind (wpAny_field hos hds (x:=vl) rfl (wpAny_bind (wpAny_field hos hds (x:=vu) rfl (wpAny_bind (wpAny_field hos hds (x:=.none) rfl (wpAny_pure ?_)))))))
 refine wpAny_bind (slicePart_none ?_)
 show wpAny _ _ (if ((1:Int) == 0)=true then _ else _) _ _ s
 rw [if_neg (by decide)]
 refine wpAny_bind (slicePart_ pl (wpAny_bind (slicePart_ pu (wpAny_bind (wpAny_pure ?_)))))
 show wpAny _ _ (match Builtin.Slice.sliceAdjust lo hi 1 (n:Int) with|(lo,hi)=>pure (lo,(1:Int),Builtin.Slice.slicePlaces lo hi 1)) _ _ s
 rw [adjust_gen lo hi n]
 show wpAny _ _ (pure (((sIx n 0 lo:Nat):Int),(1:Int),Builtin.Slice.slicePlaces ((sIx n 0 lo:Nat):Int) ((sIx n n hi:Nat):Int) 1)) _ _ s
 rw [places_gen]
 exact wpAny_pure h
theorem pick_gen (xs:Array Value) (i k:Nat):((List.range k).filterMap fun (m:Nat)=>xs[((i:Int)+(m:Int)*1).toNat]?).toArray=((xs.toList.drop i).take k).toArray:=by
 have e:(fun (m:Nat)=>xs[((i:Int)+(m:Int)*1).toNat]?)=fun m=>xs[i+m]?:=by
  funext m
  have:((i:Int)+(m:Int)*1).toNat=i+m:=by lia
  rw [this]
 rw [e]
 have:=pick_run xs i k
 rw [List.filterMap_map] at this
 have e2:((fun x=>xs[x]?) ∘ fun x=>i+x)=fun m=>xs[i+m]?:=rfl
 rw [e2] at this
 rw [this]
theorem getItem_tuple_cut {t sl:Addr} {items:Array Value} {vl vu:Value} {lo hi:Option Int} {Q:Value→Shared→Prop} (ht:IsTup s.heap t items) (hs:s.heap.IsSliceOf sl vl vu .none) (pl:IsPart vl lo) (pu:IsPart vu hi)
  (hw:¬ (sIx items.size 0 lo=0∧sIx items.size items.size hi=items.size))
  (h:Q (.ref s.heap.objs.size) { s with heap:=s.heap.push { cls:=.type "tuple",data:=.seq ((items.toList.drop (sIx items.size 0 lo)).take (sIx items.size items.size hi - sIx items.size 0 lo)).toArray } })
  (hsz:items.size≤sizeLine):wpAny (model prog w) A (getItem (.ref t) (.ref sl)) Q E s:=by
 have htake:sizeOk (.seq ((items.toList.drop (sIx items.size 0 lo)).take (sIx items.size items.size hi - sIx items.size 0 lo)).toArray):=by
  show ((items.toList.drop (sIx items.size 0 lo)).take (sIx items.size items.size hi - sIx items.size 0 lo)).toArray.size≤sizeLine
  rw [List.size_toArray,List.length_take,List.length_drop,Array.length_toList]
  exact Nat.le_trans (Nat.min_le_right _ _) (Nat.le_trans (Nat.sub_le _ _) hsz)
 have hj:sIx items.size items.size hi≤items.size:=sIx_le _ _ (Nat.le_refl _) hi
 obtain ⟨os,hos,hcs,hds⟩:=id hs
 have hTs:s.TypeIs (.ref sl) "slice":=⟨os,hos,hcs⟩
 unfold getItem
 try with_reducible refine wpAny_holding ?_
 first|refine wpAny_bind (wpAny_pure ?_)|skip
 refine wpAny_bind (wpAny_sequenceKey ht.typeIs (by decide) ?_)
 refine wpAny_bind (wpAny_callSpecial?_slot (name:=Str.ofString "__getitem__") ht.typeIs PyProof.Rows.slot_tuple_getitem
  (wpAny_call_entry PyProof.Rows.slot_tuple_getitem ht.typeIs entry_tuple_getitem ?_ (args_tuple_getitem _ _)))
 show wpAny _ _ (Builtin.Tuple.tupleItemsOf (.ref t) >>= _) _ _ s
 refine wpAny_bind (tupleItemsOf_ ht ?_)
 refine wpAny_bind (wpAny_typeOf hTs ?_)
 rw [if_pos (by decide)]
 refine wpAny_bind (sliceApplied_gen hs pl pu ?_)
 have hno:¬ ((((sIx items.size 0 lo:Nat):Int) == 0 && (1:Int) == 1 && (sIx items.size items.size hi - sIx items.size 0 lo) == items.size)=true):=by
  intro q
  rw [Bool.and_eq_true,Bool.and_eq_true] at q
  have q1:((sIx items.size 0 lo:Nat):Int)=0:=eq_of_beq q.1.1
  have q2:sIx items.size items.size hi - sIx items.size 0 lo=items.size:=eq_of_beq q.2
  exact hw ⟨by lia,by lia⟩
 show wpAny _ _ (if (((sIx items.size 0 lo:Nat):Int) == 0 && (1:Int) == 1 && (sIx items.size items.size hi - sIx items.size 0 lo) == items.size)=true then _ else _) _ _ s
 rw [if_neg hno,pick_gen]
 first
  | exact wpAny_bind (m:=Builtin.Tuple.tupleExact _) (wpAny_newObj_type (wpAny_pure ⟨_,rfl,wpAny_pure h⟩) htake)
  | exact wpAny_bind (m:=Builtin.Tuple.tupleExact _) (wpAny_newObj_type (wpAny_bind (wpAny_pure (wpAny_pure ⟨_,rfl,wpAny_pure h⟩))) htake)
  | exact wpAny_bind (wpAny_bind (m:=Builtin.Tuple.tupleExact _) (wpAny_newObj_type (wpAny_pure (wpAny_pure ⟨_,rfl,wpAny_pure h⟩)) htake))
  | exact wpAny_bind (wpAny_bind (m:=Builtin.Tuple.tupleExact _) (wpAny_newObj_type (wpAny_pure ⟨_,rfl,wpAny_pure h⟩) htake))
end
end HT
namespace L2
open PySem PySem.Spec PyProof.Rows
noncomputable abbrev TO:=St→Hp→(Option Int→Hp→Prop)→Prop
noncomputable def PO (X:Cx) (e:Option Expr) (t:TO):Prop :=
 ∀ (pins:List (Addr×Obj)) (s:Shared) (σ:St) (H:Hp) (Q:Option Int→Hp→Prop),Inv X pins σ H s→t σ H Q →
  wpAny (model X.prog X.w) X.A (evalPart e X.env) (fun u s'=>∃ o H',Inv X pins σ H' s'∧IsPart u o∧Q o H') X.xe s
noncomputable def tNoPart:TO:=fun _ H Q=>Q none H
noncomputable def tPart (t:TE):TO:=fun σ H Q=>t σ H fun x H1=>∃ i,x=.int i∧Q (some i) H1
section
variable {X:Cx} {e:Expr} {te:TE} {lo hi:Option Expr} {tl th:TO} {pos p2:Pos}
theorem po_none:PO X none tNoPart:=by
 intro pins s σ H Q I h
 rw [evalPart_none]
 exact wpAny_pure ⟨none,H,I,.none,h⟩
theorem po_some (h:PE X e te):PO X (some e) (tPart te):=by
 intro pins s σ H Q I hw
 rw [evalPart_some]
 refine thn (h pins s σ H _ I hw) fun u s1 ⟨x,H1,I1,r1,q1⟩=>?_
 obtain ⟨i,rfl,q⟩:=q1
 obtain ⟨t,rfl⟩:=r1
 exact⟨some i,H1,I1,.int i t,q⟩
noncomputable def SlR (X:Cx) (r:V→Option Int→Option Int→Hp→VK→Prop):Prop :=
 ∀ (pins:List (Addr×Obj)) (s:Shared) (σ:St) (H:Hp) (x:V) (v vl vu:Value) (lo hi:Option Int) (sl:Addr) (Q:VK),Inv X pins σ H s→RelV x v→s.heap.IsSliceOf sl vl vu .none→IsPart vl lo→IsPart vu hi→r x lo hi H Q →
  ∃ T id,typeLookup (.type T) "__getitem__"=pure (some (.builtin id))∧s.TypeIs v T∧wpAny (model X.prog X.w) X.A (getItem v (.ref sl)) (EP X pins σ Q) X.xe s
noncomputable def tSl (r:V→Option Int→Option Int→Hp→VK→Prop) (te:TE) (tl th:TO):TE:=fun σ H Q=>te σ H fun x H1=>tl σ H1 fun l H2=>th σ H2 fun u H3=>r x l u H3 Q
theorem pe_slice {r:V→Option Int→Option Int→Hp→VK→Prop} (hr:SlR X r) (he:PE X e te) (hl:PO X lo tl) (hu:PO X hi th):PE X (.Subscript e (.Slice lo hi none p2) pos) (tSl r te tl th):=by
 intro pins s σ H Q I h
 refine Subscript_ (thn (he pins s σ H _ I h) fun v s1 ⟨x,H1,I1,r1,q1⟩=>?_)
 refine wpAny_Slice (thn (hl pins s1 σ H1 _ I1 q1) fun vl s2 ⟨l,H2,I2,pl,q2⟩=>thn (hu pins s2 σ H2 _ I2 q2) fun vu s3 ⟨u,H3,I3,pu,q3⟩=>?_)
 rw [evalPart_none]
 refine wpAny_pure ?_
 have I4:Inv X pins σ H3 { s3 with heap:=s3.heap.push { cls:=.type "slice",data:=.fields #[vl,vu,.none] } }:=I3.kept (t':=s3.toks) fun b ob q=>Heap.get?_push_of_some _ q
 obtain ⟨T,id,hT,ht,hg⟩:=hr pins { s3 with heap:=s3.heap.push { cls:=.type "slice",data:=.fields #[vl,vu,.none] } } σ H3 x v vl vu l u s3.heap.objs.size Q I4 r1 (Heap.IsSliceOf.new ..) pl pu q3
 show wpAny (model X.prog X.w) X.A (subscriptTail e (.Slice lo hi none p2) v (.ref s3.heap.objs.size)) (EP X pins σ Q) X.xe { s3 with heap:=s3.heap.push { cls:=.type "slice",data:=.fields #[vl,vu,.none] } }
 exact tail_any (ops:=[.ref s3.heap.objs.size,v]) ht hT hg (by with_unfolding_all rfl)
noncomputable def cutV (xs:List V) (lo hi:Option Int):List V:=(xs.drop (HT.sIx xs.length 0 lo)).take (HT.sIx xs.length xs.length hi - HT.sIx xs.length 0 lo)
theorem cutV_length (xs:List V) (lo hi:Option Int):(cutV xs lo hi).length≤xs.length:=by
 unfold cutV
 rw [List.length_take,List.length_drop]
 lia
noncomputable def rSlT (K:PySem.W.Frag):V→Option Int→Option Int→Hp→VK→Prop:=fun x lo hi H Q=>∃ a xs,x=.ref a∧SqT K H a xs ∧
 ¬ (HT.sIx xs.length 0 lo=0∧HT.sIx xs.length xs.length hi=xs.length)∧∀ p,H p=none→Q (.ref p) (upd H p (.tup (cutV xs lo hi)))
theorem sl_tup:SlR X (rSlT X.K):=by
 intro pins s σ H x v vl vu lo hi sl Q I rx hs pl pu h
 obtain ⟨a,xs,rfl,hx,hw,q⟩:=h
 cases rx
 obtain ⟨its,r,ht,hz⟩:=I.tuple hx
 have hlen:its.toArray.size=xs.length:=by rw [List.size_toArray];exact r.length.symm
 refine⟨"tuple",_,PyProof.Rows.slot_tuple_getitem.lookup,ht.typeIs,?_⟩
 refine HT.getItem_tuple_cut ht hs pl pu (by rw [hlen];exact hw) ?_ (by rw [hlen];exact hz)
 rw [hlen]
 refine⟨.ref s.heap.objs.size,_,I.laid (t':=s.toks) (o:=.tup (cutV xs lo hi)) (fun b ob q=>Heap.get?_push_of_some _ q) (Nat.le_refl _) ?_,rfl,q _ (I.hok.fresh (Nat.le_refl _))⟩
 exact⟨Nat.le_trans (cutV_length xs lo hi) hz,_,(r.drop (HT.sIx xs.length 0 lo)).take (HT.sIx xs.length xs.length hi - HT.sIx xs.length 0 lo),IsTup.new _ _⟩
noncomputable def rCatT (K:PySem.W.Frag):R2:=fun x y H Q=>∃ a b xs ys,x=.ref a∧y=.ref b∧SqT K H a xs∧SqT K H b ys∧xs≠[]∧xs.length+ys.length≤sizeLine ∧
 (ys=[]→Q (.ref a) H)∧(ys≠[]→∀ p,H p=none→Q (.ref p) (upd H p (.tup (xs++ys))))
theorem Vals.nil_iff {xs:List V} {us:List Value} (r:Vals xs us):us=[]↔xs=[]:=by
 cases r with
 | nil=>simp
 | cons _ _=>simp
theorem op_catT:OpR X (binaryOp .Add) (rCatT X.K):=by
 intro pins s σ H x y v u Q I rx ry h
 obtain ⟨a,b,xs,ys,rfl,rfl,ha,hb,hx,hz,q1,q2⟩:=h
 cases rx
 cases ry
 obtain ⟨its,r1,p1,_⟩:=I.tuple ha
 obtain ⟨its2,r2,p2,_⟩:=I.tuple hb
 refine HT.cat_tup p1 p2 (fun z=>hx (r1.nil_iff.mp z)) (fun z=>⟨.ref a,H,I,rfl,q1 (r2.nil_iff.mp z)⟩) (fun z=>?_) (by rw [← r1.length,← r2.length];exact hz)
 refine⟨.ref s.heap.objs.size,_,I.laid (t':=s.toks) (o:=.tup (xs++ys)) (fun b ob q=>Heap.get?_push_of_some _ q) (Nat.le_refl _) ?_,rfl,q2 (fun w=>z (r2.nil_iff.mpr w)) _ (I.hok.fresh (Nat.le_refl _))⟩
 exact⟨by rw [List.length_append];exact hz,_,r1.append r2,IsTup.new _ _⟩
end
end L2
namespace L2
open PySem PySem.Spec PyProof.Rows
noncomputable def ixN (n:Nat) (i:Int):Option Nat:=if 0≤i then (if i<n then some i.toNat else none) else if -(n:Int)≤i then some (i+n).toNat else none
noncomputable def atI {α:Type} (xs:List α) (i:Int):Option α:=(ixN xs.length i).bind fun j=>xs[j]?
theorem ixN_seq {n:Nat} {i:Int} {j:Nat} (h:ixN n i=some j):seqIndex? i n=some j∧j<n∧-(n:Int)≤i∧i<n:=by
 unfold ixN at h
 by_cases h0:0≤i
 ·rw [if_pos h0] at h
  by_cases h1:i<n
  ·rw [if_pos h1] at h
   have e:i.toNat=j:=Option.some.inj h
   exact⟨by rw [seqIndex_of h0 h1,e],by lia,by lia,h1⟩
  ·rw [if_neg h1] at h;cases h
 ·rw [if_neg h0] at h
  by_cases h1:-(n:Int)≤i
  ·rw [if_pos h1] at h
   have e:(i+n).toNat=j:=Option.some.inj h
   exact⟨by rw [seqIndex_neg (by lia) h1,e],by lia,h1,by lia⟩
  ·rw [if_neg h1] at h;cases h
theorem atI_get {α:Type} {xs:List α} {i:Int} {v:α} (h:atI xs i=some v):∃ j,seqIndex? i xs.length=some j∧xs[j]?=some v∧j<xs.length∧-(xs.length:Int)≤i∧i<xs.length:=by
 unfold atI at h
 cases e:ixN xs.length i with
 | none=>rw [e] at h;cases h
 | some j =>
  rw [e] at h
  obtain ⟨h1,h2,h3,h4⟩:=ixN_seq e
  exact⟨j,h1,h,h2,h3,h4⟩
theorem atI_nat {α:Type} {xs:List α} {j:Nat} {v:α} (h:xs[j]?=some v):atI xs (j:Int)=some v:=by
 have hj:j<xs.length:=(List.getElem?_eq_some_iff.mp h).1
 have e:ixN xs.length (j:Int)=some j:=by
  unfold ixN
  rw [if_pos (by lia),if_pos (by lia)];simp
 unfold atI;rw [e];exact h
noncomputable def PlainIx (b:Expr):Prop:=∀ o i,subscripted b false o i=operate [o,i] (getItem o i)
noncomputable def IxR (X:Cx) (r:R2):Prop :=
 ∀ (value slice:Expr) (pins:List (Addr×Obj)) (s:Shared) (σ:St) (H:Hp) (x y:V) (v u:Value) (Q:VK),Inv X pins σ H s→RelV x v→RelV y u→r x y H Q →
  subscripted slice false v u=operate [v,u] (getItem v u)→wpAny (model X.prog X.w) X.A (subscriptTail value slice v u) (EP X pins σ Q) X.xe s
noncomputable def MtR (X:Cx) (id:String) (r:V→List V→Hp→VK→Prop):Prop :=
 ∀ (pins:List (Addr×Obj)) (s:Shared) (σ:St) (H:Hp) (x:V) (xs:List V) (v:Value) (us:List Value) (Q:VK),Inv X pins σ H s→RelV x v→Vals xs us→r x xs H Q →
  wpAny (model X.prog X.w) X.A (call (.builtin id) (v::us)) (EP X pins σ Q) X.xe s
section
variable {X:Cx} {a b:Expr} {ta tb:TE} {pos:Pos}
theorem IxR.or {r r':R2} (h:IxR X r) (h':IxR X r'):IxR X (fun x y H Q=>r x y H Q∨r' x y H Q):=by
 intro value slice pins s σ H x y v u Q I rx ry q hs
 rcases q with q|q
 ·exact h value slice pins s σ H x y v u Q I rx ry q hs
 ·exact h' value slice pins s σ H x y v u Q I rx ry q hs
theorem pe_ix {r:R2} (hr:IxR X r) (ha:PE X a ta) (hb:PE X b tb) (hs:PlainIx b):PE X (.Subscript a b pos) (tOp r ta tb):=by
 intro pins s σ H Q I h
 exact Subscript_ (binT ha hb I h fun v u s2 x y H2 I2 rx ry q=>hr a b pins s2 σ H2 x y v u Q I2 rx ry q (hs _ _))
noncomputable def rIxL (K:PySem.W.Frag):R2:=fun x y H Q=>∃ p xs i v,x=.ref p∧y=.int i∧SqL K H p xs∧atI xs i=some v∧Q v H
noncomputable def rIxT (K:PySem.W.Frag):R2:=fun x y H Q=>∃ p xs i v,x=.ref p∧y=.int i∧SqT K H p xs∧atI xs i=some v∧Q v H
noncomputable def rIxS:R2:=fun x y H Q=>∃ z i c,x=.str z∧y=.int i∧z.length≤sizeLine∧atI z.cps.toList i=some c∧Q (.str ⟨#[c]⟩) H
theorem ix_list:IxR X (rIxL X.K):=by
 intro value slice pins s σ H x y v u Q I rx ry h hs
 obtain ⟨p,xs,i,z,rfl,rfl,hq,he,q⟩:=h
 cases rx
 obtain ⟨t,rfl⟩:=ry
 obtain ⟨its,r,pl,hz⟩:=I.list hq
 obtain ⟨j,h1,h2,h3,h4,h5⟩:=atI_get he
 obtain ⟨w,ew,rw'⟩:=r.get h2
 have hl:=r.length
 have hn:=line63
 have fin:EP X pins σ Q w s:=⟨z,H,I,rw',q⟩
 by_cases h0:0≤i
 ·have hj:i.toNat=j:=by
   rw [seqIndex_of h0 h5] at h1
   exact Option.some.inj h1
  exact item_listR pl.isList h0 (by lia) (by rw [hj];simpa using ew) fin hs
 ·have hj:(i+(its.toArray.size:Int)).toNat=j:=by
   rw [seqIndex_neg (by lia) h4] at h1
   rw [List.size_toArray,← hl]
   exact Option.some.inj h1
  exact subscriptTail_builtinR (x:=w) pl.isList.typeIs slot_list_getitem.lookup
   (wpAny_getItem_list_neg (Q:=fun r s'=>r=w∧EP X pins σ Q r s') pl.isList (by lia) (by rw [List.size_toArray] <;> lia) (by lia) (by rw [hj];simpa using ew) ⟨rfl,fin⟩) hs
theorem ix_tup:IxR X (rIxT X.K):=by
 intro value slice pins s σ H x y v u Q I rx ry h hs
 obtain ⟨p,xs,i,z,rfl,rfl,hq,he,q⟩:=h
 cases rx
 obtain ⟨t,rfl⟩:=ry
 obtain ⟨its,r,pl,hz⟩:=I.tuple hq
 obtain ⟨j,h1,h2,h3,h4,h5⟩:=atI_get he
 obtain ⟨w,ew,rw'⟩:=r.get h2
 have hl:=r.length
 have hn:=line63
 have fin:EP X pins σ Q w s:=⟨z,H,I,rw',q⟩
 exact subscriptTail_builtinR (x:=w) pl.typeIs slot_tuple_getitem.lookup
  (getItem_tuple (j:=j) (Q:=fun r s'=>r=w∧EP X pins σ Q r s') pl (by lia) (by lia) (by rw [List.size_toArray,← hl];exact h1) (by simpa using ew) ⟨rfl,fin⟩) hs
theorem ix_str:IxR X rIxS:=by
 intro value slice pins s σ H x y v u Q I rx ry h hs
 obtain ⟨z,i,c,rfl,rfl,hz,he,q⟩:=h
 obtain ⟨t,rfl⟩:=rx
 obtain ⟨t',rfl⟩:=ry
 obtain ⟨j,h1,h2,h3,h4,h5⟩:=atI_get he
 have hl:z.cps.toList.length=z.length:=by simp [Str.length]
 rw [hl] at h1 h4 h5
 have hn:=line63
 exact tail_any (typeIs_str s z t) slot_str_getitem.lookup (getItem_str (c:=c) (by
  have e1:decide (i < -(2 ^ 63:Int))=false:=decide_eq_false (by lia)
  have e2:decide (i ≥ 2 ^ 63)=false:=decide_eq_false (by lia)
  rw [e1,e2,Bool.or_false]) (by rw [h1];simpa using h2) ⟨.str ⟨#[c]⟩,H,I.tok _,⟨_,rfl⟩,q⟩) hs
noncomputable def rIx (K:PySem.W.Frag):R2:=fun x y H Q=>rIxL K x y H Q∨rIxT K x y H Q∨rIxS x y H Q
theorem ix_seq:IxR X (rIx X.K):=ix_list.or (ix_tup.or ix_str)
theorem slice_bounds (lo hi:Option Int) (n:Nat):(sliceBounds lo hi none n).1=((HT.sIx n 0 lo:Nat):Int)∧(sliceBounds lo hi none n).2.1=((HT.sIx n n hi:Nat):Int)∧(sliceBounds lo hi none n).2.2=1:=by
 refine⟨?_,?_,rfl⟩
 ·cases lo with
  | none=>simp [sliceBounds,HT.sIx]
  | some i =>
   simp only [sliceBounds,HT.sIx,Option.getD_none,show (1:Int) > 0 by decide,if_true]
   by_cases h:i<0
   ·simp only [h,if_true] <;> lia
   ·simp only [h,if_false] <;> lia
 ·cases hi with
  | none=>simp [sliceBounds,HT.sIx]
  | some i =>
   simp only [sliceBounds,HT.sIx,Option.getD_none,show (1:Int) > 0 by decide,if_true]
   by_cases h:i<0
   ·simp only [h,if_true] <;> lia
   ·simp only [h,if_false] <;> lia
theorem slicePick_cut (its:List Value) (lo hi:Option Int):slicePick its.toArray lo hi none=((its.drop (HT.sIx its.length 0 lo)).take (HT.sIx its.length its.length hi - HT.sIx its.length 0 lo)).toArray:=by
 obtain ⟨h1,h2,h3⟩:=slice_bounds lo hi its.toArray.size
 unfold slicePick
 rw [h1,h2,h3]
 simp only [sliceRange_one,pick_run,List.size_toArray] <;> rfl
noncomputable def rSlL (K:PySem.W.Frag):V→Option Int→Option Int→Hp→VK→Prop:=fun x lo hi H Q=>∃ a xs,x=.ref a∧SqL K H a xs∧∀ p,H p=none→Q (.ref p) (upd H p (.lst (cutV xs lo hi)))
theorem sl_list:SlR X (rSlL X.K):=by
 intro pins s σ H x v vl vu lo hi sl Q I rx hs pl pu h
 obtain ⟨a,xs,rfl,hx,q⟩:=h
 cases rx
 obtain ⟨its,r,ht,hz⟩:=I.list hx
 have hlen:=r.length
 refine⟨"list",_,slot_list_getitem.lookup,ht.isList.typeIs,?_⟩
 refine wpAny_getItem_list_slice ht.isList hs pl pu .none (by simp) ?_ (by rw [List.size_toArray] <;> lia)
 rw [slicePick_cut,← hlen]
 refine⟨.ref s.heap.objs.size,_,I.laid (t':=s.toks) (o:=.lst (cutV xs lo hi)) (fun b ob q=>Heap.get?_push_of_some _ q) (Nat.le_refl _) ?_,rfl,q _ (I.hok.fresh (Nat.le_refl _))⟩
 exact⟨Nat.le_trans (cutV_length xs lo hi) hz,_,0,(r.drop (HT.sIx xs.length 0 lo)).take (HT.sIx xs.length xs.length hi - HT.sIx xs.length 0 lo),Heap.get?_push_size _ rfl⟩
theorem call_len_seq:CallR X (.builtin "len") (fun xs H Q=>∃ p ys,xs=[.ref p]∧(SqL X.K H p ys∨SqT X.K H p ys)∧Q (.int ys.length) H):=by
 intro pins s σ H xs us Q I r h
 obtain ⟨p,ys,rfl,hq,q⟩:=h
 obtain ⟨u,rfl,rx⟩:=vals1 r
 cases rx
 have hn:=line63
 rcases hq with hq|hq
 ·obtain ⟨its,r',pl,hz⟩:=I.list hq
  have hlen:=r'.length
  exact Calls.call_len_list pl.isList (by simp only [List.size_toArray] <;> lia) ⟨.int ys.length,H,I.tok _,⟨s.toks+1,by rw [List.size_toArray,hlen]⟩,q⟩
 ·obtain ⟨its,r',pl,hz⟩:=I.tuple hq
  have hlen:=r'.length
  exact len_tuple pl (by simp only [List.size_toArray] <;> lia) ⟨.int ys.length,H,I.tok _,⟨s.toks+1,by rw [List.size_toArray,hlen]⟩,q⟩
theorem call_list_of:CallR X (.type "list") (fun xs H Q=>∃ p ys,xs=[.ref p]∧(SqL X.K H p ys∨SqT X.K H p ys)∧∀ l,H l=none→Q (.ref l) (upd H l (.lst ys))):=by
 intro pins s σ H xs us Q I r h
 obtain ⟨p,ys,rfl,hq,q⟩:=h
 obtain ⟨u,rfl,rx⟩:=vals1 r
 cases rx
 have fin:∀ (its:List Value),Vals ys its→ys.length≤sizeLine→∀ (h':Heap) (c':Nat),(∀ b o',s.heap.get? b=some o'→h'.get? b=some o') →
   h'.get? s.heap.objs.size=some { cls:=.type "list",dict:=none,data:=.seq its.toArray c',slots:=#[] }→EP X pins σ Q (.ref s.heap.objs.size) { s with heap:=h' }:=fun its r' hz h' c' kp e =>
  ⟨.ref s.heap.objs.size,_,I.laid (t':=s.toks) kp (Nat.le_refl _) (show ObjOk X.prog X.w _ h' _ (.lst ys) from ⟨hz,its,c',r',e⟩),rfl,q _ (I.hok.fresh (Nat.le_refl _))⟩
 rcases hq with hq|hq
 ·obtain ⟨its,r',pl,hz⟩:=I.list hq
  have hlen:=r'.length
  obtain ⟨o,ho,hc,n,hd⟩:=pl.isList
  exact call_list_seq p (.inl rfl) ho hc hd (fun h' c' kp e=>fin its r' hz h' c' kp e) (by simp only [List.size_toArray] <;> lia)
 ·obtain ⟨its,r',pl,hz⟩:=I.tuple hq
  have hlen:=r'.length
  obtain ⟨o,ho,hc,n,hd⟩:=pl
  exact call_list_seq p (.inr rfl) ho hc hd (fun h' c' kp e=>fin its r' hz h' c' kp e) (by simp only [List.size_toArray] <;> lia)
theorem call_tuple_of:CallR X (.type "tuple") (fun xs H Q=>∃ p ys,xs=[.ref p]∧((SqL X.K H p ys∧∀ l,H l=none→Q (.ref l) (upd H l (.tup ys)))∨(SqT X.K H p ys∧Q (.ref p) H))):=by
 intro pins s σ H xs us Q I r h
 obtain ⟨p,ys,rfl,h⟩:=h
 obtain ⟨u,rfl,rx⟩:=vals1 r
 cases rx
 rcases h with ⟨hq,q⟩|⟨hq,q⟩
 ·obtain ⟨its,r',pl,hz⟩:=I.list hq
  have hlen:=r'.length
  refine call_tuple_list pl.isList (fun h' kp=>?_) (by simp only [List.size_toArray] <;> lia)
  have I1:Inv X pins σ H { s with heap:=h' }:=I.kept (t':=s.toks) kp
  have I2:Inv X pins σ (upd H h'.objs.size (.tup ys)) { s with heap:=h'.push { cls:=.type "tuple",data:=.seq its.toArray } } :=
   I1.laid (t':=s.toks) (fun b o e=>Heap.get?_push_of_some _ e) (Nat.le_refl _) (show ObjOk X.prog X.w _ _ _ (.tup ys) from ⟨hz,its,r',IsTup.new _ _⟩)
  exact⟨.ref h'.objs.size,_,I2,rfl,q _ (I1.hok.fresh (Nat.le_refl _))⟩
 ·obtain ⟨its,r',pl,hz⟩:=I.tuple hq
  exact call_tuple_same pl ⟨.ref p,H,I,rfl,q⟩
noncomputable def tyV (K:PySem.W.Frag) (T:String) (x:V) (H:Hp):Prop:=match x with
 | .str _=>T = "str"
 | .int _=>T = "int"
 | .ref p=>(T = "list"∧∃ xs,SqL K H p xs)∨(T = "tuple"∧∃ o,K.lookup p=some o∧o.cls=.type "tuple"∧o.dict=none) ∨
   (T = "dict"∧((∃ kvs,H p=some (.dK kvs))∨∃ kvs,H p=some (.dT kvs)))∨(T = "set"∧∃ S n,H p=some (.set S n))
 | _=>False
theorem tyV_is {pins:List (Addr×Obj)} {σ:St} {H:Hp} {s:Shared} {T:String} {x:V} {v:Value} (I:Inv X pins σ H s) (r:RelV x v) (ty:tyV X.K T x H) :
  s.TypeIs v T∧∀ a,v=.ref a→∃ ob,s.heap.get? a=some ob∧ob.dict=none:=by
 cases x with
 | str z =>
  obtain ⟨t,rfl⟩:=r
  cases (show T = "str" from ty)
  exact⟨typeIs_str s z t,fun _ e=>nomatch e⟩
 | int i =>
  obtain ⟨t,rfl⟩:=r
  cases (show T = "int" from ty)
  exact⟨typeIs_int s i t,fun _ e=>nomatch e⟩
 | ref p =>
  cases r
  rcases ty with ⟨rfl,xs,hq⟩|⟨rfl,o,hk,hc,hd⟩|⟨rfl,hk⟩|⟨rfl,S,n,hk⟩
  ·obtain ⟨its,_,pl,_⟩:=I.list hq
   refine⟨pl.isList.typeIs,fun a e=>?_⟩
   cases e
   obtain ⟨o,n,e,c,hd,_⟩:=pl
   exact⟨o,e,hd⟩
  ·refine⟨⟨o,I.kIn p o hk,hc⟩,fun a e=>?_⟩
   cases e
   exact⟨o,I.kIn _ o hk,hd⟩
  ·have z:∃ o,s.heap.get? p=some o∧o.ExactDict:=by
    rcases hk with ⟨kvs,hk⟩|⟨kvs,hk⟩
    ·obtain ⟨_,_,_,_,o,_,_,e,ex,_⟩:=I.hok p _ hk
     exact⟨o,e,ex⟩
    ·obtain ⟨_,_,_,_,o,_,_,e,ex,_⟩:=I.hok p _ hk
     exact⟨o,e,ex⟩
   obtain ⟨o,e,ex⟩:=z
   refine⟨⟨o,e,ex.1⟩,fun a e2=>?_⟩
   cases e2
   exact⟨o,e,ex.2.1⟩
  ·obtain ⟨o,_,_,_,e,ex,_⟩:=I.hok p _ hk
   refine⟨⟨o,e,ex.1⟩,fun a e2=>?_⟩
   cases e2
   exact⟨o,e,ex.2.1⟩
 | _=>exact False.elim ty
noncomputable def tBM (K:PySem.W.Frag) (T:String) (r:V→List V→Hp→VK→Prop) (to:TE) (t:TA):TE:=fun σ H Q=>to σ H fun x H1=>tyV K T x H1∧t σ H1 fun xs H2=>r x xs H2 Q
variable {o e:Expr} {es:List Expr} {to:TE} {t:TA} {name:Str} {apos cpos:Pos} {T id:String} {r:V→List V→Hp→VK→Prop}
theorem pe_bm (pa:PlainAttrs T) (slot:Slot T name id) (hty:typeOf (.builtin id)=pure (.type "method_descriptor")) (hm:MtR X id r) (ho:PE X o to) (ha:PA X (e::es) t)
  (hbase:attributeBase o name X.env (eval o X.env)=eval o X.env:=by rfl)
  (hfew:((backTo cpos (starEach (e::es) X.env)).all (fun x=>!x.1) && (backToKw cpos (keywordEach [] X.env)).all (fun x=>x.1.isSome)
   && decide ((e::es).length+([]:List Keyword).length+(if ([]:List Keyword).isEmpty then 0 else 1)<30))=true:=by rfl)
  (hline:(apos.endLine == cpos.line)=true:=by rfl) (hs:starEach (e::es) X.env=(false,eval e X.env)::starEach es X.env:=by rfl) (hplain:(backTo cpos (starEach es X.env)).any (·.1)=false:=by rfl) :
  PE X (.Call (.Attribute o name apos) (e::es) [] cpos) (tBM X.K T r to t):=by
 intro pins s σ H Q I h
 refine wpAny_Call_method_late hbase hfew hline rfl (thn (ho pins s σ H _ I h) fun v s1 ⟨x,H1,I1,r1,ty,q1⟩=>?_)
 obtain ⟨h1,h2⟩:=tyV_is I1 r1 ty
 refine⟨T,id,pa,slot,hty,h1,h2,?_⟩
 have hA:=ha cpos pins s1 σ H1 _ I1 q1
 rw [hs] at hA ⊢
 refine Calls.callWith_builtin (by show (false || (backTo cpos (starEach es X.env)).any (·.1))=false;rw [hplain] <;> rfl) (Calls.evalArgs_plain ?_)
 exact thn hA fun us s2 ⟨vs,H2,I2,r2,q2⟩=>hm pins s2 σ H2 x vs v us Q I2 r1 r2 q2
/- xs.append(e),list.index on a module's tuple .. are MtR facts of 06m -/
end
end L2
namespace L2
open PySem PySem.Spec PyProof.Rows
noncomputable def MtM (X:Cx) (id:String) (r:V→List V→Hp→VK→Prop):Prop :=
 ∀ (pins:List (Addr×Obj)) (s:Shared) (σ:St) (H:Hp) (x:V) (xs:List V) (v:Value) (us:List Value) (Q:VK),Inv X pins σ H s→RelV x v→Vals xs us→r x xs H Q →
  wpAny (model X.prog X.w) X.A (call (.builtin id) (v::us)) (EP X pins σ Q) X.xe s
theorem Vals.one:∀ {x:V} {us:List Value},Vals [x] us→∃ u,us=[u]∧RelV x u
 | _,_,.cons r .nil=>⟨_,rfl,r⟩
theorem Vals.dropLast {xs:List V} {us:List Value} (h:Vals xs us):Vals xs.dropLast us.dropLast:=by
 induction h with
 | nil=>exact .nil
 | cons r t ih =>
  cases t with
  | nil=>exact .nil
  | cons q t'=>exact .cons r ih
theorem erase_last {α:Type} (l:List α):l.eraseIdx (l.length - 1)=l.dropLast:=by
 induction l with
 | nil=>rfl
 | cons a r ih =>
  cases r with
  | nil=>rfl
  | cons b r =>
   have e:(a::b::r).length - 1=((b::r).length - 1)+1:=by
    have h1:(a::b::r).length=r.length+2:=rfl
    have h2:(b::r).length=r.length+1:=rfl
    lia
   rw [e,List.eraseIdx_cons_succ,ih]
   all_goals rfl
section
variable {X:Cx} {pins:List (Addr×Obj)} {σ:St} {H:Hp} {s:Shared} {l b:Addr} {xs ys zs:List V}
theorem Inv.lset {its its':List Value} {n:Nat} {f:Array Value→Array Value} {t':Nat} (I:Inv X pins σ H s) (hH:H l=some (.lst xs))
  (e:s.heap.get? l=some { cls:=.type "list",data:=.seq its.toArray n }) (hf:f its.toArray=its'.toArray) (hv:Vals ys its') (hz:ys.length≤sizeLine) :
  Inv X pins σ (upd H l (.lst ys)) { s with heap:=s.heap.update l (Obj.mapSeq f),toks:=t' }:=by
 have q:=PySem.IsL.update e f
 rw [hf] at q
 refine I.write (x:=l) (e:=l) (by rw [hH];exact trivial) (.inl rfl) (fun b' u hb hu=>(Heap.get?_update_other s.heap (Obj.mapSeq f) (Ne.symm hb)).trans hu) ⟨_,q⟩ ?_
 exact⟨hz,its',_,hv,q⟩
theorem Inv.lnew {its:List Value} {t':Nat} (I:Inv X pins σ H s) (hv:Vals ys its) (hz:ys.length≤sizeLine) :
  Inv X pins σ (upd H s.heap.objs.size (.lst ys)) { s with heap:=s.heap.push { cls:=.type "list",data:=.seq its.toArray },toks:=t' } :=
 I.laid (fun _ _ q=>Heap.get?_push_of_some _ q) (Nat.le_refl _) ⟨hz,its,0,hv,Heap.get?_push_size _ rfl⟩
theorem Inv.fresh (I:Inv X pins σ H s):H s.heap.objs.size=none:=I.hok.fresh (Nat.le_refl _)
theorem Inv.lstM (I:Inv X pins σ H s) (hH:H l=some (.lst xs)):xs.length≤sizeLine∧∃ (its:List Value) (n:Nat),Vals xs its∧xs.length=its.length∧s.heap.get? l=some { cls:=.type "list",data:=.seq its.toArray n }:=by
 obtain ⟨z,its,n,r,e⟩:=I.hok l _ hH
 exact⟨z,its,n,r,r.length,e⟩
theorem notLongL {n:Nat} (h:n≤sizeLine):Builtin.List.listTooLong n=false:=by
 unfold Builtin.List.listTooLong
 exact decide_eq_false (by lia)
end
section
variable {X:Cx}
noncomputable def rAppend:V→List V→Hp→VK→Prop:=fun x vs H Q=>∃ l xs y,x=.ref l∧vs=[y]∧H l=some (.lst xs)∧xs.length<sizeLine∧Q .non (upd H l (.lst (xs++[y])))
theorem mt_append:MtM X "list.append" rAppend:=by
 intro pins s σ H x vs v us Q I rx rv h
 obtain ⟨l,xs,y,rfl,rfl,hH,hz,q⟩:=h
 cases rx
 obtain ⟨u,rfl,ru⟩:=rv.one
 obtain ⟨z,its,n,r,hl,e⟩:=I.lstM hH
 refine call_meets F.slot_list_append ⟨_,e,rfl⟩ F.entry_list_append (F.args_list_append_2 _ _) (PySem.list_append l its.toArray n u (by rw [List.size_toArray];lia)) ⟨e,?_⟩
 refine⟨.non,_,I.lset (its':=its++[u]) hH e (by simp) (r.append (.cons ru .nil)) ?_,rfl,q⟩
 rw [List.length_append,List.length_singleton]
 lia
noncomputable def rExtend:V→List V→Hp→VK→Prop:=fun x vs H Q=>∃ l b xs zs,x=.ref l∧vs=[.ref b]∧H l=some (.lst xs)∧H b=some (.lst zs)∧xs.length+zs.length≤sizeLine∧Q .non (upd H l (.lst (xs++zs)))
theorem mt_extend:MtM X "list.extend" rExtend:=by
 intro pins s σ H x vs v us Q I rx rv h
 obtain ⟨l,b,xs,zs,rfl,rfl,hH,hB,hz,q⟩:=h
 cases rx
 obtain ⟨u,rfl,ru⟩:=rv.one
 cases ru
 obtain ⟨z,its,n,r,hl,e⟩:=I.lstM hH
 obtain ⟨z2,its2,n2,r2,hl2,e2⟩:=I.lstM hB
 have hsz:its.toArray.size+its2.toArray.size≤sizeLine:=by rw [List.size_toArray,List.size_toArray];lia
 have hlong:¬ (!its.toArray.isEmpty && Builtin.List.listTooLong (its.toArray.size+its2.toArray.size))=true:=by
  rw [notLongL hsz,Bool.and_false]
  exact Bool.false_ne_true
 refine call_meets F.slot_list_extend ⟨_,e,rfl⟩ F.entry_list_extend (F.args_list_extend_2 _ _)
  (AutoSeq1.list_extend_list_list_0 l its.toArray n b its2.toArray n2 hlong (by rw [List.size_toArray];lia) (by lia)) ⟨e,e2,?_⟩
 refine⟨.non,_,I.lset (its':=its++its2) hH e (by simp) (r.append r2) ?_,rfl,q⟩
 rw [List.length_append]
 lia
noncomputable def rCat:R2:=fun x y H Q=>∃ l b xs zs,x=.ref l∧y=.ref b∧H l=some (.lst xs)∧H b=some (.lst zs)∧xs.length+zs.length≤sizeLine∧∀ p,H p=none→Q (.ref p) (upd H p (.lst (xs++zs)))
theorem op_cat:OpR X (binaryOp .Add) rCat:=by
 intro pins s σ H x y v u Q I rx ry h
 obtain ⟨l,b,xs,zs,rfl,rfl,hH,hB,hz,q⟩:=h
 cases rx
 cases ry
 obtain ⟨z,its,n,r,hl,e⟩:=I.lstM hH
 obtain ⟨z2,its2,n2,r2,hl2,e2⟩:=I.lstM hB
 refine PySem.P.add_list e e2 ?_ (by rw [List.size_toArray,List.size_toArray];lia)
 have ea:its.toArray++its2.toArray=(its++its2).toArray:=by simp
 rw [ea]
 exact⟨.ref _,_,I.lnew (t':=s.toks) (r.append r2) (by rw [List.length_append];lia),rfl,q _ I.fresh⟩
end
end L2
namespace Att
open PySem PySem.W PySem.Calls PyProof.Rows
theorem ints_of_wellAll {P:Params} {h:Heap}:∀ (ns:List Int) (vs:List Value),WellAll P h vs (ns.map WData.int)→IntsAre vs ns:=by
 intro ns
 induction ns with
 | nil =>
  intro vs w
  rw [List.map_nil] at w
  cases w
  exact .nil
 | cons n ns ih =>
  intro vs w
  rw [List.map_cons] at w
  cases w with
  | cons a b =>
   cases a
   exact .cons _ _ (ih _ b)
theorem script_of {l:OpenLaw} {n:Nat} (hn:l.most=some n) {P:Params} {h:Heap} {args:List WData} {vals:List Value}
  (hpre:l.row.toRowW.claim.pre args=true) (hwl:WellAll P h vals args) :
  ∃ a vs ns,vals=[Value.ref a]∧args=[WData.list (ns.map WData.int)]∧h.get? a=some { cls:=.type "list",data:=.seq vs.toArray }∧IntsAre vs ns∧ns.length≤n:=by
 have hsh:WShape.hasAll [] args [.list .int]=true:=(pre_splitW hpre).1
 have hc:l.pre.holds [] { args:=args }=true:=(pre_splitW hpre).2
 obtain ⟨d,r,rfl,h1,h2⟩:=hasAllW_cons hsh
 obtain rfl:=hasAllW_nil h2
 obtain ⟨xs,rfl,h3⟩:=hasW_list h1
 obtain ⟨ns,rfl⟩:=items_int h3
 have hlen:ns.length≤n:=by
  unfold OpenLaw.pre at hc
  have h4:(WTm.not (.lt (.lit (.int (n:Int))) (.len (.arg 0)))).holds [] { args:=[.list (ns.map .int)] }=true:=by
   have h4:=(holds_andW hc).1
   rw [hn] at h4
   exact h4
  have h5:=condW_of h4 (w_not (w_lt w_lit (w_len_list (w_arg rfl))))
  rw [List.length_map] at h5
  refine Nat.le_of_not_lt fun q=>?_
  have q':(n:Int)<((ns.length:Nat):Int):=by lia
  first
   | (rw [decide_eq_true q'] at h5;exact absurd h5 (by decide))
   | (simp at h5;lia)
 cases hwl with
 | cons w1 w2 =>
  cases w2
  cases w1 with
  | list ho hall=>exact⟨_,_,ns,rfl,rfl,ho,ints_of_wellAll ns _ hall,hlen⟩
theorem post_true (l:OpenLaw) (args:List WData):l.row.toRowW.claim.post args (.bool true) args=true :=
 postW_of (r:=l.row.toRowW) (X:=(true == true))
  (show WShape.has [] (.bool true) .bool=true by first|rfl|decide|simp [WShape.has,WShape.arms,WShape.armsAll])
  (show (WTm.eq .res (.lit (.bool true))).value [] { args:=args,res:=some (.bool true),after:=args }=some (.bool (true == true)) from w_eq_bool (w_res rfl) w_lit) rfl
theorem attach_call {l:OpenLaw} {n:Nat} {q:Program} {loose:List Str} {XP:(Str→Option Value)→Heap→Prop} {YP:World→Heap→Prop} {d:DefRec}
  (hn:l.most=some n) (hdf:d.params.defaults=[])
  (call:∀ (w:World) (s₀ s₁:Shared) (mg mb:Str→Option Value) (fa:Addr) (o:Obj) (pm cd doc:Value) (a:Addr) (vs:List Value) (ns:List Int),
   Ground q loose [] XP w s₀ mg mb s₁.heap→YP w s₁.heap →
   s₁.heap.get? fa=some o→o.data=.func (docDef d.name d.params d.body d.scope pm cd doc)→s₁.heap.CodeRec cd d.name→mg d.name=some (.ref fa) →
   s₁.heap.get? a=some { cls:=.type "list",data:=.seq vs.toArray }→IntsAre vs ns→ns.length≤n→s₁.gens=#[] →
   codeAny (model l.prog w) callerA (.call (.ref fa) ⟨[.ref a],[]⟩) (fun r s'=>r=.ok (.ret (.bool true))∧OldK s₁.heap s'.heap∧s'.os=s₁.os∧AllBare s'.gens) s₁) :
  WalkO q loose XP YP l.row.toRowW d [] (fun f vs=>PySem.call f vs):=by
 intro w s₀ s₁ mg mb G Y fa o pm cd doc dV kV ho hd hcd hD hmg hg args vals as hpre hlay hrd hwl hlo
 obtain rfl:dV=.none:=Dflts.none hD hdf
 obtain rfl:kV=.none:=Dflts.noKw hD
 obtain ⟨a,vs,ns,rfl,rfl,hobj,hints,hlen⟩:=script_of hn hpre hwl
 refine enter_call (codeAny_mono (call w s₀ s₁ mg mb fa o pm cd doc a vs ns G Y ho (fd_plain hd) hcd hmg hobj hints hlen hg) fun r s' hq=>?_)
 obtain ⟨rfl,h2,h3,h4⟩:=hq
 exact⟨.inl ⟨.bool true,.bool true,[],rfl,fun _=>rfl,.bool true,post_true l _,fun _=>⟨List.Pairwise.nil,fun _ hm=>(nomatch hm)⟩⟩,h2,h3,h4⟩
section
variable {prog:Program} {w:World} {A:Around} {E:Value→Shared→Prop} {s:Shared} {K:Frag}
noncomputable def noObjs (h:Heap):Heap:={ h with objs:=#[] }
theorem noObjs_get (h:Heap) (b:Addr):(noObjs h).get? b=none:=by
 cases e:(noObjs h).get? b with
 | none=>rfl
 | some o=>exact absurd (Heap.lt_size e) (Nat.not_lt_zero _)
noncomputable def ledger (h:Heap) (L d:Addr):List (Addr×Obj):=(List.range h.objs.size).filterMap fun a=>if a=L∨a=d then none else (h.get? a).map fun o=>(a,o)
theorem mem_ledger {h:Heap} {L d a:Addr} {o:Obj}:(a,o)∈ledger h L d↔a≠L∧a≠d∧h.get? a=some o:=by
 unfold ledger
 rw [List.mem_filterMap]
 constructor
 ·rintro ⟨b,_,e⟩
  split at e
  ·cases e
  ·rename_i hb
   obtain ⟨o',ho,e'⟩:=Option.map_eq_some_iff.mp e
   cases e'
   exact⟨fun q=>hb (.inl q),fun q=>hb (.inr q),ho⟩
 ·rintro ⟨n1,n2,ho⟩
  refine⟨a,List.mem_range.mpr (Heap.lt_size ho),?_⟩
  rw [if_neg (show ¬ (a=L∨a=d) from fun q=>q.elim n1 n2),ho] <;> rfl
theorem news_ledger {h:Heap} {L d:Addr} {od:Obj} (hne:d≠L) (ho:h.get? d=some od):News (noObjs h) L h ([]++(d,od)::ledger h L d):=by
 rintro ⟨a,o⟩ hp
 rcases List.mem_cons.mp hp with e|hp
 ·cases e
  exact⟨ho,hne,noObjs_get _ _⟩
 ·obtain ⟨n1,n2,e⟩:=mem_ledger.mp hp
  exact⟨e,n1,noObjs_get _ _⟩
theorem fr_all {h:Heap} {L:Addr} {m:Str→Option Value} (n:h.Ns L m):Fr (noObjs h) L h m :=
 ⟨n,fun b o e=>(by rw [noObjs_get] at e;cases e),Nat.zero_le _⟩
theorem set_field {x C dx L:Addr} {ox:Obj} {m:Str→Option Value} {es es':List DictEntry} {n n':Nat} {name:Str} {v:Value} {Q:Unit→Shared→Prop}
  (X:K.In s.heap) (I:PySem.W.InstAt s.heap x ox C (some (dictOf es n))) (hd:ox.dict=some dx) (hL:s.heap.Ns L m) (hne:dx≠L)
  (hs:findIn K (.ref C) "__setattr__"=some (some (.builtin "object.__setattr__"))) (hp:plainOver K C=true) (ht:takerIn K C name=some none) (hh:hasDictIn K C=true) (hl:(getL name es).isSome=true)
  (e:(putL name (PyData.keyHash w.params name) (.str name (s.toks+1)) v es,putN name es n)=(es',n')) (hz:es'.length≤1000)
  (h:∀ h':Heap,h'.Ns L m→h'.get? dx=some (dictOf es' n')→(∀ b o,b≠dx→b≠L→s.heap.get? b=some o→h'.get? b=some o)→Q () { s with heap:=h',toks:=s.toks+2 }) :
  wpAny (model prog w) A (setAttr (.ref x) name v) Q E s:=by
 obtain ⟨e1,e2⟩:=Prod.mk.inj e
 have hdx:s.heap.get? dx=some (dictOf es n):=by
  have:=I.dict
  rw [hd] at this
  exact this
 refine set_plain X I hs (osa_dict (s:={ s with toks:=s.toks+1 }) (h₀:=noObjs s.heap) (L:=L) (m:=m) (od:=dictOf es n) (od':=dictOf es' n') (es:=es') (n:=n') (pre:=[]) (post:=ledger s.heap L dx)
  (fr_all hL) (news_ledger hne hdx) X I hd hp ht hh hl (fun _ q=>nomatch q) (fun ⟨_,_⟩ q=>(mem_ledger.mp q).2.1) (by rw [putName_dict,e1,e2]) rfl hz fun h' F' N'=>?_)
 exact h h' F'.ns (N'.get (List.Mem.head _)) fun b o n1 n2 ho=>N'.get (List.Mem.tail _ (mem_ledger.mpr ⟨n2,n1,ho⟩))
end
end Att
namespace L2
open PySem PySem.Spec PyProof.Rows
theorem vals_ints:∀ {vs:List Value} {ns:List Int},IntsAre vs ns→Vals (ns.map V.int) vs
 | _,_,.nil=>.nil
 | _,_,.cons n t h=>.cons ⟨t,rfl⟩ (vals_ints h)
end L2
namespace L2
open PySem PySem.Spec PyProof.Rows
noncomputable def defArgs (s:Stmt):Arguments:=match s with
 | .FunctionDef _ a _ _ _ _ _ _ _ _=>a
 | _=>{ posonlyargs:=[],args:=[],vararg:=none,kwonlyargs:=[],kw_defaults:=[],kwarg:=none,defaults:=[] }
noncomputable def defBody (s:Stmt):List Stmt:=match s with
 | .FunctionDef _ _ b _ _ _ _ _ _ _=>b
 | _=>[]
noncomputable def defScope (s:Stmt):Scope:=match s with
 | .FunctionDef _ _ _ _ _ _ sc _ _ _=>sc
 | _=>{ kind:=.function,names:=[],isGenerator:=false,isCoroutine:=false }
noncomputable abbrev CX0:CXT:=fun _ _ _ _ _ _=>False
noncomputable abbrev E0:XK:=fun _ _ _=>False
theorem pass0 {X:Cx}:Passes CX0 X E0:=fun _ _ _ _ _ _ _ h=>h.elim
structure Fun (K:PySem.W.Frag) (x qual:Str) (st:Stmt) (f:Addr) (fd:FuncData):Prop where
 ex:∃ (oc:Value) (od:Option Addr) (kV doc pm:Value) (an:Option Addr) (cdv ct:Value) (osl:Array (Option Value)),
  fd=PySem.W.fnOf x qual (defArgs st) (defBody st) (defScope st) .none kV doc pm an cdv ct∧K.lookup f=some ⟨oc,od,.func fd,osl⟩∧PySem.W.codeIn K cdv qual=true
 kp:PySem.W.keepIn K (.ref f)=true
section
variable {P:Program} {w:World} {K:PySem.W.Frag} {mg:Str→Option Value} {base:Heap}
theorem Fun.ok {x qual:Str} {st:Stmt} {f:Addr} {fd:FuncData} {N ps:List Str} {k:Nat} {sp:Sp} (F:Fun K x qual st f fd) (S:FnScope N ps (defScope st)) (len:∀ vs H Q E,sp vs H Q E→vs.length=ps.length)
  (hbody:∀ (cdv:Value) (A:Around) (outer:List Env) (s:Shared) (H:Hp) (vs:List V) (Q:VK) (E:XK),Room k (A.deeper (envOfC qual (defScope st) s.heap.objs.size f cdv))→sp vs H Q E →
   ∃ t,PSs (cxOf CX0 P w K mg base N qual (defScope st) f cdv A outer s H E).nox (defBody st) t∧t { nx:=fun _ H'=>Q .non H',rt:=Q } (start N vs) H):FnOk P w K mg base CX0 (k+1) f fd ps sp:=by
 obtain ⟨oc,od,kV,doc,pm,an,cdv,ct,osl,rfl,lk,hcd⟩:=F.ex
 refine fn_of lk hcd S len fun A outer s H vs Q E hr hsp=>?_
 obtain ⟨t,h,q⟩:=hbody cdv A outer s H vs Q E hr hsp
 exact⟨t,h.nox,q⟩
theorem Fun.binds {x qual:Str} {st:Stmt} {f:Addr} {fd:FuncData} {ps:List Str} (F:Fun K x qual st f fd)
  (h:∀ (kV doc pm:Value) (an:Option Addr) (cdv ct:Value) (us:List Value),us.length=ps.length→bindArgs (PySem.W.fnOf x qual (defArgs st) (defBody st) (defScope st) .none kV doc pm an cdv ct) ⟨us,[]⟩=pure (ps.zip us)):Binds K fd ps []:=by
 obtain ⟨oc,od,kV,doc,pm,an,cdv,ct,osl,rfl,lk,hcd⟩:=F.ex
 exact .all (h kV doc pm an cdv ct)
theorem fun_mk {x qual:Str} {st:Stmt} {f:Addr} {oc:Value} {od an:Option Addr} {osl:Array (Option Value)} {kV doc pm cdv ct:Value} (l:K.lookup f=some ⟨oc,od,.func (PySem.W.fnOf x qual (defArgs st) (defBody st) (defScope st) .none kV doc pm an cdv ct),osl⟩)
  (c:PySem.W.codeIn K cdv qual=true) (k:PySem.W.keepIn K (.ref f)=true):Fun K x qual st f (PySem.W.fnOf x qual (defArgs st) (defBody st) (defScope st) .none kV doc pm an cdv ct):=⟨⟨oc,od,kV,doc,pm,an,cdv,ct,osl,rfl,l,c⟩,k⟩
end
theorem hu_of {A:Around} {k:Nat} (hr:Room k A):A.units+1<cLine:=Nat.lt_of_le_of_lt (Nat.add_le_add_left (by decide:1≤64) _) hr.units
theorem small1000 {n:Nat} (h:n≤1000):n<sizeLine:=Nat.lt_of_le_of_lt h (by decide)
section
variable {X:Cx}
theorem pv (i:Nat) {x:Str} {pos:Pos} (hN:X.N[i]?=some x:=by rfl) (hv:Vis X.env.scope x:=by first|exact Or.inl rfl|exact Or.inr (Or.inl rfl)|exact Or.inr (Or.inr rfl)) (hd:(x == ("__debug__":Str))=false:=by decide)
  (hcd:(x == ("__classdict__":Str))=false:=by decide):PE X (.Name x pos) (tVar i):=pe_var hN hv hd hcd
end
theorem iteF {A B:Prop} (h:B):if false=true then A else B:=by
 rw [if_neg Bool.false_ne_true]
 exact h
theorem iteT {A B:Prop} (h:A):if true=true then A else B:=by
 rw [if_pos rfl]
 exact h
noncomputable def Same (H H':Hp):Prop:=∀ b o,H b=some o→H' b=some o
theorem Same.refl (H:Hp):Same H H:=fun _ _ h=>h
theorem Same.trans {H H1 H2:Hp} (a:Same H H1) (b:Same H1 H2):Same H H2:=fun c o h=>b c o (a c o h)
theorem Same.seq {K:PySem.W.Frag} {H H':Hp} {a:Addr} {xs:List V} (e:Same H H') (h:SqL K H a xs):SqL K H' a xs:=by
 rcases h with (h|⟨o,h⟩)|h
 ·exact .inl (.inl (e _ _ h))
 ·exact .inl (.inr ⟨o,e _ _ h⟩)
 ·exact .inr h
end L2
namespace L2
open PySem
noncomputable def clOf (cells:List (Str×Addr)):List (Str×NameKind)→List (Str×Addr)→List (Str×Addr)
 | [],acc=>acc
 | (n,k)::r,acc=>clOf cells r (if k == .free then (match cells.lookup n with|some c=>(n,c)::acc|none=>acc) else acc)
theorem closure_eq {scope:Scope} {env:Env} (h:∀ p∈scope.names,p.2=.free→∃ c,env.cells.lookup p.1=some c):closureFor scope env=pure (clOf env.cells scope.names []):=by
 have key:∀ (names:List (Str×NameKind)) (acc:List (Str×Addr)),(∀ p∈names,p.2=.free→∃ c,env.cells.lookup p.1=some c) →
   (forIn names acc (fun (x:Str×NameKind) (cs:List (Str×Addr))=>if (x.2 == NameKind.free)=true then (do let c ← cellOf env x.1;pure (ForInStep.yield ((x.1,c)::cs))) else pure (ForInStep.yield cs)):Sem (List (Str×Addr)))=pure (clOf env.cells names acc):=by
  intro names
  induction names with
  | nil=>intro acc _;rfl
  | cons p r ih =>
   intro acc hp
   obtain ⟨n,k⟩:=p
   rw [List.forIn_cons]
   by_cases hk:k=.free
   ·subst hk
    obtain ⟨c,hc⟩:=hp (n,.free) List.mem_cons_self rfl
    have e:cellOf env n=pure c:=by unfold cellOf;rw [show env.cells.lookup n=some c from hc]
    show (if (NameKind.free == NameKind.free)=true then _ else _) >>= _=_
    rw [if_pos (by rfl)]
    dsimp only
    rw [e]
    show (forIn r ((n,c)::acc) _:Sem _)=_
    rw [ih _ fun q hq=>hp q (List.mem_cons_of_mem _ hq)]
    simp [clOf,show env.cells.lookup n=some c from hc]
   ·have hk':(k == NameKind.free)=false:=by simpa using hk
    show (if (k == NameKind.free)=true then _ else _) >>= _=_
    rw [if_neg (by rw [hk'];exact Bool.false_ne_true)]
    show (forIn r acc _:Sem _)=_
    rw [ih _ fun q hq=>hp q (List.mem_cons_of_mem _ hq)]
    simp [clOf,hk']
 unfold closureFor
 have k:=key scope.names [] h
 exact (congrArg (fun m:Sem (List (Str×Addr))=>m >>= fun cs=>pure cs) k).trans rfl
theorem clOf_sub {cells:List (Str×Addr)}:∀ {names:List (Str×NameKind)} {acc:List (Str×Addr)},(∀ x c,acc.lookup x=some c→cells.lookup x=some c)→∀ x c,(clOf cells names acc).lookup x=some c→cells.lookup x=some c
 | [],acc,h,x,c,e=>h x c e
 | (n,k)::r,acc,h,x,c,e=>by
  refine clOf_sub (names:=r) (fun y d q=>?_) x c e
  split at q
  ·split at q
   ·rename_i c0 hc0
    rw [List.lookup_cons] at q
    split at q
    ·rename_i hy
     have hy':y=n:=by simpa using hy
     subst hy'
     rw [hc0];exact q
    ·exact h y d q
   ·exact h y d q
  ·exact h y d q
theorem clOf_has {cells:List (Str×Addr)}:∀ {names:List (Str×NameKind)} {acc:List (Str×Addr)} {x:Str},(acc.lookup x).isSome=true∨((x,NameKind.free)∈names∧(cells.lookup x).isSome=true)→((clOf cells names acc).lookup x).isSome=true
 | [],acc,x,h=>by
  rcases h with h|h
  ·exact h
  ·exact absurd h.1 (by simp)
 | (n,k)::r,acc,x,h=>by
  refine clOf_has (names:=r) ?_
  rcases h with h|⟨hm,hc⟩
  ·left
   split
   ·split
    ·rw [List.lookup_cons];split
     ·rfl
     ·exact h
    ·exact h
   ·exact h
  ·rcases List.mem_cons.mp hm with e|hm
   ·injection e with e1 e2
    subst e1;subst e2
    left
    rw [if_pos (by rfl)]
    cases hq:cells.lookup x with
    | none=>rw [hq] at hc;cases hc
    | some c=>simp
   ·exact .inr ⟨hm,hc⟩
section
variable {prog:Program} {w:World} {A:Around}
theorem comp_loop {R:Result→Shared→Prop} {s:Shared} {elt target iter:Expr} {ifs:List Expr} {scope:Scope} {pos:Pos} {it acc:Value} {env:Env} {E:Value→Shared→Prop} (hE:∀ e s',E e s'→notedBy (model prog w) A env (fun e s'=>R (.error e) s') e s') (I:Nat→Shared→Prop)
  (turn:∀ n s,I n s→wpAny (model prog w) A (pyNext it) (fun r s₁=>match r with
   | none=>R (.ok .next) s₁
   | some v=>wpAny (model prog w) A (letOwnedTupleGo target it v) (fun _ s₁'=>wpAny (model prog w) A (assign target env v) (fun _ s₂ =>
     wpAny (model prog w) A (forIn ifs true fun c r=>if r=true then do let ok ← isTrue c env (eval c env);pure (ForInStep.yield ok) else pure (ForInStep.yield r)) (fun ok s₃ =>
      if ok=true then wpAny (model prog w) A (eval elt env) (fun x s₄ =>
       wpAny (model prog w) A (call (.builtin "list.append") [acc,x]) (fun _ s₅=>∃ m,m<n∧I m s₅) E s₄) E s₃
      else ∃ m,m<n∧I m s₃) E s₂) E s₁') E s₁) E s)
  (n:Nat) (h:I n s) :
  codeAny (model prog w) A (.compLoop (.ListComp elt [⟨target,iter,ifs,0⟩] scope pos) 0 it acc env) R s:=by
 have noted:∀ {α:Type} {t:Sem α} {Q:α→Shared→Prop} {s:Shared},wpAny (model prog w) A t Q E s→wpAny (model prog w) A t Q (notedBy (model prog w) A env fun e s'=>R (.error e) s') s:=fun q=>wpAny_mono q (fun _ _ z=>z) hE
 refine codeAny_loop rfl I (fun n s hI=>?_) n h
 show wpAny _ A ((compTurn (.ListComp elt [⟨target,iter,ifs,0⟩] scope pos) 0 it acc env).onRaise (fun x=>do noteFrame x env;theTreesLotGoes x)) _ _ s
 refine wpAny_noted ?_
 rw [compTurn_list]
 refine wpAny_bind (wpAny_standAt (wpAny_bind (wpAny_mono (noted (turn n s hI)) (fun r s₁ h₁=>?_) fun _ _ h'=>h')))
 cases r with
 | none=>exact wpAny_pure h₁
 | some v =>
  refine wpAny_bind (wpAny_mono (noted h₁) (fun _ s₁' h₁'=>?_) fun _ _ h'=>h')
  refine wpAny_bind (wpAny_mono (noted h₁') (fun _ s₂ h₂=>wpAny_bind (wpAny_mono (noted h₂) (fun ok s₃ h₃=>?_) fun _ _ h'=>h')) fun _ _ h'=>h')
  cases ok with
  | false=>exact wpAny_pure ⟨rfl,h₃⟩
  | true =>
   simp only [if_true] at h₃ ⊢
   exact wpAny_bind (wpAny_bind (wpAny_mono (noted h₃) (fun x s₄ h₄=>wpAny_bind (wpAny_mono (noted h₄) (fun _ s₅ h₅=>wpAny_pure (wpAny_pure ⟨rfl,h₅⟩)) fun _ _ h'=>h')) fun _ _ h'=>h'))
end
end L2
namespace L2
open PySem PySem.Spec PyProof.Rows
noncomputable abbrev compCx (X:Cx) (pins:List (Addr×Obj)) (N:List Str) (scope:Scope) (C:Addr) (s:Shared) (H:Hp) (fp:List Addr):Cx :=
 { X with N:=N,s₀:=s,H₀:=H,env:=compEnvC scope (clOf X.env.cells scope.names []) C X.env,outer:=X.stack,stack:=X.stack,ex:=fp,fn:=fun _=>false,pn:=X.pn++pins,xe:=fun _ _=>False }
noncomputable def pick (ix:List (Option Nat)) (σ:St):St:=ix.map fun o=>o.bind fun j=>(σ[j]?).join
noncomputable def IxOk (X:Cx) (scope:Scope):List Str→List (Option Nat)→Prop
 | [],[]=>True
 | _::N,none::ix=>IxOk X scope N ix
 | x::N,some j::ix=>(X.N[j]?=some x∧Vis X.env.scope x∧(X.env.scope.names.lookup x == some .local)=false∧scope.names.lookup x=some .free)∧IxOk X scope N ix
 | _,_=>False
theorem IxOk.len {X:Cx} {scope:Scope}:∀ {N:List Str} {ix:List (Option Nat)},IxOk X scope N ix→ix.length=N.length
 | [],[],_=>rfl
 | [],none::_,h=>h.elim
 | [],some _::_,h=>h.elim
 | _::_,[],h=>h.elim
 | _::N,none::ix,h=>by simp only [List.length_cons];rw [IxOk.len (N:=N) (ix:=ix) h]
 | _::N,some _::ix,h=>by simp only [List.length_cons];rw [IxOk.len (N:=N) (ix:=ix) h.2]
theorem IxOk.get {X:Cx} {scope:Scope}:∀ {N:List Str} {ix:List (Option Nat)} {i j:Nat} {x:Str},IxOk X scope N ix→N[i]?=some x→ix[i]?=some (some j) →
  X.N[j]?=some x∧Vis X.env.scope x∧(X.env.scope.names.lookup x == some .local)=false∧scope.names.lookup x=some .free
 | [],[],_,_,_,_,h,_=>by simp at h
 | [],none::_,_,_,_,h,_,_=>h.elim
 | [],some _::_,_,_,_,h,_,_=>h.elim
 | _::_,[],_,_,_,h,_,_=>h.elim
 | _::N,none::ix,0,_,_,_,_,e=>by simp at e
 | _::N,none::ix,i+1,_,_,h,h1,e=>IxOk.get (N:=N) (ix:=ix) (i:=i) h (by simpa using h1) (by simpa using e)
 | y::N,some k::ix,0,j,x,h,h1,e=>by
  simp at h1 e
  subst h1;subst e
  exact h.1
 | _::N,some _::ix,i+1,_,_,h,h1,e=>IxOk.get (N:=N) (ix:=ix) (i:=i) h.2 (by simpa using h1) (by simpa using e)
theorem pick_get {ix:List (Option Nat)} {σ:St} {i:Nat} {v:V} (h:(pick ix σ)[i]?=some (some v)):∃ j,ix[i]?=some (some j)∧σ[j]?=some (some v):=by
 unfold pick at h
 rw [List.getElem?_map] at h
 cases e:ix[i]? with
 | none=>rw [e] at h;cases h
 | some o =>
  rw [e] at h
  cases o with
  | none=>cases h
  | some j =>
   refine⟨j,rfl,?_⟩
   have h':(σ[j]?).join=some v:=Option.some.inj h
   cases q:σ[j]? with
   | none=>rw [q] at h';cases h'
   | some z=>rw [q] at h';have h2:z=some v:=h';rw [h2]
theorem relabel_not_local {env : Env} : ∀ {names : List (Str × NameKind)} {x : Str}, (∀ y ∈ names, y.2 ≠ .cell) →
    ((names.map fun (n, k) => if (k == NameKind.free && env.scope.kind == .function && env.kindOf n == some .cell) then (n, NameKind.cell) else (n, k)).lookup x=some .cell ∨
     (names.map fun (n, k) => if (k == NameKind.free && env.scope.kind == .function && env.kindOf n == some .cell) then (n, NameKind.cell) else (n, k)).lookup x=some .free) → names.lookup x=some .free
  | [], _, _, h => by simp at h
  | (n, k)::r, x, hc, h => by
    have ih := @relabel_not_local env r x fun y hy => hc y (List.mem_cons_of_mem _ hy)
    have hk : k ≠ .cell := hc (n, k) List.mem_cons_self
    rw [List.map_cons] at h
    cases hx : x == n with
    | true =>
      rw [List.lookup_cons, hx]
      by_cases hcnd : (k == NameKind.free && env.scope.kind == .function && env.kindOf n == some .cell)=true
      · have : k=.free := by
          simp only [Bool.and_eq_true, beq_iff_eq] at hcnd
          exact hcnd.1.1
        rw [this]
      · simp only [hcnd, Bool.false_eq_true, if_false, List.lookup_cons, hx] at h
        rcases h with h|h
        · exact absurd (Option.some.inj h) hk
        · exact h
    | false =>
      rw [List.lookup_cons, hx]
      refine ih ?_
      by_cases hcnd : (k == NameKind.free && env.scope.kind == .function && env.kindOf n == some .cell)=true
      · simp only [hcnd, if_true, List.lookup_cons, hx] at h
        exact h
      · simp only [hcnd, Bool.false_eq_true, if_false, List.lookup_cons, hx] at h
        exact h
theorem relabel_free {env : Env} : ∀ {names : List (Str × NameKind)} {x : Str}, names.lookup x=some .free →
    ((names.map fun (n, k) => if (k == NameKind.free && env.scope.kind == .function && env.kindOf n == some .cell) then (n, NameKind.cell) else (n, k)).lookup x=some .cell ∨
     (names.map fun (n, k) => if (k == NameKind.free && env.scope.kind == .function && env.kindOf n == some .cell) then (n, NameKind.cell) else (n, k)).lookup x=some .free)
  | [], _, h => by simp at h
  | (n, k)::r, x, h => by
    have ih := @relabel_free env r x
    rw [List.map_cons]
    cases hx : x == n with
    | true =>
      rw [List.lookup_cons, hx] at h
      have hk : k=.free := Option.some.inj h
      subst hk
      by_cases hcnd : (NameKind.free == NameKind.free && env.scope.kind == .function && env.kindOf n == some .cell)=true
      · simp only [hcnd, if_true, List.lookup_cons, hx];exact .inl trivial
      · simp only [hcnd, Bool.false_eq_true, if_false, List.lookup_cons, hx];exact .inr trivial
    | false =>
      rw [List.lookup_cons, hx] at h
      by_cases hcnd : (k == NameKind.free && env.scope.kind == .function && env.kindOf n == some .cell)=true
      · simp only [hcnd, if_true, List.lookup_cons, hx];exact ih h
      · simp only [hcnd, Bool.false_eq_true, if_false, List.lookup_cons, hx];exact ih h
noncomputable def PTs (Y:Cx):List Expr→TT→Prop
 | [],t=>t=fun _ H Q=>Q true H
 | [c],t=>PT Y c t
 | _,_=>False
noncomputable def CompGoal (ix:List (Option Nat)) (g:TG) (tt:TT) (te:TE) (σ:St) (Q:VK) (J:It) (H1:Hp):Prop:=∀ l,H1 l=none→∃ W:Nat→Nat→St→List V→Hp→Prop,
 (∃ m,W 0 m (pick ix σ) [] (upd H1 l (.lst [])))∧∀ i m σ1 ys H',W i m σ1 ys H'→H' l=some (.lst ys)∧((J.stop i H'∧Q (.ref l) H') ∨
  (J.go i H'∧∃ m',m'<m∧∀ x H2,J.yld i H' x H2→g x σ1 H2 fun σ2 H3=>tt σ2 H3 fun b H4=>if b=true then te σ2 H4 fun y H5=>H5 l=some (.lst ys)∧ys.length<sizeLine∧W (i+1) m' σ2 (ys++[y]) (upd H5 l (.lst (ys++[y]))) else W (i+1) m' σ2 ys H4))
noncomputable def tComp (ix:List (Option Nat)) (wi:TI) (g:TG) (tt:TT) (te:TE):TE:=fun σ H Q=>wi σ H fun J H1=>CompGoal ix g tt te σ Q J H1
theorem Un.letGo {fs ex:List Addr} {H H':Hp} {h h1 h2:Heap} {C:Addr} (u:Un fs ex H H' h h1) (hC:h.objs.size≤C) (sb:Heap.SameBut C h1 h2):Un fs ex H H' h h2:=by
 have ne:∀ b o,h.get? b=some o→b≠C:=fun b o e=>Nat.ne_of_lt (Nat.lt_of_lt_of_le (Heap.lt_size e) hC)
 refine⟨fun b o e n hb hx=>(sb.2 b (ne b o e)).trans (u.keep b o e n hb hx),fun b o e n hb hx=>?_,u.free,fun b o e hx=>?_,u.tups,u.frzs,u.tbls⟩
 ·obtain ⟨sl,q⟩:=u.slot b o e n hb hx
  exact⟨sl,(sb.2 b (ne b o e)).trans q⟩
 ·obtain ⟨o',q⟩:=u.there b o e hx
  exact⟨o',(sb.2 b (ne b o e)).trans q⟩
theorem HOk.letGo {P:Program} {w:World} {H:Hp} {h h':Heap} {C:Addr} (x:HOk P w H h) (hC:H C=none) (sb:Heap.SameBut C h h'):HOk P w H h':=fun a o e=>by
 have na:∀ b u,H b=some u→b≠C:=fun b u q z=>by rw [z,hC] at q;cases q
 refine (x a o e).stay (fun b u hb q=>(sb.2 b ?_).trans q) (fun _ q=>q) fun _ _ q=>q
 rcases hb with rfl|hb
 ·exact na _ _ e
 ·exact na _ _ hb
section
variable {X:Cx}
theorem wp_tests {Y:Cx} {ifs:List Expr} {tt:TT} (ht:PTs Y ifs tt) {pins:List (Addr×Obj)} {s:Shared} {σ:St} {H:Hp} {Q:Bool→Hp→Prop} (I:Inv Y pins σ H s) (h:tt σ H Q) :
  wpAny (model Y.prog Y.w) Y.A (forIn ifs true fun c r=>if r=true then do let ok ← isTrue c Y.env (eval c Y.env);pure (ForInStep.yield ok) else pure (ForInStep.yield r)) (TP Y pins σ Q) Y.xe s:=by
 match ifs,ht with
 | [],ht =>
  have e:tt=fun _ H Q=>Q true H:=ht
  subst e
  exact wpAny_tests_nil ⟨H,I,h⟩
 | [c],ht=>exact wpAny_tests_one ((show PT Y c tt from ht) pins s σ H Q I h)
 | _::_::_,ht=>exact False.elim ht
theorem pe_comp {tg iter elt:Expr} {ifs:List Expr} {scope:Scope} {pos:Pos} {N:List Str} {ix:List (Option Nat)} {wi:TI} {g:TG} {tt:TT} {te:TE}
  (hc:X.calm=true) (hi:PI X tg iter wi)
  (hg:∀ pins C s H fp,PG (compCx X pins N scope C s H fp) tg g)
  (ht:∀ pins C s H fp,PTs (compCx X pins N scope C s H fp) ifs tt)
  (he:∀ pins C s H fp,PE (compCx X pins N scope C s H fp) elt te)
  (hk:scope.kind=.function) (hcell:∀ y∈scope.names,y.2≠.cell) (hnames:∀ y∈scope.names,y.2=.local→scope.names.lookup y.1=some .local)
  (hfr0:(scope.names.all fun y=>!(y.2 == NameKind.free) || (X.env.cells.lookup y.1).isSome)=true) (hix:IxOk X scope N ix)
  (hs:∀ x,foldedSetIterable iter X.env x=pure x:=by intro _;rfl) :
  PE X (.ListComp elt [⟨tg,iter,ifs,0⟩] scope pos) (tComp ix wi g tt te):=by
 intro pins s σ H Q I h
 have hfr:∀ y∈scope.names,y.2=.free→(X.env.cells.lookup y.1).isSome=true:=fun y hy e=>by
  have z:=List.all_eq_true.mp hfr0 y hy
  rw [e] at z
  simpa using z
 have hfr':∀ p∈scope.names,p.2=.free→∃ c,X.env.cells.lookup p.1=some c:=fun p hp e=>Option.isSome_iff_exists.mp (hfr p hp e)
 have clsub:∀ x c,(clOf X.env.cells scope.names []).lookup x=some c→X.env.cells.lookup x=some c:=clOf_sub (fun x c q=>by simp at q)
 have clhas:∀ x,scope.names.lookup x=some .free→∃ c,(clOf X.env.cells scope.names []).lookup x=some c:=fun x hx=>by
  have hm:=PySem.mem_of_lookup hx
  exact Option.isSome_iff_exists.mp (clOf_has (.inr ⟨hm,hfr _ hm rfl⟩))
 rw [eval_ListComp]
 refine wpAny_comprehension_free (use:=none) rfl hs (closure_eq hfr') hk hnames (thn (hi pins s σ H _ I h) fun v s1 h1=>thn h1 fun itv s2 h2=>?_)
 obtain ⟨it,fp,tn,J,H2,e,I2,T,st2,f2,hW⟩:=h2
 subst e
 have hfree2:H2 s2.heap.objs.size=none:=I2.hok.fresh (Nat.le_refl _)
 obtain ⟨W,⟨m0,w0⟩,turn⟩:=hW s2.heap.objs.size hfree2
 refine wpAny_newObj_type ?_
 have I3:Inv X pins σ (upd H2 s2.heap.objs.size (.lst [])) { s2 with heap:=s2.heap.push { cls:=.type "list",data:=.seq ([]:List Value).toArray } }:=I2.lnew (its:=[]) (t':=s2.toks) .nil (Nat.zero_le _)
 have f3:∀ b∈fp,FpOk X pins (upd H2 s2.heap.objs.size (.lst [])) b:=fun b hb=>by
  refine⟨?_,(f2 b hb).2⟩
  obtain ⟨o,eo,_⟩:=T.obj _ _ st2 b hb
  rw [upd_ne (Nat.ne_of_lt (Heap.lt_size eo))]
  exact (f2 b hb).1
 have st3:tn 0 (s2.heap.push { cls:=.type "list",data:=.seq ([]:List Value).toArray }):=T.keep _ _ _ st2 fun b _ o e=>Heap.get?_push_of_some _ e
 generalize hs3:({ s2 with heap:=s2.heap.push { cls:=.type "list",data:=.seq ([]:List Value).toArray } }:Shared)=s3 at I3
 have st3:tn 0 s3.heap:=by rw [← hs3];exact st3
 generalize hH3:upd H2 s2.heap.objs.size (.lst [])=H3 at I3 f3 w0
 generalize hacc:s2.heap.objs.size=acc at *
 refine wpAny_newFunctionEnv hcell (by intro y hy;simp at hy) (fun h₁ hns₁ hsb₁=>?_) hk
 have old:∀ b o,s3.heap.get? b=some o→h₁.get? b=some o:=fun b o q=>hsb₁.extBut b o (Nat.ne_of_lt (Heap.lt_size q)) (Heap.get?_push_of_some _ q)
 have hCfree:H3 s3.heap.objs.size=none:=I3.hok.fresh (Nat.le_refl _)
 have fpl:∀ b∈fp,b<s3.heap.objs.size:=fun b hb=>by
  obtain ⟨o,eo,_⟩:=T.obj _ _ st3 b hb
  exact Heap.lt_size eo
 have nstk:∀ b,b≠X.env.locals→b∉X.fs→b∉frs X.stack:=fun b h1 h2 z=>by
  rcases List.mem_cons.mp (I3.stkSub b z) with q|q
  ·exact h1 q
  ·exact h2 q
 have clt:∀ x c,X.env.cells.lookup x=some c→c<s3.heap.objs.size:=fun x c q=>by
  obtain ⟨v,z⟩:=I3.cell x c q
  exact z.lt
 have YI:∀ (h':Heap) (m:Str→Option Value),(∀ b o,s3.heap.get? b=some o→h'.get? b=some o)→h'.Ns s3.heap.objs.size m →
   Inv (compCx X pins N scope s3.heap.objs.size s3 H3 fp) [] (pick ix σ) H3 { s3 with heap:=h',toks:=s3.toks+([]:List (Str×Value)).length }:=by
  intro h' m hk' hn
  refine⟨⟨I3.ok.mod,hk,I3.ok.glob,I3.ok.blt,Nat.le_refl _,fun x y c q1 q2=>I3.ok.inj x y c (clsub x c q1) (clsub y c q2),fun x hx=>clhas x (relabel_not_local hcell hx),fun x c hf _=>absurd hf Bool.false_ne_true,
   I3.ok.hd,I3.ok.frames,.inl rfl,fun b hb=>⟨Nat.ne_of_lt (fpl b hb),fun x c q=>(f3 b hb).2.2.2.2.1 x c (clsub x c q)⟩,I3.bs,Nat.le_trans I3.ok.bsz I3.sz,fun b o e hb=>?_,fun b hb=>nstk b (f3 b hb).2.1 (f3 b hb).2.2.1,I3.stack,I3.stkFree⟩,
   rfl,I3.bare,Un.kept hk',⟨m,hn,fun i x v h1 h2 h3=>?_⟩,fun x c q=>?_,hCfree,fun x c q=>I3.freeC x c (clsub x c q),fun p hp=>?_,I3.hok.kept hk',?_⟩
  ·have q:=(I3.bs b o e).2
   rcases (f3 b hb).2.2.2.1 with z|z
   ·exact I3.ok.noex b o e z
   ·exact absurd (Nat.lt_of_lt_of_le (Heap.lt_size e) (Nat.le_trans I3.ok.bsz z)) (Nat.lt_irrefl _)
  ·obtain ⟨j,e1,e2⟩:=pick_get h2
   obtain ⟨a1,a2,a3,a4⟩:=hix.get h1 e1
   obtain ⟨mX,hnX,hlX⟩:=I3.loc
   obtain ⟨u,ru,l⟩:=hlX j x v a1 e2 a2
   refine⟨u,ru,?_⟩
   rcases l with ⟨l1,_⟩|⟨_,c,lc,z⟩
   ·have l1':X.env.scope.names.lookup x=some .local:=l1
    rw [l1'] at a3
    exact absurd a3 (by decide)
   ·obtain ⟨c',hc'⟩:=clhas x a4
    have ec:=clsub x c' hc'
    rw [lc] at ec
    have ec':c=c':=Option.some.inj ec
    subst ec'
    exact .inr ⟨relabel_free a4,c,hc',z.keeps hk'⟩
  ·obtain ⟨v,z⟩:=I3.cell x c (clsub x c q)
   exact⟨v,z.keeps hk'⟩
  ·have hp':p∈X.pn++pins:=by simpa using hp
   obtain ⟨a1,a2,a3,a4,a5⟩:=I3.pin p hp'
   exact⟨hk' _ _ a1,a2,Nat.ne_of_lt (Heap.lt_size a1),nstk p.1 a3 a4,a5⟩
  ·show (pick ix σ).length=N.length
   unfold pick
   rw [List.length_map]
   exact hix.len
 have fpY:∀ {pl:List (Addr×Obj)} {H':Hp},pl=[]→(∀ b∈fp,H' b=none)→∀ b∈fp,FpOk (compCx X pins N scope s3.heap.objs.size s3 H3 fp) pl H' b:=fun {pl H'} epl hn b hb=>by
  obtain ⟨f0,f1,f2',f3',f4,f5⟩:=f3 b hb
  subst epl
  exact⟨hn b hb,Nat.ne_of_lt (fpl b hb),nstk b f1 f2',.inl hb,fun x c q=>f4 x c (clsub x c q),fun p hp=>f5 p (by simpa using hp)⟩
 have loop:∀ s4:Shared,(∃ m,s4={ s3 with heap:=h₁,toks:=s3.toks+([]:List (Str×Value)).length }∧h₁.Ns s3.heap.objs.size m) →
   codeAny (model X.prog X.w) X.A (.compLoop (.ListComp elt [⟨tg,iter,ifs,0⟩] scope pos) 0 (.ref it) (.ref acc) (compEnvC scope (clOf X.env.cells scope.names []) s3.heap.objs.size X.env))
    (compPost (model X.prog X.w) X.A X.xe none (EP X pins σ Q) (.ref acc) s3.heap.objs.size) s4:=by
  rintro s4 ⟨m4,rfl,hn4⟩
  refine comp_loop (E:=fun _ _=>False) (fun _ _ z=>z.elim)
   (fun n s'=>∃ i σ' ys H',Inv (compCx X pins N scope s3.heap.objs.size s3 H3 fp) [] σ' H' s'∧tn i s'.heap∧(∀ b∈fp,H' b=none)∧W i n σ' ys H') ?_ m0
   ⟨0,pick ix σ,[],H3,YI h₁ m4 old hn4,T.keep _ _ _ st3 fun b _ o q=>old b o q,fun b hb=>(f3 b hb).1,w0⟩
  rintro n s5 ⟨i,σ5,ys,H5,I5,st5,fr5,w5⟩
  obtain ⟨hl5,hstep⟩:=turn i n σ5 ys H5 w5
  rcases hstep with ⟨stop,q⟩|⟨go,m',hm',step⟩
  ·refine thn (T.done (compCx X pins N scope s3.heap.objs.size s3 H3 fp) rfl rfl rfl hc i [] s5 σ5 H5 (fun _ _=>False) I5 (fpY rfl fr5) st5 stop) fun r s6 ⟨hr,I6⟩=>?_
   subst hr
   obtain ⟨m6,hn6,_⟩:=I6.loc
   refine⟨m6,hn6,fun h' sb=>?_⟩
   refine⟨.ref acc,H5,I3.call' (ch:=fp) I6.os (I6.base.letGo (Nat.le_refl _) sb) (I6.hok.letGo I6.free sb) I6.bare fun b hb=>?_,rfl,q⟩
   obtain ⟨f0,f1,f2',f3',f4,f5⟩:=f3 b hb
   exact⟨f3',f1,f4,f5⟩
  ·refine thn (T.item (compCx X pins N scope s3.heap.objs.size s3 H3 fp) rfl rfl rfl hc i [] s5 σ5 H5 (fun _ _=>False) I5 (fpY rfl fr5) st5 go) fun r s6 ⟨u,hr,h6⟩=>?_
   subst hr
   refine thn h6 fun _ s7 ⟨x,H7,I7,r7,y7,st7,fr7⟩=>?_
   have I7':=I7.pinned (fpY rfl fr7) (T.obj _ _ st7)
   refine thn (hg pins s3.heap.objs.size s3 H3 fp _ s7 σ5 H7 x u _ I7' r7 (step x H7 y7)) fun _ s8 ⟨σ8,H8,I8,q8⟩=>?_
   refine thn (wp_tests (ht pins s3.heap.objs.size s3 H3 fp) I8 q8) fun b s9 ⟨H9,I9,q9⟩=>?_
   have back:∀ {σz:St} {Hz:Hp} {sz:Shared} {yz:List V},Inv (compCx X pins N scope s3.heap.objs.size s3 H3 fp) ([]++pinsAt fp s7.heap) σz Hz sz→W (i+1) m' σz yz Hz →
     ∃ m,m<n∧∃ i σ' ys H',Inv (compCx X pins N scope s3.heap.objs.size s3 H3 fp) [] σ' H' sz∧tn i sz.heap∧(∀ b∈fp,H' b=none)∧W i m σ' ys H':=fun {σz Hz sz yz} Iz wz=>by
    refine⟨m',hm',i+1,σz,yz,Hz,Iz.unpinned,T.keep _ _ _ st7 fun b hb o e=>(Iz.pin (b,o) (List.mem_append_right _ (List.mem_append_right _ (mem_pinsAt hb e)))).1,fun b hb=>?_,wz⟩
    obtain ⟨o,e,d⟩:=T.obj _ _ st7 b hb
    exact (Iz.pin (b,o) (List.mem_append_right _ (List.mem_append_right _ (mem_pinsAt hb e)))).2.1
   cases b with
   | false=>exact back I9 q9
   | true =>
    refine thn (he pins s3.heap.objs.size s3 H3 fp _ s9 σ8 H9 _ I9 q9) fun v s10 ⟨y,H10,I10,r10,hl10,hz10,w10⟩=>?_
    refine thn (mt_append _ s10 σ8 H10 (.ref acc) [y] (.ref acc) [v] (fun _ H'=>H'=upd H10 acc (.lst (ys++[y]))) I10 rfl (.cons r10 .nil) ⟨acc,ys,y,rfl,rfl,hl10,hz10,rfl⟩) fun _ s11 ⟨_,H11,I11,_,e11⟩=>?_
    subst e11
    exact back I11 w10
 have hn4:∃ m,h₁.Ns s3.heap.objs.size m:=⟨_,hns₁⟩
 obtain ⟨m4,hn4⟩:=hn4
 have L:=loop _ ⟨m4,rfl,hn4⟩
 exact codeAny_compStart_list L (T.self _ 0 _ _ _ (T.keep _ _ _ st3 fun b _ o q=>old b o q) L)
end
end L2
namespace L2
open PySem
theorem nne {a b:Nat} (h:@Ne Nat a b):@Ne Addr a b:=h
noncomputable def SrcOf (k:Bool) (h:Heap) (a:Addr) (xs:Array Value):Prop:=match k with|true=>h.IsTuple a xs|false=>h.IsList a xs
noncomputable def ItAt (k:Bool) (h:Heap) (it a:Addr) (i:Nat):Prop:=match k with|true=>h.IsTupleIter it a i|false=>h.IsListIter it a i
noncomputable def itObj (k:Bool) (a:Addr):Obj:=match k with|true=>{ cls:=.type "tuple_iterator",data:=.fields #[.ref a,.int 0 0] }|false=>{ cls:=.type "list_iterator",data:=.fields #[.ref a,.int 0 0] }
noncomputable abbrev IsT (h:Heap) (T:Addr) (vs:Array Value):Prop:=h.get? T=some { cls:=.type "tuple",data:=.seq vs }
theorem SrcOf.keep {k:Bool} {h h':Heap} {a:Addr} {xs:Array Value} (x:SrcOf k h a xs) (hk:∀ o,h.get? a=some o→h'.get? a=some o):SrcOf k h' a xs:=by
 cases k with
 | true=>obtain ⟨o,e,r⟩:=x;exact⟨o,hk o e,r⟩
 | false=>obtain ⟨o,e,r⟩:=x;exact⟨o,hk o e,r⟩
theorem ItAt.keep {k:Bool} {h h':Heap} {it a:Addr} {i:Nat} (x:ItAt k h it a i) (hk:∀ o,h.get? it=some o→h'.get? it=some o):ItAt k h' it a i:=by
 cases k with
 | true=>obtain ⟨o,e,r⟩:=x;exact⟨o,hk o e,r⟩
 | false=>obtain ⟨o,e,r⟩:=x;exact⟨o,hk o e,r⟩
theorem ItAt.obj {k:Bool} {h:Heap} {it a:Addr} {i:Nat} (x:ItAt k h it a i):∃ o,h.get? it=some o∧∀ v,o.data≠.cell v:=by
 cases k with
 | true=>obtain ⟨o,e,_,d⟩:=x;exact⟨o,e,fun v z=>by rw [d] at z;cases z⟩
 | false=>obtain ⟨o,e,_,d⟩:=x;exact⟨o,e,fun v z=>by rw [d] at z;cases z⟩
theorem SrcOf.lt {k:Bool} {h:Heap} {a:Addr} {xs:Array Value} (x:SrcOf k h a xs):a<h.objs.size:=by
 cases k with
 | true=>obtain ⟨o,e,_⟩:=x;exact Heap.lt_size e
 | false=>obtain ⟨o,e,_⟩:=x;exact Heap.lt_size e
theorem itObj_at {k:Bool} {h:Heap} {it a:Addr} (e:h.get? it=some (itObj k a)):ItAt k h it a 0:=by
 cases k with
 | true=>exact⟨_,e,rfl,rfl⟩
 | false=>exact⟨_,e,rfl,rfl⟩
section
variable {prog:Program} {w:World} {A:Around} {E:Value→Shared→Prop} {s:Shared}
theorem src_iter {k:Bool} {a:Addr} {xs:Array Value} {Q:Value→Shared→Prop} (h:SrcOf k s.heap a xs) (hQ:Q (.ref s.heap.objs.size) { s with heap:=s.heap.push (itObj k a) }):wpAny (model prog w) A (pyIter (.ref a)) Q E s:=by
 cases k with
 | true=>exact wpAny_pyIter_tuple h hQ
 | false=>exact wpAny_pyIter_list h hQ
theorem nextOf_tuple_item {it t:Addr} {i:Nat} {items} {x:Value} {Q:Value→Shared→Prop} (hit:s.heap.IsTupleIter it t i)
  (ht:s.heap.IsTuple t items) (hx:items[i]?=some x)
  (hQ:∀ h',h'.IsTupleIter it t (i+1)→Heap.SameBut it s.heap h'→Q x { s with heap:=h' }) :
  wpAny (model prog w) A (Builtin.SmallTypes.nextOf (.ref it)) Q E s:=by
 obtain ⟨o,ho,hc,hd⟩:=id hit
 obtain ⟨ol,hol,_,nl,hdl⟩:=ht
 unfold Builtin.SmallTypes.nextOf
 refine wpAny_bind (wpAny_callSpecial?_slot (name:=Str.ofString "__next__") hit.typeIs F.slot_tuple_iterator_next
  (wpAny_call_entry F.slot_tuple_iterator_next hit.typeIs F.entry_tuple_iterator_next ?_ (F.args_tuple_iterator_next_1 _)))
 show wpAny _ _ (field (.ref it) 0 >>= _) _ _ s
 refine wpAny_bind (wpAny_field ho hd (x:=.ref t) rfl ?_)
 show wpAny _ _ (if (Value.ref t == Value.none)=true then _ else _) _ _ s
 rw [if_neg (show ¬ ((Value.ref t == Value.none)=true) from Bool.false_ne_true)]
 show wpAny _ _ (field (.ref it) 1 >>= _) _ _ s
 refine wpAny_bind (wpAny_field ho hd (x:=.int i 0) rfl ?_)
 show wpAny _ _ (seqItems? (.ref t) >>= _) _ _ s
 refine wpAny_bind (wpAny_seqItems hol hdl ?_)
 simp only [Int.toNat_natCast,hx]
 refine wpAny_bind (wpAny_setField ho hd (by simp) (wpAny_pure ⟨x,rfl,wpAny_pure (hQ _ ?_ (Heap.SameBut.update ..))⟩))
 exact⟨_,Heap.get?_update_self _ ho (Obj.isFreed_of_fields (Obj.data_mapFields hd _)),(Obj.cls_mapFields ..).trans hc,by
  rw [Obj.data_mapFields hd];simp [rawInt]⟩
theorem nextOf_tuple_end {it t:Addr} {i:Nat} {items} {Q:Value→Shared→Prop} (hh:A.handled=none)
  (hit:s.heap.IsTupleIter it t i) (ht:s.heap.IsTuple t items) (hx:items[i]?=none)
  (hE:∀ h' e,Heap.ExtBut it s.heap h'→(∃ o,h'.get? e=some o∧o.cls=.type "StopIteration")→E (.ref e) { s with heap:=h' }) :
  wpAny (model prog w) A (Builtin.SmallTypes.nextOf (.ref it)) Q E s:=by
 obtain ⟨o,ho,hc,hd⟩:=id hit
 obtain ⟨ol,hol,_,nl,hdl⟩:=ht
 unfold Builtin.SmallTypes.nextOf
 refine wpAny_bind (wpAny_callSpecial?_slot (name:=Str.ofString "__next__") hit.typeIs F.slot_tuple_iterator_next
  (wpAny_call_entry F.slot_tuple_iterator_next hit.typeIs F.entry_tuple_iterator_next ?_ (F.args_tuple_iterator_next_1 _)))
 show wpAny _ _ (field (.ref it) 0 >>= _) _ _ s
 refine wpAny_bind (wpAny_field ho hd (x:=.ref t) rfl ?_)
 show wpAny _ _ (if (Value.ref t == Value.none)=true then _ else _) _ _ s
 rw [if_neg (show ¬ ((Value.ref t == Value.none)=true) from Bool.false_ne_true)]
 show wpAny _ _ (field (.ref it) 1 >>= _) _ _ s
 refine wpAny_bind (wpAny_field ho hd (x:=.int i 0) rfl ?_)
 show wpAny _ _ (seqItems? (.ref t) >>= _) _ _ s
 refine wpAny_bind (wpAny_seqItems hol hdl ?_)
 simp only [Int.toNat_natCast,hx]
 refine wpAny_bind (wpAny_rule (wpAny_bind (wpAny_setField ho hd (by simp) ?_)))
 show wpAny _ _ (newExc (.type "StopIteration") [] >>= _) _ _ _
 refine wpAny_bind ?_
 simp only [newExc,newTuple]
 refine wpAny_bind (wpAny_newObj_type ?_ (by size_fits))
 refine wpAny_bind (m:=firstArgMember _ _) (wpAny_of_eq (a:=Value.none) (by first|rfl|(simp only [firstArgMember];rfl)) ?_)
 refine wpAny_newObj_type ?_ (by size_fits)
 simp only [raiseNew]
 refine wpAny_bind (wpAny_handled ?_)
 first|rw [show A.in1.handled=none from hh]|rw [hh]
 refine wpAny_bind (wpAny_pure (wpAny_throw ?_))
 exact hE _ _ (((Heap.SameBut.update ..).extBut.push _).push _) ⟨_,Heap.get?_push_size _ rfl,rfl⟩
theorem sub_item {k:Bool} {it a:Addr} {i:Nat} {xs:Array Value} {x:Value} {Q:Value→Shared→Prop} (hit:ItAt k s.heap it a i) (hs:SrcOf k s.heap a xs) (hx:xs[i]?=some x)
  (hQ:∀ h',ItAt k h' it a (i+1)→Heap.SameBut it s.heap h'→Q x { s with heap:=h' }):wpAny (model prog w) A (Builtin.SmallTypes.nextOf (.ref it)) Q E s:=by
 cases k with
 | true=>exact nextOf_tuple_item hit hs hx hQ
 | false=>exact wpAny_nextOf_list_item hit hs hx hQ
theorem sub_end {k:Bool} {it a:Addr} {i:Nat} {xs:Array Value} {Q:Value→Shared→Prop} (hh:A.handled=none) (hit:ItAt k s.heap it a i) (hs:SrcOf k s.heap a xs) (hx:xs[i]?=none)
  (hE:∀ h' e,Heap.ExtBut it s.heap h'→(∃ o,h'.get? e=some o∧o.cls=.type "StopIteration")→E (.ref e) { s with heap:=h' }):wpAny (model prog w) A (Builtin.SmallTypes.nextOf (.ref it)) Q E s:=by
 cases k with
 | true=>exact nextOf_tuple_end hh hit hs hx hE
 | false=>exact wpAny_nextOf_list_end hh hit hs hx hE
theorem upd_tup {T:Addr} {vs:Array Value} {x:Value} {k:Nat} {Q:Unit→Shared→Prop} (hT:IsT s.heap T vs) (hz:vs.size≤8)
  (h:∀ h',IsT h' T (vs.setIfInBounds k x)→Heap.SameBut T s.heap h'→Q () { s with heap:=h' }):wpAny (model prog w) A (updateSeq T (·.setIfInBounds k x)) Q E s:=by
 have hz2:vs.size≤sizeLine:=Nat.le_trans hz (by decide)
 refine wpAny_updateSeq (hz:=hz2) (_hz':=by simp only [Array.size_setIfInBounds];lia) hT rfl (h _ ?_ (Heap.SameBut.update ..))
 show (s.heap.update T _).get? T=_
 rw [Heap.get?_update_self _ hT rfl]
 simp [Obj.mapSeq]
structure Zip2 (k1 k2:Bool) (n a b:Nat) (i:Nat) (f0:Value) (h:Heap):Prop where
 z:IsZip h (n+4) (n+2) (n+3) f0
 ti:IsT h (n+2) #[.ref n,.ref (n+1)]
 to:∃ u v,IsT h (n+3) #[u,v]
 i1:ItAt k1 h n a i
 i2:ItAt k2 h (n+1) b i
noncomputable def Off (l:List Addr) (h h':Heap):Prop:=∀ c o,c∉l→h.get? c=some o→h'.get? c=some o
theorem Off.of {c:Addr} {l:List Addr} {h h':Heap} (s:Heap.SameBut c h h') (hc:c∈l):Off l h h':=fun b o hb e=>(s.2 b fun z=>hb (z ▸ hc)).trans e
theorem Off.trans {l:List Addr} {h h1 h2:Heap} (a:Off l h h1) (b:Off l h1 h2):Off l h h2:=fun c o hc e=>b c o hc (a c o hc e)
theorem Off.push {l:List Addr} {h:Heap} (o:Obj):Off l h (h.push o):=fun _ _ _ e=>Heap.get?_push_of_some _ e
theorem zip2_next {k1 k2:Bool} {n a b:Nat} {i:Nat} {xs ys:Array Value} {x y:Value} {Q:Value→Shared→Prop} (Z:Zip2 k1 k2 n a b i .none s.heap) (ha:a<n) (hb:b<n)
  (h1:SrcOf k1 s.heap a xs) (h2:SrcOf k2 s.heap b ys) (hx:xs[i]?=some x) (hy:ys[i]?=some y)
  (hQ:∀ h',Zip2 k1 k2 n a b (i+1) (rawInt s.heap.objs.size) h'→IsT h' s.heap.objs.size #[x,y]→h'.objs.size=s.heap.objs.size+1→Off [n,n+1,n+3,n+4] s.heap h'→Q (.ref s.heap.objs.size) { s with heap:=h' }) :
  wpAny (model prog w) A (Builtin.«zip.__next__» ⟨[.ref (n+4)],[]⟩) (fun fin s'=>∃ v,fin=.done (.ret v)∧Q v s') E s:=by
 obtain ⟨hz,hTI,⟨u,v,hTO⟩,hi1,hi2⟩:=Z
 show wpAny _ _ (field (.ref (n+4)) 2 >>= _) _ _ _
 refine wpAny_bind (wpAny_field hz rfl (x:=.bool false) rfl ?_)
 show wpAny _ _ (field (.ref (n+4)) 3 >>= _) _ _ _
 refine wpAny_bind (wpAny_field hz rfl (x:=.ref (n+2)) rfl ?_)
 refine wpAny_bind (wpAny_seqItems hTI rfl ?_)
 show wpAny _ _ (Builtin.SmallTypes.ownedTupleIsFree (.ref (n+4)) >>= _) _ _ _
 refine wpAny_bind ?_
 unfold Builtin.SmallTypes.ownedTupleIsFree
 refine wpAny_bind (wpAny_field hz rfl (x:=.none) rfl (wpAny_pure ?_))
 simp only [if_true]
 refine wpAny_bind (wpAny_rule ?_)
 refine wpAny_bind (wpAny_field hz rfl (x:=.ref (n+3)) rfl ?_)
 refine wpAny_bind (wpAny_setField_rec hz (by simp) fun g1 hz1 hs1=>?_)
 replace hz1:IsZip g1 (n+4) (n+2) (n+3) .ellipsis:=hz1
 refine wpAny_bind ?_
 simp only [List.zipIdx_cons,List.zipIdx_nil,List.forIn_cons,List.forIn_nil]
 refine wpAny_bind (wpAny_bind (wpAny_onRaise ?_))
 show wpAny _ _ (Builtin.SmallTypes.nextOf (.ref n) >>= _) _ _ _
 refine wpAny_bind (sub_item (hi1.keep fun o e=>(hs1.2 _ (nne (by lia))).trans e) (h1.keep fun o e=>(hs1.2 _ (nne (by lia))).trans e) hx fun g2 hi1' hs2=>wpAny_pure ?_)
 have hTO2:IsT g2 (n+3) #[u,v]:=(hs2.2 _ (nne (by lia))).trans ((hs1.2 _ (nne (by lia))).trans hTO)
 refine wpAny_bind (wpAny_seqItems hTO2 rfl ?_)
 refine wpAny_bind (upd_tup hTO2 (by simp) fun g3 hTO3 hs3=>?_)
 replace hTO3:IsT g3 (n+3) #[x,v]:=hTO3
 refine wpAny_bind (wpAny_letGo (wpAny_pure ?_))
 refine wpAny_bind (wpAny_bind (wpAny_onRaise ?_))
 show wpAny _ _ (Builtin.SmallTypes.nextOf (.ref (n+1)) >>= _) _ _ _
 refine wpAny_bind (sub_item (hi2.keep fun o e=>(hs3.2 _ (nne (by lia))).trans ((hs2.2 _ (nne (by lia))).trans ((hs1.2 _ (nne (by lia))).trans e))) (h2.keep fun o e=>(hs3.2 _ (nne (by lia))).trans ((hs2.2 _ (nne (by lia))).trans ((hs1.2 _ (nne (by lia))).trans e))) hy fun g4 hi2' hs4=>wpAny_pure ?_)
 have hTO4:IsT g4 (n+3) #[x,v]:=(hs4.2 _ (nne (by lia))).trans hTO3
 refine wpAny_bind (wpAny_seqItems hTO4 rfl ?_)
 refine wpAny_bind (upd_tup hTO4 (by simp) fun g5 hTO5 hs5=>?_)
 replace hTO5:IsT g5 (n+3) #[x,y]:=hTO5
 refine wpAny_bind (wpAny_letGo (wpAny_pure (wpAny_pure ?_)))
 refine wpAny_bind (wpAny_seqItems hTO5 rfl ?_)
 refine wpAny_bind (wpAny_newTuple ?_)
 have hsz:g5.objs.size=s.heap.objs.size:=by rw [hs5.1,hs4.1,hs3.1,hs2.1,hs1.1]
 have hz5:IsZip g5 (n+4) (n+2) (n+3) .ellipsis:=(hs5.2 _ (nne (by lia))).trans ((hs4.2 _ (nne (by lia))).trans ((hs3.2 _ (nne (by lia))).trans ((hs2.2 _ (nne (by lia))).trans hz1)))
 have off5:Off [n,n+1,n+3,n+4] s.heap g5:=((((Off.of hs1 (by simp)).trans (Off.of hs2 (by simp))).trans (Off.of hs3 (by simp))).trans (Off.of hs4 (by simp))).trans (Off.of hs5 (by simp))
 have hzlt:n+4<g5.objs.size:=Heap.lt_size hz5
 show wpAny _ _ (Builtin.SmallTypes.ownedTupleHandOut (.ref (n+4)) (.ref g5.objs.size) >>= _) _ _ _
 refine wpAny_bind ?_
 unfold Builtin.SmallTypes.ownedTupleHandOut
 have hz6:IsZip (g5.push { cls:=.type "tuple",data:=.seq #[x,y] }) (n+4) (n+2) (n+3) .ellipsis:=Heap.get?_push_of_some _ hz5
 refine wpAny_bind (wpAny_setField_rec hz6 (by simp) fun g7 hz7 hs7=>?_)
 replace hz7:IsZip g7 (n+4) (n+2) (n+3) (rawInt g5.objs.size):=hz7
 refine wpAny_setField_rec hz7 (by simp) fun g8 hz8 hs8=>?_
 replace hz8:IsZip g8 (n+4) (n+2) (n+3) (rawInt g5.objs.size):=hz8
 have up:∀ c o,c≠n+4→g5.get? c=some o→g8.get? c=some o:=fun c o c1 e=>(hs8.2 _ c1).trans ((hs7.2 _ c1).trans (Heap.get?_push_of_some _ e))
 have hT8:IsT g8 g5.objs.size #[x,y]:=(hs8.2 _ (Nat.ne_of_gt hzlt)).trans ((hs7.2 _ (Nat.ne_of_gt hzlt)).trans (Heap.get?_push_size _ rfl))
 have hz8':g8.objs.size=g5.objs.size+1:=by rw [hs8.1,hs7.1,Heap.size_push]
 rw [hsz] at hz8 hT8 hz8'
 refine wpAny_pure ⟨_,rfl,?_⟩
 show Q (.ref g5.objs.size) _
 rw [hsz]
 refine hQ g8 ⟨hz8,up _ _ (nne (by lia)) (off5 _ _ (by simp) hTI),⟨x,y,up _ _ (nne (by lia)) hTO5⟩,?_,?_⟩ hT8 hz8' fun c o hc e=>?_
 ·exact hi1'.keep fun o e=>up _ o (nne (by lia)) ((hs5.2 _ (nne (by lia))).trans ((hs4.2 _ (nne (by lia))).trans ((hs3.2 _ (nne (by lia))).trans e)))
 ·exact hi2'.keep fun o e=>up _ o (nne (by lia)) ((hs5.2 _ (nne (by lia))).trans e)
 ·exact up c o (fun z=>hc (by simp [z])) (off5 c o hc e)
theorem zip2_stop {k1 k2:Bool} {n a b:Nat} {i:Nat} {xs ys:Array Value} {Q:Fin→Shared→Prop} (hh:A.handled=none) (Z:Zip2 k1 k2 n a b i .none s.heap) (ha:a<n) (hb:b<n)
  (h1:SrcOf k1 s.heap a xs) (h2:SrcOf k2 s.heap b ys) (hend:xs[i]?=none∨ys[i]?=none)
  (hE:∀ h' e,Off [n,n+1,n+3,n+4] s.heap h'→(∃ o,h'.get? e=some o∧o.cls=.type "StopIteration")→E (.ref e) { s with heap:=h' }) :
  wpAny (model prog w) A (Builtin.«zip.__next__» ⟨[.ref (n+4)],[]⟩) Q E s:=by
 obtain ⟨hz,hTI,⟨u,v,hTO⟩,hi1,hi2⟩:=Z
 show wpAny _ _ (field (.ref (n+4)) 2 >>= _) _ _ _
 refine wpAny_bind (wpAny_field hz rfl (x:=.bool false) rfl ?_)
 show wpAny _ _ (field (.ref (n+4)) 3 >>= _) _ _ _
 refine wpAny_bind (wpAny_field hz rfl (x:=.ref (n+2)) rfl ?_)
 refine wpAny_bind (wpAny_seqItems hTI rfl ?_)
 show wpAny _ _ (Builtin.SmallTypes.ownedTupleIsFree (.ref (n+4)) >>= _) _ _ _
 refine wpAny_bind ?_
 unfold Builtin.SmallTypes.ownedTupleIsFree
 refine wpAny_bind (wpAny_field hz rfl (x:=.none) rfl (wpAny_pure ?_))
 simp only [if_true]
 refine wpAny_bind (wpAny_rule ?_)
 refine wpAny_bind (wpAny_field hz rfl (x:=.ref (n+3)) rfl ?_)
 refine wpAny_bind (wpAny_setField_rec hz (by simp) fun g1 hz1 hs1=>?_)
 replace hz1:IsZip g1 (n+4) (n+2) (n+3) .ellipsis:=hz1
 refine wpAny_bind ?_
 simp only [List.zipIdx_cons,List.zipIdx_nil,List.forIn_cons,List.forIn_nil]
 refine wpAny_bind (wpAny_bind (wpAny_onRaise ?_))
 show wpAny _ _ (Builtin.SmallTypes.nextOf (.ref n) >>= _) _ _ _
 have fin:∀ {g h':Heap} {e:Addr},IsZip g (n+4) (n+2) (n+3) .ellipsis→(∃ o,g.get? e=some o∧o.cls=.type "StopIteration")→Off [n,n+1,n+3,n+4] s.heap g→∀ s':Shared,s'={ s with heap:=g } →
   wpAny (model prog w) A (setField (.ref (n+4)) 0 .none) (fun _ s'=>E (.ref e) s') E s':=by
  intro g h' e hzg ⟨oe,hoe,hce⟩ off s' es
  subst es
  have hez:e≠n+4:=fun z=>by subst z;rw [hzg] at hoe;cases hoe;simp at hce
  exact wpAny_setField_rec hzg (by simp) fun g9 _ hs9=>hE g9 e (off.trans (Off.of hs9 (by simp))) ⟨oe,(hs9.2 _ hez).trans hoe,hce⟩
 cases hx:xs[i]? with
 | none =>
  refine wpAny_bind (sub_end hh (hi1.keep fun o e=>(hs1.2 _ (nne (by lia))).trans e) (h1.keep fun o e=>(hs1.2 _ (nne (by lia))).trans e) hx fun g2 e hs2 he=>?_)
  exact fin (h':=g2) (hs2 _ _ (nne (by lia)) hz1) he ((Off.of hs1 (by simp)).trans fun c o hc q=>hs2 c o (fun z=>hc (by simp [z])) q) _ rfl
 | some x =>
  have hy:ys[i]?=none:=by rcases hend with h|h;rw [hx] at h;cases h;exact h
  refine wpAny_bind (sub_item (hi1.keep fun o e=>(hs1.2 _ (nne (by lia))).trans e) (h1.keep fun o e=>(hs1.2 _ (nne (by lia))).trans e) hx fun g2 hi1' hs2=>wpAny_pure ?_)
  have hTO2:IsT g2 (n+3) #[u,v]:=(hs2.2 _ (nne (by lia))).trans ((hs1.2 _ (nne (by lia))).trans hTO)
  refine wpAny_bind (wpAny_seqItems hTO2 rfl ?_)
  refine wpAny_bind (upd_tup hTO2 (by simp) fun g3 hTO3 hs3=>?_)
  refine wpAny_bind (wpAny_letGo (wpAny_pure ?_))
  refine wpAny_bind (wpAny_bind (wpAny_onRaise ?_))
  show wpAny _ _ (Builtin.SmallTypes.nextOf (.ref (n+1)) >>= _) _ _ _
  refine wpAny_bind (sub_end hh (hi2.keep fun o e=>(hs3.2 _ (nne (by lia))).trans ((hs2.2 _ (nne (by lia))).trans ((hs1.2 _ (nne (by lia))).trans e))) (h2.keep fun o e=>(hs3.2 _ (nne (by lia))).trans ((hs2.2 _ (nne (by lia))).trans ((hs1.2 _ (nne (by lia))).trans e))) hy fun g4 e hs4 he=>?_)
  exact fin (h':=g4) (hs4 _ _ (nne (by lia)) ((hs3.2 _ (nne (by lia))).trans ((hs2.2 _ (nne (by lia))).trans hz1))) he ((((Off.of hs1 (by simp)).trans (Off.of hs2 (by simp))).trans (Off.of hs3 (by simp))).trans fun c o hc q=>hs4 c o (fun z=>hc (by simp [z])) q) _ rfl
theorem pyNext_zip2 {k1 k2:Bool} {n a b:Nat} {i:Nat} {xs ys:Array Value} {x y:Value} {Q:Option Value→Shared→Prop} (Z:Zip2 k1 k2 n a b i .none s.heap) (ha:a<n) (hb:b<n)
  (h1:SrcOf k1 s.heap a xs) (h2:SrcOf k2 s.heap b ys) (hx:xs[i]?=some x) (hy:ys[i]?=some y)
  (hQ:∀ h',Zip2 k1 k2 n a b (i+1) (rawInt s.heap.objs.size) h'→IsT h' s.heap.objs.size #[x,y]→h'.objs.size=s.heap.objs.size+1→Off [n,n+1,n+3,n+4] s.heap h'→Q (some (.ref s.heap.objs.size)) { s with heap:=h' }) :
  wpAny (model prog w) A (pyNext (.ref (n+4))) Q E s:=by
 have hT:s.TypeIs (.ref (n+4)) "zip":=⟨_,Z.z,rfl⟩
 unfold pyNext
 exact wpAny_bind (wpAny_attempt (wpAny_callSpecial?_slot (name:=Str.ofString "__next__") hT F.slot_zip_next
  (wpAny_call_entry F.slot_zip_next hT F.entry_zip_next
   (zip2_next Z ha hb h1 h2 hx hy fun h' a1 a2 a3 a4=>wpAny_pure (hQ h' a1 a2 a3 a4)) (F.args_zip_next_1 _))))
theorem pyNext_zip2_end {k1 k2:Bool} {n a b:Nat} {i:Nat} {xs ys:Array Value} {Q:Option Value→Shared→Prop} (hh:A.handled=none) (Z:Zip2 k1 k2 n a b i .none s.heap) (ha:a<n) (hb:b<n)
  (h1:SrcOf k1 s.heap a xs) (h2:SrcOf k2 s.heap b ys) (hend:xs[i]?=none∨ys[i]?=none)
  (hQ:∀ h',Off [n,n+1,n+3,n+4] s.heap h'→Q none { s with heap:=h' }):wpAny (model prog w) A (pyNext (.ref (n+4))) Q E s:=by
 have hT:s.TypeIs (.ref (n+4)) "zip":=⟨_,Z.z,rfl⟩
 unfold pyNext
 refine wpAny_bind (wpAny_attempt (wpAny_callSpecial?_slot (name:=Str.ofString "__next__") hT F.slot_zip_next
  (wpAny_call_entry F.slot_zip_next hT F.entry_zip_next (zip2_stop (A:=A.in1) hh Z ha hb h1 h2 hend fun h' e hk he=>?_) (F.args_zip_next_1 _))))
 obtain ⟨o,ho,hc⟩:=he
 refine wpAny_bind (wpAny_isInstance (T:="StopIteration") (b:=true) ⟨o,ho,hc⟩ isSubtype_stop ?_)
 exact wpAny_pure (hQ _ hk)
end
noncomputable abbrev zh5 (k1 k2:Bool) (h:Heap) (a b:Addr):Heap:=((((h.push (itObj k1 a)).push (itObj k2 b)).push { cls:=.type "tuple",data:=.seq #[.ref h.objs.size,.ref (h.objs.size+1)] }).push { cls:=.type "tuple",data:=.seq #[.none,.none] }).push
 { cls:=.type "zip",data:=.fields #[.none,.bool false,.bool false,.ref (h.objs.size+2),.ref (h.objs.size+3)] }
theorem zip2_made (k1 k2:Bool) (a b:Addr) (xs ys:Array Value) :
  Meets (Builtin.«zip.__new__» ⟨[.type "zip",.ref a,.ref b],[]⟩) (fun _ R s=>SrcOf k1 s.heap a xs∧SrcOf k2 s.heap b ys ∧
   R (.ok (.ret (.ref (s.heap.objs.size+4)))) { s with heap:=zh5 k1 k2 s.heap a b }) :=
 .of_wp fun prog w A R s h=>by
  obtain ⟨hp,g,d,tk,os⟩:=s;obtain ⟨hl1,hl2,h⟩:=h
  have hsub:=sub_zip
  have hL1:SrcOf k1 (Shared.heap ⟨hp,g,d,tk,os⟩) a xs:=hl1
  have hL2:SrcOf k2 (Shared.heap ⟨hp.push (itObj k1 a),g,d,tk,os⟩) b ys:=SrcOf.keep hl2 fun o e=>Heap.get?_push_of_some _ e
  wp_walk using src_iter hL1,src_iter hL2
  refine⟨_,rfl,?_⟩
  simp only [Heap.size_push]
  exact h
end L2
namespace L2
open PySem PySem.Spec PyProof.Rows
noncomputable def Sq (k:Bool) (K:PySem.W.Frag) (H:Hp) (a:Addr) (xs:List V):Prop:=match k with|true=>SqT K H a xs|false=>SqL K H a xs
section
variable {X:Cx} {pins:List (Addr×Obj)} {σ:St} {H H':Hp} {s:Shared}
theorem Inv.sq {k:Bool} {a:Addr} {xs:List V} (I:Inv X pins σ H s) (h:Sq k X.K H a xs):∃ its:List Value,Vals xs its∧SrcOf k s.heap a its.toArray∧xs.length≤sizeLine:=by
 cases k with
 | true=>exact I.tuple h
 | false =>
  obtain ⟨its,r,p,z⟩:=I.list h
  exact⟨its,r,p.isList,z⟩
theorem Inv.sq_inj {k:Bool} {a:Addr} {xs ys:List V} (I:Inv X pins σ H s) (h:Sq k X.K H a xs) (h':Sq k X.K H a ys):xs=ys:=by
 cases k with
 | true=>exact I.tuple_inj h h'
 | false=>exact I.list_inj h h'
theorem Inv.off {h':Heap} {t':Nat} {ch:List Addr} (I:Inv X pins σ H s) (hf:∀ b∈ch,FpOk X pins H b) (off:Off ch s.heap h') (hok:HOk X.prog X.w H' h')
  (free:∀ b o,b∉ch→s.heap.get? b=some o→H b=none→H' b=none) (same:∀ b o,H b=some o→H' b=some o):Inv X pins σ H' { s with heap:=h',toks:=t' }:=by
 refine I.step (g':=s.gens) (d':=s.drawn) (ch:=ch) (fun b hb=>?_) (fun b o _ _ hc e _=>off b o hc e) (fun b o _ _ hc e _=>⟨o.slots,off b o hc e⟩) (fun b o hc e n=>free b o hc e n) (fun b o hc e=>⟨o,off b o hc e⟩)
  (fun b xs e=>same b _ e) (fun b o u e=>same b _ e) (fun b ps e=>⟨#[],by rw [same b _ e];simp⟩) (fun m hm=>?_) hok I.bare
 ·obtain ⟨f0,f1,f2,f3,f4,f5⟩:=hf b hb
  exact⟨f3,f1,f4,f5⟩
 ·obtain ⟨o,es,ep,ho,r⟩:=hm
  exact⟨o,es,ep,off _ o (fun z=>(hf _ z).2.1 rfl) ho,r⟩
theorem HOk.off {P:Program} {w:World} {h h':Heap} {ch:List Addr} (x:HOk P w H h) (hn:∀ b∈ch,H b=none) (off:Off ch h h'):HOk P w H h':=fun a o e=>by
 have na:∀ b u,H b=some u→b∉ch:=fun b u q z=>by rw [hn b z] at q;cases q
 refine (x a o e).stay (fun b u hb q=>off b u ?_ q) (fun _ q=>q) fun _ _ q=>q
 rcases hb with rfl|hb
 ·exact na _ _ e
 ·exact na _ _ hb
theorem HOk.offNew {P:Program} {w:World} {h h':Heap} {ch:List Addr} {T:Addr} {ob:HO} (x:HOk P w H h) (hn:∀ b∈ch,H b=none) (off:Off ch h h') (hT:h.objs.size≤T) (new:ObjOk P w (upd H T ob) h' T ob):HOk P w (upd H T ob) h':=fun a o e=>by
 have hTn:=x.fresh hT
 have na:∀ b u,H b=some u→b∉ch:=fun b u q z=>by rw [hn b z] at q;cases q
 by_cases ha:a=T
 ·subst ha;rw [upd_same] at e;cases e;exact new
 ·rw [upd_ne ha] at e
  refine (x a o e).stay (fun b u hb q=>off b u ?_ q) (fun c q=>by rw [upd_ne (ne_of_none q hTn)];exact q) fun c xs q=>by rw [upd_ne (ne_of_none q hTn)];exact q
  rcases hb with rfl|hb
  ·exact na _ _ e
  ·exact na _ _ hb
end
theorem off_mem {c:Addr} {n:Nat} (z:c∈([n,n+1,n+3,n+4]:List Addr)):c∈([n+4,n+2,n+3,n,n+1]:List Addr):=by
 simp only [List.mem_cons,List.not_mem_nil,or_false] at z ⊢
 rcases z with h|h|h|h <;> simp [h]
noncomputable def Itz (K : PySem.W.Frag) (k1 k2 : Bool) (a b : Addr) : It :=
  ⟨fun i H => ∃ xs ys x y, Sq k1 K H a xs ∧ Sq k2 K H b ys ∧ xs[i]?=some x ∧ ys[i]?=some y,
   fun i H v H' => ∃ p x y, v=.ref p ∧ H p=none ∧ (∀ xs, Sq k1 K H a xs → xs[i]?=some x) ∧ (∀ ys, Sq k2 K H b ys → ys[i]?=some y) ∧ H'=upd H p (.tup [x, y]),
   fun i H => ∃ xs ys, Sq k1 K H a xs ∧ Sq k2 K H b ys ∧ (xs.length ≤ i ∨ ys.length ≤ i)⟩
theorem turn_zip2 {P:Program} {w:World} {K:PySem.W.Frag} {es:List Expr} {kk:Nat} {pos:Pos} {k1 k2:Bool} (n a b:Nat) (ha:a<n) (hb:b<n) :
  Turn P w K (.Tuple es kk pos) (Itz K k1 k2 a b) [n+4,n+2,n+3,n,n+1] (n+4) (fun i h=>Zip2 k1 k2 n a b i .none h) where
 mem:=by simp
 obj:=fun i h st c hc=>by
  obtain ⟨hz,hTI,⟨u,v,hTO⟩,hi1,hi2⟩:=st
  simp only [List.mem_cons,List.not_mem_nil,or_false] at hc
  rcases hc with rfl|rfl|rfl|rfl|rfl
  ·exact⟨_,hz,fun v z=>nomatch z⟩
  ·exact⟨_,hTI,fun v z=>nomatch z⟩
  ·exact⟨_,hTO,fun v z=>nomatch z⟩
  ·exact hi1.obj
  ·exact hi2.obj
 keep:=fun i h h' st k=>by
  obtain ⟨hz,hTI,⟨u,v,hTO⟩,hi1,hi2⟩:=st
  exact⟨k _ (by simp) _ hz,k _ (by simp) _ hTI,⟨u,v,k _ (by simp) _ hTO⟩,hi1.keep fun o e=>k _ (by simp) o e,hi2.keep fun o e=>k _ (by simp) o e⟩
 item:=by
  intro X hP hw hK hc i pins s σ H E I hf st hg
  subst hP hw hK
  obtain ⟨xs,ys,x,y,qx,qy,ex,ey⟩:=hg
  obtain ⟨is1,r1,s1,_⟩:=I.sq qx
  obtain ⟨is2,r2,s2,_⟩:=I.sq qy
  obtain ⟨u,hu,ru⟩:=r1.get ex
  obtain ⟨v,hv,rv⟩:=r2.get ey
  refine pyNext_zip2 st ha hb s1 s2 (x:=u) (y:=v) (by simpa using hu) (by simpa using hv) fun h' Z hT hsz off=>⟨_,rfl,?_⟩
  have hTn:H s.heap.objs.size=none:=I.hok.fresh (Nat.le_refl _)
  have zlt:n+4<s.heap.objs.size:=Heap.lt_size st.z
  refine wpAny_letOwnedTupleGo_zip Z.z fun h2 hz2 hs2=>?_
  have off2:Off [n+4,n+2,n+3,n,n+1] s.heap h2:=fun c o hc e=>(hs2.2 c fun z=>hc (by simp [z])).trans (off c o (fun z=>hc (off_mem z)) e)
  have hT2:IsT h2 s.heap.objs.size #[u,v]:=(hs2.2 _ (Nat.ne_of_gt zlt)).trans hT
  refine⟨.ref s.heap.objs.size,upd H s.heap.objs.size (.tup [x,y]),?_,rfl,⟨_,x,y,rfl,hTn,fun zs hzs=>by rw [I.sq_inj hzs qx];exact ex,fun zs hzs=>by rw [I.sq_inj hzs qy];exact ey,rfl⟩,?_,fun c hc=>?_⟩
  ·refine Inv.off (s:=s) (h':=h2) (t':=s.toks) (ch:=[n+4,n+2,n+3,n,n+1]) I hf off2 (I.hok.offNew (fun c hc=>(hf c hc).1) off2 (Nat.le_refl _) ?_) (fun c o _ e hn=>?_) fun c o e=>?_
   ·exact⟨by show 2≤sizeLine;decide,[u,v],.cons ru (.cons rv .nil),⟨_,hT2,rfl,_,rfl⟩⟩
   ·rw [upd_ne (Nat.ne_of_lt (Heap.lt_size e))];exact hn
   ·rw [upd_ne (ne_of_none e hTn)];exact e
  ·obtain ⟨z1,z2,⟨a1,a2,z3⟩,z4,z5⟩:=Z
   exact⟨hz2,(hs2.2 _ (nne (by lia))).trans z2,⟨a1,a2,(hs2.2 _ (nne (by lia))).trans z3⟩,z4.keep fun o e=>(hs2.2 _ (nne (by lia))).trans e,z5.keep fun o e=>(hs2.2 _ (nne (by lia))).trans e⟩
  ·have cn:c≠s.heap.objs.size:=by
    simp only [List.mem_cons,List.not_mem_nil,or_false] at hc
    rcases hc with rfl|rfl|rfl|rfl|rfl <;> exact nne (by lia)
   rw [upd_ne cn];exact (hf c hc).1
 done:=by
  intro X hP hw hK hc i pins s σ H E I hf st hg
  subst hP hw hK
  obtain ⟨xs,ys,qx,qy,hend⟩:=hg
  obtain ⟨is1,r1,s1,_⟩:=I.sq qx
  obtain ⟨is2,r2,s2,_⟩:=I.sq qy
  have e1:=r1.length
  have e2:=r2.length
  refine pyNext_zip2_end (I.ok.hd hc) st ha hb s1 s2 ?_ fun h' off=>⟨rfl,?_⟩
  ·rcases hend with z|z
   ·exact .inl (by simp;lia)
   ·exact .inr (by simp;lia)
  ·have off2:Off [n+4,n+2,n+3,n,n+1] s.heap h':=fun c o hc e=>off c o (fun z=>hc (off_mem z)) e
   exact Inv.off (s:=s) (t':=s.toks) I hf off2 (I.hok.off (fun c hc=>(hf c hc).1) off2) (fun _ _ _ _ q=>q) fun _ _ q=>q
 self:=fun _ _ _ _ _ st h=>wpAny_pyIter_zip st.z h
section
variable {X:Cx}
noncomputable def iZip2 (K:PySem.W.Frag) (k1 k2:Bool) (ta:TA):TI:=fun σ H R=>ta σ H fun vs H1=>∃ a b,vs=[.ref a,.ref b]∧(∃ xs,Sq k1 K H1 a xs)∧(∃ ys,Sq k2 K H1 b ys)∧R (Itz K k1 k2 a b) H1
theorem pi_zip2 (k1 k2:Bool) {es:List Expr} {kk:Nat} {tpos:Pos} {a b:Expr} {ta:TA} {p pos:Pos} (hg:Gl X "zip") (hm:X.mg "zip"=none) (ha:PA X [a,b] ta) (hs:starEach [a,b] X.env=[(false,eval a X.env),(false,eval b X.env)]:=by rfl) (hs2:starEach [b] X.env=[(false,eval b X.env)]:=by rfl) :
  PI X (.Tuple es kk tpos) (.Call (.Name "zip" p) [a,b] [] pos) (iZip2 X.K k1 k2 ta):=by
 intro pins s σ H R I h
 refine Call_ (ld_blt I hg hm boot_zip (PyProof.Rows.callWith_type1 (thn (ha pos pins s σ H _ I h) fun us s1 ⟨vs,H1,I1,r1,q1⟩=>?_) (by rw [hs,hs2]) (by rw [hs2];rfl)))
 obtain ⟨a',b',e,⟨xs,qx⟩,⟨ys,qy⟩,q⟩:=q1
 subst e
 obtain ⟨u,v,rfl,ru,rv⟩:=vals2 r1
 cases ru
 cases rv
 obtain ⟨is1,r1,s1',_⟩:=I1.sq qx
 obtain ⟨is2,r2,s2',_⟩:=I1.sq qy
 refine callType_new PySem.F.called_zip (by decide) (PySem.F.typeCall_zip_2 _ _) (PySem.F.newCall_zip_2 _ _) (fun obj=>PySem.F.args_object_init_3 obj _ _) PySem.F.entry_zip_new (zip2_made k1 k2 a' b' is1.toArray is2.toArray) ⟨s1',s2',?_⟩
 have z1:(s1.heap.push (itObj k1 a')).objs.size=s1.heap.objs.size+1:=Heap.size_push ..
 have z2:((s1.heap.push (itObj k1 a')).push (itObj k2 b')).objs.size=s1.heap.objs.size+2:=by rw [Heap.size_push,z1]
 have z3:(((s1.heap.push (itObj k1 a')).push (itObj k2 b')).push { cls:=.type "tuple",data:=.seq #[.ref s1.heap.objs.size,.ref (s1.heap.objs.size+1)] }).objs.size=s1.heap.objs.size+3:=by rw [Heap.size_push,z2]
 have z4:((((s1.heap.push (itObj k1 a')).push (itObj k2 b')).push { cls:=.type "tuple",data:=.seq #[.ref s1.heap.objs.size,.ref (s1.heap.objs.size+1)] }).push { cls:=.type "tuple",data:=.seq #[.none,.none] }).objs.size=s1.heap.objs.size+4:=by rw [Heap.size_push,z3]
 have g5:(zh5 k1 k2 s1.heap a' b').get? (s1.heap.objs.size+4)=some { cls:=.type "zip",data:=.fields #[.none,.bool false,.bool false,.ref (s1.heap.objs.size+2),.ref (s1.heap.objs.size+3)] }:=by rw [← z4];exact Heap.get?_push_size _ rfl
 have g4:(zh5 k1 k2 s1.heap a' b').get? (s1.heap.objs.size+3)=some { cls:=.type "tuple",data:=.seq #[.none,.none] }:=by rw [← z3];exact Heap.get?_push_of_some _ (Heap.get?_push_size _ rfl)
 have g3:(zh5 k1 k2 s1.heap a' b').get? (s1.heap.objs.size+2)=some { cls:=.type "tuple",data:=.seq #[.ref s1.heap.objs.size,.ref (s1.heap.objs.size+1)] }:=by rw [← z2];exact Heap.get?_push_of_some _ (Heap.get?_push_of_some _ (Heap.get?_push_size _ rfl))
 have g2:(zh5 k1 k2 s1.heap a' b').get? (s1.heap.objs.size+1)=some (itObj k2 b'):=by rw [← z1];exact Heap.get?_push_of_some _ (Heap.get?_push_of_some _ (Heap.get?_push_of_some _ (Heap.get?_push_size _ (by cases k2 <;> rfl))))
 have g1:(zh5 k1 k2 s1.heap a' b').get? s1.heap.objs.size=some (itObj k1 a'):=Heap.get?_push_of_some _ (Heap.get?_push_of_some _ (Heap.get?_push_of_some _ (Heap.get?_push_of_some _ (Heap.get?_push_size _ (by cases k1 <;> rfl)))))
 have old:∀ c o,s1.heap.get? c=some o→(zh5 k1 k2 s1.heap a' b').get? c=some o:=fun c o x=>Heap.get?_push_of_some _ (Heap.get?_push_of_some _ (Heap.get?_push_of_some _ (Heap.get?_push_of_some _ (Heap.get?_push_of_some _ x))))
 have Z:Zip2 k1 k2 s1.heap.objs.size a' b' 0 .none (zh5 k1 k2 s1.heap a' b'):=⟨g5,g3,⟨_,_,g4⟩,itObj_at g1,itObj_at g2⟩
 show _∧_
 refine⟨⟨_,g5,rfl⟩,wpAny_pyIter_zip Z.z ?_⟩
 refine⟨_,_,_,_,H1,rfl,I1.kept (t':=s1.toks) old,turn_zip2 s1.heap.objs.size a' b' s1'.lt s2'.lt,Z,fun c hc=>?_,q⟩
 have hcl:s1.heap.objs.size≤c:=by
  simp only [List.mem_cons,List.not_mem_nil,or_false] at hc
  rcases hc with rfl|rfl|rfl|rfl|rfl <;> first|exact Nat.le_add_right _ _|exact Nat.le_refl _
 exact I1.fpOk hcl (I1.hok.fresh hcl)
end
end L2
namespace L2
open PySem PySem.Spec PyProof.Rows
noncomputable def CDivB (i j:Int):Prop:=0<j∧j.natAbs.log2<9000
section
variable {X:Cx}
theorem op_fdivB:OpR X (binaryOp .FloorDiv) (rI CDivB fun i j=>.int (i / j)):=opI fun i j _ _ _ _ _ hc q=>by
 have h1:(0:Int)<j:=hc.1
 exact floordiv_int (by lia) (by rw [Int.fdiv_eq_ediv_of_nonneg i (by lia)];exact q) (.inl (PyProof.noPylong_of_log2 hc.2))
noncomputable def TyR (K:PySem.W.Frag) (H:Hp) (x:V) (t:Value):Prop:=TyOf K H x t∨(∃ a xs,x=.ref a∧SqT K H a xs∧t=.type "tuple")∨(∃ a xs,x=.ref a∧SqL K H a xs∧t=.type "list")
theorem call_isinst:CallR X (.builtin "isinstance") (fun xs H Q=>∃ x n t b,xs=[x,.ty n]∧TyR X.K H x t∧PySem.W.kitOne X.K t (.type n)=some b∧Q (.bl b) H):=by
 intro pins s σ H xs us Q I r h
 obtain ⟨x,n,t,b,rfl,ty,e,q⟩:=h
 obtain ⟨u,c,rfl,ru,rc⟩:=vals2 r
 obtain rfl:c=Value.type n:=rc
 have fin:∀ tk,EP X pins σ Q (.bool b) { s with toks:=tk }:=fun tk=>⟨.bl b,H,I.tok tk,rfl,q⟩
 rcases ty with ty|⟨a,ys,rfl,hs,rfl⟩|⟨a,ys,rfl,hs,rfl⟩
 ·exact isinst_ok I ru ty e fin
 ·obtain rfl:u=Value.ref a:=ru
  obtain ⟨its,_,p,_⟩:=I.tuple hs
  obtain ⟨o,h1,h2,_⟩:=p
  exact PySem.W.kia_one PySem.W.kitx_tuple I.kIn ⟨o,h1,h2⟩ e (fun z=>nomatch z) fin
 ·obtain rfl:u=Value.ref a:=ru
  obtain ⟨its,_,p,_⟩:=I.list hs
  obtain ⟨o,n',h1,h2,_⟩:=p
  exact PySem.W.kia_one PySem.W.kitx_list I.kIn ⟨o,h1,h2⟩ e (fun z=>nomatch z) fin
end
theorem kit_same (K:PySem.W.Frag) (t:Value):PySem.W.kitOne K t t=some true:=by
 unfold PySem.W.kitOne
 rw [if_pos (by simp)]
end L2
namespace L2
open PySem PySem.Spec PyProof.Rows
noncomputable def Def (K:PySem.W.Frag) (mg:Str→Option Value) (x:Str) (st:Stmt) (ps:List Str):Prop:=∃ f fd,Fun K x x st f fd∧mg x=some (.ref f)∧Binds K fd ps []
noncomputable def Ok (P:Program) (w:World) (K:PySem.W.Frag) (mg:Str→Option Value) (base:Heap) (k:Nat) (x:Str) (ps:List Str) (sp:Sp):Prop :=
 ∃ f fd,FnOk P w K mg base CX0 k f fd ps sp∧mg x=some (.ref f)∧PySem.W.keepIn K (.ref f)=true∧Binds K fd ps []
section
variable {P:Program} {w:World} {K:PySem.W.Frag} {mg:Str→Option Value} {base:Heap}
theorem Def.ok {x:Str} {st:Stmt} {N ps:List Str} {k:Nat} {sp:Sp} (D:Def K mg x st ps) (S:FnScope N ps (defScope st)) (len:∀ vs H Q E,sp vs H Q E→vs.length=ps.length)
  (hbody:∀ (f:Addr) (cdv:Value) (A:Around) (outer:List Env) (s:Shared) (H:Hp) (vs:List V) (Q:VK) (E:XK),Room k (A.deeper (envOfC x (defScope st) s.heap.objs.size f cdv))→sp vs H Q E →
   ∃ t,PSs (cxOf CX0 P w K mg base N x (defScope st) f cdv A outer s H E).nox (defBody st) t∧t { nx:=fun _ H'=>Q .non H',rt:=Q } (start N vs) H):Ok P w K mg base (k+1) x ps sp:=by
 obtain ⟨f,fd,F,hm,hb⟩:=D
 exact⟨f,fd,F.ok S len fun cdv A outer s H vs Q E hr h=>hbody f cdv A outer s H vs Q E hr h,hm,F.kp,hb⟩
end
section
variable {X:Cx} {k:Nat} {x:Str} {ps:List Str} {sp:Sp} {p pos:Pos} {e:Expr} {es:List Expr} {t:TA}
theorem pcall (O:Ok X.prog X.w X.K X.mg X.base k x ps sp) (hr:Room k X.A) (ha:PA X (e::es) t) (hg:Gl X x:=by rfl)
  (hdb:(x == ("__debug__":Str))=false:=by decide) (he:starEach (e::es) X.env=(false,eval e X.env)::starEach es X.env:=by rfl) (hpl:(backTo pos (starEach es X.env)).any (·.1)=false:=by rfl) :
  PE X (.Call (.Name x p) (e::es) [] pos) (tCall sp [] E0 t):=by
 obtain ⟨f,fd,F,hm,hk,hb⟩:=O
 exact pe_call F hr hg hm hk hb .nil pass0 ha hdb he hpl
end
theorem Same.upd_new {H:Hp} {a:Addr} {o:HO} (h:H a=none):Same H (upd H a o):=fun b u e=>by rw [upd_ne (ne_of_none e h)];exact e
theorem Same.at {K:PySem.W.Frag} {H H':Hp} {a:Addr} {xs:List V} (e:Same H H') (h:SqT K H a xs):SqT K H' a xs:=by
 rcases h with (h|⟨o,h⟩)|h
 ·exact .inl (.inl (e _ _ h))
 ·exact .inl (.inr ⟨o,e _ _ h⟩)
 ·exact .inr h
theorem Same.sq {k:Bool} {K:PySem.W.Frag} {H H':Hp} {a:Addr} {xs:List V} (e:Same H H') (h:Sq k K H a xs):Sq k K H' a xs:=by
 cases k with
 | true=>exact Same.at e h
 | false=>exact Same.seq e h
noncomputable def CW (t:Nat) (l:Addr) (n:Nat) (f:Nat→V) (fr:St) (H1:Hp) (i m:Nat) (σ1:St) (ys:List V) (H':Hp):Prop :=
 m=n - i∧i≤n∧(∃ own:St,own.length=t∧σ1=own++fr)∧ys=(List.range i).map f∧Same H1 H'∧H' l=some (.lst ys)
theorem CW.next {t:Nat} {l:Addr} {n:Nat} {f:Nat→V} {fr:St} {H1 H' H5:Hp} {i:Nat} {y:V} (own:St) (ho:own.length=t) (hi:i<n) (hn:n≤1000000) (hl:H1 l=none) (hs:Same H1 H') (hl':H' l=some (.lst ((List.range i).map f))) (s5:Same H' H5) (ey:y=f i) :
  H5 l=some (.lst ((List.range i).map f))∧((List.range i).map f).length<sizeLine∧CW t l n f fr H1 (i+1) (n - (i+1)) (own++fr) ((List.range i).map f++[y]) (upd H5 l (.lst ((List.range i).map f++[y]))):=by
 subst ey
 refine⟨s5 _ _ hl',?_,rfl,hi,⟨own,ho,rfl⟩,?_,fun b o e=>?_,upd_same⟩
 ·rw [List.length_map,List.length_range]
  exact Nat.lt_of_lt_of_le (Nat.lt_of_lt_of_le hi hn) (by decide)
 ·rw [List.range_succ,List.map_append];rfl
 ·rw [upd_ne (ne_of_none e hl)]
  exact s5 _ _ (hs _ _ e)
theorem comp_by {J:It} {H1:Hp} {ix:List (Option Nat)} {σ:St} {g:TG} {tt:TT} {te:TE} {Q:VK} (t:Nat) (fr:St) (n:Nat) (f:Nat→V) (hpk:pick ix σ=List.replicate t none++fr)
  (hstop:∀ H',Same H1 H'→J.stop n H') (hgo:∀ i H',i<n→Same H1 H'→J.go i H')
  (step:∀ i x l H' H2 own,own.length=t→i<n→H1 l=none→Same H1 H'→H' l=some (.lst ((List.range i).map f))→J.yld i H' x H2 →
   g x (own++fr) H2 fun σ2 H3=>tt σ2 H3 fun b H4=>if b=true then te σ2 H4 fun y H5=>H5 l=some (.lst ((List.range i).map f))∧((List.range i).map f).length<sizeLine∧CW t l n f fr H1 (i+1) (n - (i+1)) σ2 ((List.range i).map f++[y]) (upd H5 l (.lst ((List.range i).map f++[y])))
    else CW t l n f fr H1 (i+1) (n - (i+1)) σ2 ((List.range i).map f) H4)
  (hQ:∀ l H',H1 l=none→Same H1 H'→H' l=some (.lst ((List.range n).map f))→Q (.ref l) H') :
  CompGoal ix g tt te σ Q J H1:=by
 intro l hl
 refine⟨CW t l n f fr H1,⟨n,by simp,Nat.zero_le _,⟨_,List.length_replicate,hpk⟩,rfl,Same.upd_new hl,upd_same⟩,?_⟩
 rintro i m σ1 ys H' ⟨rfl,hi,⟨own,ho,rfl⟩,rfl,hs,hl'⟩
 refine⟨hl',?_⟩
 by_cases hlt:i<n
 ·exact .inr ⟨hgo i H' hlt hs,n - (i+1),by lia,fun x H2 hy=>step i x l H' H2 own ho hlt hl hs hl' hy⟩
 ·obtain rfl:i=n:=by lia
  exact .inl ⟨hstop H' hs,hQ l H' hl hs hl'⟩
theorem rd_comp1 {J:It} {H1:Hp} {ix:List (Option Nat)} {σ:St} {te:TE} {Q:VK} (fr:St) (n:Nat) (f:Nat→V) (hpk:pick ix σ=none::fr) (hn:n≤1000000)
  (hstop:∀ H',Same H1 H'→J.stop n H') (hgo:∀ i H',i<n→Same H1 H'→J.go i H')
  (step:∀ i x H' H2 (Qc:VK),i<n→Same H1 H'→J.yld i H' x H2→(∀ H5,Same H' H5→Qc (f i) H5)→te (some x::fr) H2 Qc)
  (hQ:∀ l H',H1 l=none→Same H1 H'→H' l=some (.lst ((List.range n).map f))→Q (.ref l) H'):CompGoal ix (gName 0) (fun _ H Q=>Q true H) te σ Q J H1:=by
 refine comp_by 1 fr n f hpk hstop hgo (fun i x l H' H2 own ho hi hl hs hl' hy=>?_) hQ
 obtain ⟨o1,rfl⟩:∃ o1,own=[o1]:=by match own,ho with|[o1],_=>exact⟨o1,rfl⟩
 dsimp only [gName]
 rw [if_pos rfl]
 exact step i x H' H2 _ hi hs hy fun H5 s5=>CW.next (fr:=fr) [some x] rfl hi hn hl hs hl' s5 rfl
theorem rd_compZ {K:PySem.W.Frag} {k1 k2:Bool} {a b:Addr} {xs ys:List V} {H1:Hp} {ix:List (Option Nat)} {σ:St} {te:TE} {Q:VK} (fr:St) (f:Nat→V) (hpk:pick ix σ=none::none::fr) (ha:Sq k1 K H1 a xs) (hb:Sq k2 K H1 b ys) (hlen:xs.length=ys.length) (hn:xs.length≤1000000)
  (step:∀ i x y H' (Qc:VK),xs[i]?=some x→ys[i]?=some y→Same H1 H'→(∀ H5,Same H' H5→Qc (f i) H5)→te (some x::some y::fr) H' Qc)
  (hQ:∀ l H',H1 l=none→Same H1 H'→H' l=some (.lst ((List.range xs.length).map f))→Q (.ref l) H'):CompGoal ix (gTup K 2 (gCons (gName 0) (gCons (gName 1) gNil))) (fun _ H Q=>Q true H) te σ Q (Itz K k1 k2 a b) H1:=by
 refine comp_by 2 fr xs.length f hpk (fun H' s=>⟨_,_,s.sq ha,s.sq hb,.inl (Nat.le_refl _)⟩) (fun i H' hi s=>?_) (fun i x l H' H2 own ho hi hl hs hl' hy=>?_) hQ
 ·exact⟨_,_,xs[i],ys[i]'(hlen ▸ hi),s.sq ha,s.sq hb,List.getElem?_eq_getElem hi,List.getElem?_eq_getElem (hlen ▸ hi)⟩
 ·obtain ⟨o1,o2,rfl⟩:∃ o1 o2,own=[o1,o2]:=by match own,ho with|[o1,o2],_=>exact⟨o1,o2,rfl⟩
  obtain ⟨p,x',y',rfl,hp,e1,e2,rfl⟩:=hy
  have g1:=e1 _ (hs.sq ha)
  have g2:=e2 _ (hs.sq hb)
  refine⟨p,_,rfl,SqT.of upd_same,rfl,_,_,rfl,_,_,rfl,rfl,?_⟩
  show ite (true=true) _ _
  rw [if_pos rfl]
  exact step i x' y' _ _ g1 g2 (hs.trans (Same.upd_new hp)) fun H5 s5=>CW.next (fr:=fr) [some x',some y'] rfl hi hn hl hs hl' ((Same.upd_new hp).trans s5) rfl
theorem int_get {r:List Int} {i:Nat} {x:V} (h:(r.map V.int)[i]?=some x):x=.int (r.getD i 0)∧i<r.length:=by
 rw [List.getElem?_map] at h
 cases e:r[i]? with
 | none=>rw [e] at h;cases h
 | some z =>
  rw [e] at h
  have hl:=(List.getElem?_eq_some_iff.mp e).1
  refine⟨?_,hl⟩
  rw [← (Option.some.inj h),List.getD,e];rfl
theorem int_at {r:List Int} {i:Nat} (h:i<r.length):(r.map V.int)[i]?=some (.int (r.getD i 0)):=by
 rw [List.getElem?_map,List.getD,List.getElem?_eq_getElem h];rfl
theorem range_zip {α:Type} (f:Int→Int→α) (r q:List Int) (h:r.length=q.length):(List.range r.length).map (fun i=>f (r.getD i 0) (q.getD i 0))=List.zipWith f r q:=by
 apply List.ext_getElem
 ·simp [h]
 ·intro i h1 h2
  simp at h1 h2
  have:i<q.length:=by lia
  simp [List.getD,h1,this]
theorem rd_zipRows {K:PySem.W.Frag} {a b:Addr} {r q:List Int} {H1:Hp} {ix:List (Option Nat)} {σ:St} {Q:VK} (op:Int→Int→Int) (hpk:pick ix σ=[none,none]) (ha:SqT K H1 a (r.map V.int)) (hb:SqT K H1 b (q.map V.int)) (hlen:r.length=q.length) (hn:r.length≤1000)
  (hQ:∀ l H',H1 l=none→Same H1 H'→H' l=some (.lst ((List.zipWith op r q).map V.int))→Q (.ref l) H') :
  CompGoal ix (gTup K 2 (gCons (gName 0) (gCons (gName 1) gNil))) (fun _ H Q=>Q true H) (tOp (rI0 fun i j=>.int (op i j)) (tVar 0) (tVar 1)) σ Q (Itz K true true a b) H1:=by
 refine rd_compZ (k1:=true) (k2:=true) [] (fun i=>.int (op (r.getD i 0) (q.getD i 0))) hpk ha hb (by simpa using hlen) (by rw [List.length_map];lia) (fun i x y H' Qc ex ey hs kc=>?_) fun l H' hl hs hl'=>hQ l H' hl hs ?_
 ·obtain ⟨rfl,_⟩:=int_get ex
  obtain ⟨rfl,_⟩:=int_get ey
  exact⟨_,rfl,_,rfl,_,_,rfl,rfl,kc _ (Same.refl _)⟩
 ·rw [hl',List.length_map,range_zip (fun x y=>V.int (op x y)) r q hlen,List.map_zipWith]
end L2
namespace Mth
noncomputable def prod5 (a b c d e:Nat):Int:=2 ^ a*3 ^ b*5 ^ c*7 ^ d*11 ^ e
noncomputable def numL (ps:List Int) (es:List Int):Int:=(List.zipWith (fun p e=>p ^ e.toNat) ps es).foldl (·*·) 1
noncomputable def primes:List Int:=[2,3,5,7,11]
noncomputable def num (es:List Int):Int:=numL primes es
noncomputable def P5 (p:Int):Prop:=p=2∨p=3∨p=5∨p=7∨p=11
noncomputable def Cop (m:Int):Prop:=∀ p,P5 p→m % p≠0
end Mth
namespace Mth
noncomputable def bl (x:Int):Nat:=if x == 0 then 0 else x.natAbs.log2+1
end Mth
namespace Mth
noncomputable def F (m:Int) (x y:Int):Prop:=2 ^ (-m).toNat*y≤2 ^ m.toNat*x
noncomputable def rt (b c d e:Int):Int:=prod5 0 b.toNat c.toNat d.toNat e.toNat
noncomputable def rb (b c d e:Int):Int:=prod5 0 (-b).toNat (-c).toNat (-d).toNat (-e).toNat
end Mth
namespace Mth
section
variable (c0 c1 c2 c3 c4:Nat) {m:Int} (h:Cop m)
include h
end
end Mth
namespace Mth
noncomputable def sub (a b:List Int):List Int:=List.zipWith (· - ·) a b
noncomputable def mulv (r:List Int) (k:Int):List Int:=r.map (·*k)
noncomputable def low (v s:List Int) (q:Int):List Int:=sub v (mulv s q)
end Mth
namespace Mth
noncomputable def BdM (M:Nat) (r:List Int):Prop:=∀ i,(r.getD i 0).natAbs≤M
noncomputable def at' (p:Nat) (v:List Int):Nat:=(v.getD p 0).natAbs
structure PS (n p M m l:Nat) (led os:List (List Int)):Prop where
 len:∀ v∈led++os,v.length=n
 bd:∀ v∈led++os,BdM M v
 lo:∀ v∈led,l≤at' p v∧at' p v≤m
 pos:0<l
 big:∃ v∈led,at' p v=m
 low:∃ v∈led,at' p v=l
 one:(∀ v∈led,0<v.getD p 0)∨∀ v∈led,v.getD p 0<0
 zero:∀ v∈os,v.getD p 0=0
end Mth
namespace Mth
noncomputable def mz (p:Nat) (rs:List (List Int)):Nat:=(rs.map (at' p)).sum
noncomputable def PI (n p M:Nat) (led os:List (List Int)):Prop :=
 (∀ v∈led++os,v.length=n)∧(∀ v∈led,v.getD p 0≠0)∧(∀ v∈os,v.getD p 0=0) ∧
  ((∀ v∈led++os,BdM M v)∨(∃ m l M',PS n p M' m l led os∧M'*m*m*l≤3*(M*M*M*M))∨(led.length≤1∧∀ v∈led++os,BdM (6*(M*M*M*M)) v))
end Mth
namespace Mth
noncomputable def r2 (p:Nat×Nat):List Int:=[(p.1:Int),(p.2:Int)]
noncomputable def prd:List (Nat×Nat)→Nat
 | []=>1
 | p::l=>p.2*prd l
noncomputable def tot:List (Nat×Nat)→Nat
 | []=>0
 | p::l=>p.1*prd l+p.2*tot l
theorem gcd_turn (f m:Nat):Nat.gcd m (f % m)=Nat.gcd f m:=by rw [Nat.gcd_comm m,← Nat.gcd_rec,Nat.gcd_comm]
end Mth
namespace Mth
noncomputable def gr (b:Nat):Nat→Nat
 | 0=>b
 | i+1=>4*gr b i+3
noncomputable def sb (b:Nat):Nat→Nat
 | 0=>0
 | i+1=>sb b i+gr b (i+1)+1
end Mth
namespace Mth
structure PT (p X m k:Nat) (led os:List (List Int)):Prop where
 bd:∀ v∈led++os,BdM X v
 hi:∀ v∈led,at' p v≤m
 one:(∀ v∈led,0<v.getD p 0)∨∀ v∈led,v.getD p 0<0
 low:∃ v∈led,at' p v+m≤k
end Mth
namespace Mth
noncomputable def gs (b:Nat):Nat→Nat
 | 0=>b
 | i+1=>3*gs b i+3
end Mth
namespace Mth
noncomputable def dt (a b:List Int):Int:=(List.zipWith (·*·) a b).sum
end Mth
namespace Mth
noncomputable def lb (W:Nat):Nat→Nat
 | 0=>0
 | i+1=>3*lb W i+2*W+12
theorem five_of {α:Type} {r:List α} (h:r.length=5):∃ a b c d e,r=[a,b,c,d,e]:=by
 match r,h with
 | [a,b,c,d,e],_=>exact⟨a,b,c,d,e,rfl⟩
end Mth
namespace Sgn
open PySem PySem.Builtin PySem.Builtin.Str PySem.StrLaws
noncomputable def dgt (c:Nat):Bool:=decide (48≤c) && decide (c≤57)
noncomputable def cnt (z:Str) (m:Nat):Bool:=(decide (1≤z.length∧z.length≤m) && (z.cps[0]? != some 48)) && z.cps.toList.all dgt
end Sgn
namespace Sgn
open PySem PySem.Builtin PySem.Builtin.Str PySem.StrLaws PySem.NumText PySem.W.KIN PyProof.Rows
noncomputable def num (z:Str):Nat:=digitsVal z.cps.toList
noncomputable abbrev txt (n:Nat):Str:=PySem.Str.ofString (toString ((n:Nat):Int))
theorem txt_head:∀ m:Nat,0<m→((Nat.toDigits 10 m).map Char.toNat)[0]?≠some 48:=by
 intro m
 induction m using Nat.strongRecOn with
 | _ m ih =>
  intro hm
  by_cases h:m<10
  ·rw [Nat.toDigits_of_lt_base h]
   rcases (show m=1∨m=2∨m=3∨m=4∨m=5∨m=6∨m=7∨m=8∨m=9 by lia) with rfl|rfl|rfl|rfl|rfl|rfl|rfl|rfl|rfl <;> decide
  ·have hm':m % 10<10:=Nat.mod_lt m (by decide)
   have t:Nat.toDigits 10 (m / 10)++Nat.toDigits 10 (m % 10)=Nat.toDigits 10 (10*(m / 10)+m % 10):=Nat.toDigits_append_toDigits (by decide) (by lia) hm'
   rw [Nat.div_add_mod] at t
   have:=ih (m / 10) (by lia) (by lia)
   rw [← t,List.map_append,List.getElem?_append]
   split
   ·exact this
   ·rename_i hl
    rw [List.getElem?_eq_none (by lia)] at this
    intro _
    have h1:=digitsVal
    have hv:=val_back (m / 10)
    rw [List.eq_nil_of_length_eq_zero (show ((Nat.toDigits 10 (m / 10)).map Char.toNat).length=0 by lia)] at hv
    have:(0:Nat)=m / 10:=hv
    lia
theorem txt_len:∀ (k m:Nat),0<k→m<10 ^ k→(Nat.toDigits 10 m).length≤k
 | 0,_,h,_=>absurd h (by decide)
 | 1,m,_,h=>by rw [Nat.toDigits_of_lt_base (by simpa using h)];exact Nat.le_refl _
 | k+2,m,_,h=>by
  by_cases h10:m<10
  ·rw [Nat.toDigits_of_lt_base h10];simp
  ·have hm':m % 10<10:=Nat.mod_lt m (by decide)
   have t:Nat.toDigits 10 (m / 10)++Nat.toDigits 10 (m % 10)=Nat.toDigits 10 (10*(m / 10)+m % 10):=Nat.toDigits_append_toDigits (by decide) (by lia) hm'
   rw [Nat.div_add_mod] at t
   have:=txt_len (k+1) (m / 10) (by lia) (by rw [Nat.pow_succ] at h;lia)
   rw [← t,List.length_append,Nat.toDigits_of_lt_base hm']
   show _+1≤_
   lia
theorem txt_cnt {n m:Nat} (h0:0<n) (hm:0<m) (h:n<10 ^ m):cnt (txt n) m=true∧num (txt n)=n:=by
 have hs:=signs_num n
 have hl:(txt n).length=(Nat.toDigits 10 n).length:=by
  show (txt n).cps.size=_
  rw [← Array.length_toList,hs,List.length_map]
 have h2:=txt_len m n hm h
 refine⟨?_,?_⟩
 ·unfold cnt
  rw [Bool.and_eq_true,Bool.and_eq_true,decide_eq_true_eq]
  have hge:1≤(Nat.toDigits 10 n).length:=by
   have hv:=val_back n
   rcases Nat.eq_zero_or_pos (Nat.toDigits 10 n).length with e|e
   ·rw [List.eq_nil_of_length_eq_zero e] at hv
    have:(0:Nat)=n:=hv
    lia
   ·exact e
  refine⟨⟨⟨by lia,by lia⟩,?_⟩,?_⟩
  ·rw [bne_iff_ne,← Array.getElem?_toList,hs]
   exact txt_head n h0
  ·rw [hs,List.all_eq_true]
   intro c hc
   obtain ⟨ch,hch,e⟩:=List.mem_map.mp hc
   have r:=digit_range (Nat.isDigit_of_mem_toDigits (by decide) (by decide) hch)
   unfold dgt
   rw [Bool.and_eq_true,decide_eq_true_eq,decide_eq_true_eq,← e]
   exact r
 ·unfold num
  rw [hs]
  exact val_back n
end Sgn
namespace Sgn
open PySem PySem.Builtin PySem.Builtin.Str PySem.StrLaws
theorem cnt_nought {z:Str} {m:Nat} (h:z.cps[0]?=some 48):cnt z m=false:=by
 unfold cnt;rw [h];simp
theorem txt_size {n m:Nat} (hm:0<m) (h:n<10 ^ m):(txt n).length≤m:=by
 have hs:=PySem.W.KIN.signs_num n
 show (txt n).cps.size≤m
 rw [← Array.length_toList,hs,List.length_map]
 exact txt_len m n hm h
end Sgn
namespace Sgn
open PySem PySem.Builtin PySem.Builtin.Str PySem.StrLaws PySem.NumText PySem.W.KIN PyProof.Rows
theorem log_bd {i:Int} (h:i.natAbs<2 ^ 1920):i.natAbs.log2<1920:=by
 rcases Nat.eq_zero_or_pos i.natAbs with e|e
 ·rw [e];decide
 ·exact (Nat.log2_lt (by lia)).mpr h
end Sgn
namespace Nam
open PySem PySem.Builtin PySem.Builtin.Str PySem.StrLaws PyProof.Rows
noncomputable def seg (c d:Nat) (k:Int):List Nat:=List.replicate k.toNat c++List.replicate (-k).toNat d
noncomputable def sgd (y:Str) (m:Nat):Option Int :=
 if y=⟨#[48]⟩ then some 0 else if y.cps[0]?=some 45 then (if Sgn.cnt ⟨(y.cps.toList.drop 1).toArray⟩ m=true then some (-((Sgn.num ⟨(y.cps.toList.drop 1).toArray⟩:Nat):Int)) else none) else if Sgn.cnt y m=true then some ((Sgn.num y:Nat):Int) else none
end Nam
namespace Nam
open PySem PySem.Builtin PySem.Builtin.Str PySem.StrLaws PySem.NumText PySem.W.KIN PyProof.Rows
theorem one_toArray (l:List Nat):(⟨l.toArray⟩:Str).cps.toList=l:=List.toList_toArray ..
theorem str_ext {y z:Str} (h:y.cps.toList=z.cps.toList):y=z:=by
 cases y;cases z
 congr 1
 exact Array.ext' h
end Nam
namespace Nam
open PySem PySem.NumText PySem.W.KIN PyProof.Rows
theorem app_list (a b:Str):(a++b).cps.toList=a.cps.toList++b.cps.toList:=by
 show (a.cps++b.cps).toList=_
 rw [Array.toList_append]
theorem neg_list (n:Nat):(Str.ofString (toString (-((n+1:Nat):Int)))).cps.toList=45::(Sgn.txt (n+1)).cps.toList:=by
 rw [signs_num,signs_ofString]
 show ("-"++Nat.repr (n+1)).toList.map Char.toNat=_
 rw [String.toList_append,List.map_append,Nat.toList_repr]
 rfl
theorem oct_of {o:Int} (h1:-9999≤o) (h2:o≤9999):sgd (Str.ofString (toString o)) 4=some o∧(Str.ofString (toString o)).length≤5:=by
 rcases Int.lt_trichotomy o 0 with h|h|h
 ·obtain ⟨n,rfl⟩:∃ n:Nat,o=-((n+1:Nat):Int):=⟨(-o).toNat - 1,by lia⟩
  have hl:=neg_list n
  have ht:=Sgn.txt_cnt (n:=n+1) (m:=4) (by lia) (by decide) (by lia)
  have hs:=Sgn.txt_size (n:=n+1) (m:=4) (by decide) (by lia)
  have hlen:(Str.ofString (toString (-((n+1:Nat):Int)))).length=(Sgn.txt (n+1)).length+1:=by
   show (Str.ofString (toString (-((n+1:Nat):Int)))).cps.size=_
   rw [← Array.length_toList,hl,List.length_cons,Array.length_toList]
   rfl
  refine⟨?_,by lia⟩
  have hd:(⟨((Str.ofString (toString (-((n+1:Nat):Int)))).cps.toList.drop 1).toArray⟩:Str)=Sgn.txt (n+1):=by
   apply str_ext
   rw [one_toArray,hl]
   rfl
  unfold sgd
  rw [if_neg (fun e=>by rw [e] at hl;cases hl),if_pos (by rw [← Array.getElem?_toList,hl];rfl),hd,ht.1,ht.2,if_pos rfl]
 ·subst h
  exact⟨by decide +kernel,by decide +kernel⟩
 ·obtain ⟨n,rfl⟩:=Int.eq_ofNat_of_zero_le (Int.le_of_lt h)
  have ht:=Sgn.txt_cnt (n:=n) (m:=4) (by lia) (by decide) (by lia)
  have hs:=Sgn.txt_size (n:=n) (m:=4) (by decide) (by lia)
  have h45:(Sgn.txt n).cps[0]?≠some 45:=fun e=>by
   have hc:=ht.1
   unfold Sgn.cnt at hc
   rw [Bool.and_eq_true] at hc
   have hm:45∈(Sgn.txt n).cps.toList:=List.mem_of_getElem? (i:=0) (by rw [Array.getElem?_toList];exact e)
   exact absurd (List.all_eq_true.mp hc.2 45 hm) (by decide)
  have h48:Sgn.txt n≠⟨#[48]⟩:=fun e=>by
   have hc:=ht.1
   rw [e,Sgn.cnt_nought (by rfl)] at hc
   cases hc
  refine⟨?_,Nat.le_trans hs (by decide)⟩
  unfold sgd
  rw [show Str.ofString (toString ((n:Nat):Int))=Sgn.txt n from rfl,if_neg h48,if_neg h45,ht.1,ht.2,if_pos rfl]
end Nam
namespace Mth
noncomputable def gens (ms:List Int) (rs:List (List Int)):List (List Int):=(List.range 5).map fun i=>mulv (rs.getD i []) (ms.getD i 0)
end Mth
namespace Gap
structure Sg (P:Int→Int→Prop):Prop where
 add:∀ {n j n' j':Int},P n j→P n' j'→P (n+n') (j+j')
 neg:∀ {n j:Int},P n j→P (-n) (-j)→False
 tot:∀ n j:Int,j≠0→P n j∨P (-n) (-j)
 oct:∀ {n:Int},P n 0→0<n
section
variable {P:Int→Int→Prop} {o:Int→Int} {N:Int}
structure Ch (P:Int→Int→Prop) (o:Int→Int) (N:Int):Prop where
 s:Sg P
 z:o 0=0
 f:∀ j,0<j→j<N→P (o j) j∧P (1 - o j) (-j)
variable (C:Ch P o N)
include C
variable {a b:Int} (a0:0<a) (a1:a<N) (mn:∀ j,0<j→j<N→j≠a→P (o j - o a) (j - a)) (b0:0<b) (b1:b<N) (mx:∀ j,0<j→j<N→j≠b→P (o b - o j) (b - j))
include a0 a1 mn in
include a0 a1 mn in
include b0 b1 mx in
include b0 b1 mx in
include a0 a1 mn b0 b1 mx in
include a0 a1 mn b0 b1 mx in
include a0 a1 mn b0 b1 mx in
end
end Gap
namespace Nam
open PySem
noncomputable def J (c:Nat):List (List Nat)→List Nat
 | []=>[]
 | [x]=>x
 | x::y::r=>x++c::J c (y::r)
end Nam
namespace Mth
noncomputable def eb:Nat→Nat→Nat
 | 0,e=>e
 | k+1,e=>eb k (2*e+1)
end Mth
namespace Mth
noncomputable def hdv (w r:List Int):List Int:=r++[dt r w]
end Mth
namespace L2
open PySem PySem.Spec PyProof.Rows
noncomputable def Fixed (K:PySem.W.Frag) (a:Addr) (xs:List V):Prop:=∀ H,SqT K H a xs
theorem Fixed.at {K:PySem.W.Frag} {a:Addr} {xs:List V} {H:Hp} (h:Fixed K a xs):SqT K H a xs:=h H
theorem Same.lst {H H':Hp} {a:Addr} {xs:List V} (e:Same H H') (h:H a=some (.lst xs)):H' a=some (.lst xs):=e _ _ h
theorem Same.upd_old {H H2:Hp} {l:Addr} {o:HO} (s:Same H H2) (h:H l=none):Same H (upd H2 l o):=fun b u e=>by
 rw [upd_ne (ne_of_none e h)];exact s _ _ e
noncomputable def rBl:V→Hp→(Bool→Hp→Prop)→Prop:=fun x H R=>∃ c,x=.bl c∧R c H
noncomputable def rIn1:V→Hp→(Option Int→Hp→Prop)→Prop:=fun x H R=>∃ i,x=.int i∧R (some i) H
noncomputable def rNewT:List V→Hp→VK→Prop:=fun xs H Q=>xs.length≤sizeLine∧∀ p,H p=none→Q (.ref p) (upd H p (.tup xs))
noncomputable def rNewL:List V→Hp→VK→Prop:=fun xs H Q=>xs.length≤sizeLine∧∀ p,H p=none→Q (.ref p) (upd H p (.lst xs))
noncomputable def rLen (K:PySem.W.Frag):List V→Hp→VK→Prop:=fun xs H Q=>∃ p ys,xs=[.ref p]∧(SqL K H p ys∨SqT K H p ys)∧Q (.int ys.length) H
noncomputable def rTupleOf (K:PySem.W.Frag):List V→Hp→VK→Prop:=fun xs H Q=>∃ p ys,xs=[.ref p]∧((SqL K H p ys∧∀ l,H l=none→Q (.ref l) (upd H l (.tup ys)))∨(SqT K H p ys∧Q (.ref p) H))
noncomputable def rListOf (K:PySem.W.Frag):List V→Hp→VK→Prop:=fun xs H Q=>∃ p ys,xs=[.ref p]∧(SqL K H p ys∨SqT K H p ys)∧∀ l,H l=none→Q (.ref l) (upd H l (.lst ys))
noncomputable def rIsInst (K:PySem.W.Frag):List V→Hp→VK→Prop:=fun xs H Q=>∃ x n t b,xs=[x,.ty n]∧TyR K H x t∧PySem.W.kitOne K t (.type n)=some b∧Q (.bl b) H
noncomputable def rAbs:List V→Hp→VK→Prop:=fun xs H Q=>∃ i,xs=[.int i]∧Q (.int (if i<0 then -i else i)) H
noncomputable def rItL (K:PySem.W.Frag):V→Hp→(It→Hp→Prop)→Prop:=fun x H R=>∃ a,x=.ref a∧(∃ xs,SqL K H a xs)∧R (Itl K a) H
noncomputable def rItT (K:PySem.W.Frag):V→Hp→(It→Hp→Prop)→Prop:=fun x H R=>∃ a,x=.ref a∧(∃ xs,SqT K H a xs)∧R (Itt K a) H
noncomputable def rItR:List V→Hp→(It→Hp→Prop)→Prop:=fun vs H R=>∃ j:Int,vs=[.int j]∧-(2 ^ 62)≤j∧j<2 ^ 62∧R (Itr 0 j.toNat) H
noncomputable def rItZ (K:PySem.W.Frag) (k1 k2:Bool):List V→Hp→(It→Hp→Prop)→Prop:=fun vs H R=>∃ a b,vs=[.ref a,.ref b]∧(∃ xs,Sq k1 K H a xs)∧(∃ ys,Sq k2 K H b ys)∧R (Itz K k1 k2 a b) H
noncomputable def rTyped (K:PySem.W.Frag) (T:String) (ts:TA) (r:V→List V→Hp→VK→Prop) (σ:St) (Q:VK):V→Hp→Prop:=fun x H1=>tyV K T x H1∧ts σ H1 fun xs H2=>r x xs H2 Q
noncomputable def ForGoal (g:TG) (tb:TS) (D:Ends) (J:It) (σ:St) (H:Hp):Prop:=∃ W:Nat→Nat→St→Hp→Prop,(∃ m,W 0 m σ H)∧∀ i m σ H,W i m σ H →
 (J.stop i H∧D.nx σ H)∨(J.go i H∧∃ N:St→Hp→Prop,(∀ σ' H',N σ' H'→∃ m',m'<m∧W (i+1) m' σ' H')∧∀ x H',J.yld i H x H'→g x σ H' fun σ2 H2=>tb { D with nx:=N,ct:=N,bk:=D.nx } σ2 H2)
section
variable {X:Cx}
theorem callN_len:CallR X (.builtin "len") (rLen X.K):=call_len_seq
theorem callN_tuple:CallR X (.type "tuple") (rTupleOf X.K):=call_tuple_of
theorem callN_list:CallR X (.type "list") (rListOf X.K):=call_list_of
theorem callN_isinst:CallR X (.builtin "isinstance") (rIsInst X.K):=call_isinst
theorem callN_abs:CallR X (.builtin "abs") rAbs:=call_abs
end
section
variable {t u:TS} {D:Ends} {σ:St} {H:Hp} {te ta tb:TE} {g:TG} {tt tu:TT} {Q:VK} {i j:Int} {x y v w:V} {K:PySem.W.Frag}
theorem r_seq (h:t { D with nx:=u D } σ H):tSeq t u D σ H:=h
theorem r_asg (h:te σ H fun x H1=>g x σ H1 D.nx):tAsg te g D σ H:=h
theorem r_gname {n:Nat} {R:St→Hp→Prop} (h:R (σ.set n (some v)) H):gName n v σ H R:=h
theorem r_ret (h:te σ H D.rt):tRet te D σ H:=h
theorem r_drop (h:te σ H fun _ H1=>D.nx σ H1):tDrop te D σ H:=h
theorem r_next (h:D.nx σ H):tNext D σ H:=h
theorem r_ifs {c:TT} (h:c σ H fun b H1=>if b=true then t D σ H1 else u D σ H1):tIfS c t u D σ H:=h
theorem r_var {n:Nat} (e:σ[n]?=some (some v)) (h:Q v H):tVar n σ H Q:=⟨v,e,h⟩
theorem r_c (h:Q v H):tC v σ H Q:=h
theorem r_op {r:R2} (h:ta σ H fun x H1=>tb σ H1 fun y H2=>r x y H2 Q):tOp r ta tb σ H Q:=h
theorem r_un {r:V→Hp→VK→Prop} (h:ta σ H fun x H1=>r x H1 Q):tUn r ta σ H Q:=h
theorem r_b {R:Bool→Hp→Prop} (h:te σ H fun x H1=>rBl x H1 R):tB te σ H R:=h
theorem r_test {R:Bool→Hp→Prop} (h:te σ H fun x H1=>rBl x H1 R):tTest te σ H R:=h
theorem r_isbl {b:Bool} {R:Bool→Hp→Prop} (h:R b H):rBl (.bl b) H R:=⟨b,rfl,h⟩
theorem r_and {R:Bool→Hp→Prop} (h:tt σ H fun c H1=>if c=true then tu σ H1 R else R false H1):tAnd tt tu σ H R:=h
theorem r_or {R:Bool→Hp→Prop} (h:tt σ H fun c H1=>if c=true then R true H1 else tu σ H1 R):tOr tt tu σ H R:=h
theorem r_not {R:Bool→Hp→Prop} (h:tt σ H fun c H1=>R (!c) H1):tNot tt σ H R:=h
theorem r_andV (h:ta σ H fun x H1=>rBl x H1 fun c H2=>if c=true then tb σ H2 Q else Q (.bl false) H2):tAndV ta tb σ H Q:=h
theorem r_orV (h:ta σ H fun x H1=>rBl x H1 fun c H2=>if c=true then Q (.bl true) H2 else tb σ H2 Q):tOrV ta tb σ H Q:=h
theorem r_notV (h:ta σ H fun x H1=>rBl x H1 fun c H2=>Q (.bl (!c)) H2):tNotV ta σ H Q:=h
theorem r_ife (h:tt σ H fun c H1=>if c=true then ta σ H1 Q else tb σ H1 Q):tIf tt ta tb σ H Q:=h
theorem r_I0 {f:Int→Int→V} (h:Q (f i j) H):rI0 f (.int i) (.int j) H Q:=⟨i,j,rfl,rfl,h⟩
theorem r_I {C:Int→Int→Prop} {f:Int→Int→V} (c:C i j) (h:Q (f i j) H):rI C f (.int i) (.int j) H Q:=⟨i,j,rfl,rfl,c,h⟩
theorem r_U {f:Int→V} (h:Q (f i) H):rU f (.int i) H Q:=⟨i,rfl,h⟩
theorem decI {i j:Int}:decide (V.int i=V.int j)=decide (i=j):=by
 by_cases e:i=j
 ·subst e;simp
 ·rw [decide_eq_false e];exact decide_eq_false fun z=>e (by injection z)
theorem r_eqI (h:Q (.bl (decide (i=j))) H):rEq (.int i) (.int j) H Q:=⟨rfl,by rw [decI];exact h⟩
theorem r_neI (h:Q (.bl (!decide (i=j))) H):rNe (.int i) (.int j) H Q:=⟨rfl,by rw [decI];exact h⟩
theorem r_nil {R:List V→Hp→Prop} (h:R [] H):tNil σ H R:=h
theorem r_cons {ts:TA} {R:List V→Hp→Prop} (h:te σ H fun x H1=>ts σ H1 fun xs H2=>R (x::xs) H2):tCons te ts σ H R:=h
theorem r_tup {ts:TA} (h:ts σ H fun xs H1=>rNewT xs H1 Q):tTup ts σ H Q:=h
theorem r_lst {ts:TA} (h:ts σ H fun xs H1=>rNewL xs H1 Q):tLst ts σ H Q:=h
theorem r_newT {xs:List V} (hl:xs.length≤1000) (h:∀ p H2,Same H H2→H2 p=some (.tup xs)→Q (.ref p) H2):rNewT xs H Q :=
 ⟨Nat.le_of_lt (small1000 hl),fun p hp=>h p _ (Same.upd_new hp) upd_same⟩
theorem r_newL {xs:List V} (hl:xs.length≤1000) (h:∀ p H2,H p=none→Same H H2→H2 p=some (.lst xs)→Q (.ref p) H2):rNewL xs H Q :=
 ⟨Nat.le_of_lt (small1000 hl),fun p hp=>h p _ hp (Same.upd_new hp) upd_same⟩
theorem r_cb {r:List V→Hp→VK→Prop} {ts:TA} (h:ts σ H fun vs H1=>r vs H1 Q):tCB r ts σ H Q:=h
theorem r_comp {ix:List (Option Nat)} {wi:TI} (h:wi σ H fun J H1=>CompGoal ix g tt te σ Q J H1):tComp ix wi g tt te σ H Q:=h
theorem r_sl {r:V→Option Int→Option Int→Hp→VK→Prop} {tl th:TO} (h:te σ H fun x H1=>tl σ H1 fun l H2=>th σ H2 fun u H3=>r x l u H3 Q):tSl r te tl th σ H Q:=h
theorem r_nopart {R:Option Int→Hp→Prop} (h:R none H):tNoPart σ H R:=h
theorem r_part {R:Option Int→Hp→Prop} (h:te σ H fun x H1=>rIn1 x H1 R):tPart te σ H R:=h
theorem r_isint {R:Option Int→Hp→Prop} (h:R (some i) H):rIn1 (.int i) H R:=⟨i,rfl,h⟩
theorem r_bm {T:String} {r:V→List V→Hp→VK→Prop} {ts:TA} (h:te σ H fun x H1=>rTyped K T ts r σ Q x H1):tBM K T r te ts σ H Q:=h
theorem r_for {wi:TI} {tb:TS} (h:wi σ H fun J H1=>ForGoal g tb D J σ H1):tFor wi g tb D σ H:=h
theorem r_ilist {R:It→Hp→Prop} (h:te σ H fun x H1=>rItL K x H1 R):iList K te σ H R:=h
theorem r_itup {R:It→Hp→Prop} (h:te σ H fun x H1=>rItT K x H1 R):iTup K te σ H R:=h
theorem r_irng {ts:TA} {R:It→Hp→Prop} (h:ts σ H fun vs H1=>rItR vs H1 R):iRng1 ts σ H R:=h
theorem r_izip {k1 k2:Bool} {ts:TA} {R:It→Hp→Prop} (h:ts σ H fun vs H1=>rItZ K k1 k2 vs H1 R):iZip2 K k1 k2 ts σ H R:=h
theorem r_isl {a:Addr} {xs:List V} {R:It→Hp→Prop} (e:SqL K H a xs) (h:R (Itl K a) H):rItL K (.ref a) H R:=⟨a,rfl,⟨_,e⟩,h⟩
theorem r_ist {a:Addr} {xs:List V} {R:It→Hp→Prop} (e:SqT K H a xs) (h:R (Itt K a) H):rItT K (.ref a) H R:=⟨a,rfl,⟨_,e⟩,h⟩
theorem r_isr {R:It→Hp→Prop} (h1:-1000000≤j) (h2:j≤1000000) (h:R (Itr 0 j.toNat) H):rItR [.int j] H R:=⟨j,rfl,by lia,by lia,h⟩
theorem r_isz {k1 k2:Bool} {a b:Addr} {xs ys:List V} {R:It→Hp→Prop} (e1:Sq k1 K H a xs) (e2:Sq k2 K H b ys) (h:R (Itz K k1 k2 a b) H):rItZ K k1 k2 [.ref a,.ref b] H R:=⟨a,b,rfl,⟨_,e1⟩,⟨_,e2⟩,h⟩
theorem sqt_sq {a:Addr} {xs:List V} (h:SqT K H a xs):Sq true K H a xs:=h
theorem sql_sq {a:Addr} {xs:List V} (h:SqL K H a xs):Sq false K H a xs:=h
theorem r_ixT {a:Addr} {xs:List V} (e:SqT K H a xs) (n:atI xs i=some v) (h:Q v H):rIx K (.ref a) (.int i) H Q:=.inr (.inl ⟨a,xs,i,v,rfl,rfl,e,n,h⟩)
theorem r_ixL {a:Addr} {xs:List V} (e:SqL K H a xs) (n:atI xs i=some v) (h:Q v H):rIx K (.ref a) (.int i) H Q:=.inl ⟨a,xs,i,v,rfl,rfl,e,n,h⟩
theorem r_lenT {a:Addr} {xs:List V} (e:SqT K H a xs) (h:Q (.int xs.length) H):rLen K [.ref a] H Q:=⟨a,xs,rfl,.inr e,h⟩
theorem r_lenL {a:Addr} {xs:List V} (e:SqL K H a xs) (h:Q (.int xs.length) H):rLen K [.ref a] H Q:=⟨a,xs,rfl,.inl e,h⟩
theorem r_tupleL {a:Addr} {xs:List V} (e:SqL K H a xs) (h:∀ p H2,Same H H2→H2 p=some (.tup xs)→Q (.ref p) H2):rTupleOf K [.ref a] H Q :=
 ⟨a,xs,rfl,.inl ⟨e,fun p hp=>h p _ (Same.upd_new hp) upd_same⟩⟩
theorem r_listL {a:Addr} {xs:List V} (e:SqL K H a xs) (h:∀ p H2,H p=none→Same H H2→H2 p=some (.lst xs)→Q (.ref p) H2):rListOf K [.ref a] H Q:=⟨a,xs,rfl,.inl e,fun p hp=>h p _ hp (Same.upd_new hp) upd_same⟩
theorem r_abs (h:Q (.int (if i<0 then -i else i)) H):rAbs [.int i] H Q:=⟨i,rfl,h⟩
theorem r_typed {T:String} {ts:TA} {r:V→List V→Hp→VK→Prop} (e:tyV K T x H) (h:ts σ H fun xs H2=>r x xs H2 Q):rTyped K T ts r σ Q x H:=⟨e,h⟩
theorem r_append {l:Addr} {xs:List V} (e:H l=some (.lst xs)) (n:xs.length≤1000) (h:Q .non (upd H l (.lst (xs++[y])))):rAppend (.ref l) [y] H Q:=⟨l,xs,y,rfl,rfl,e,small1000 n,h⟩
theorem r_cat {a b:Addr} {xs ys:List V} (e1:H a=some (.lst xs)) (e2:H b=some (.lst ys)) (n:xs.length+ys.length≤1000) (h:∀ p H2,H p=none→Same H H2→H2 p=some (.lst (xs++ys))→Q (.ref p) H2):rCat (.ref a) (.ref b) H Q :=
 ⟨a,b,xs,ys,rfl,rfl,e1,e2,Nat.le_of_lt (small1000 n),fun p hp=>h p _ hp (Same.upd_new hp) upd_same⟩
theorem r_catT {a b:Addr} {xs ys:List V} (e1:SqT K H a xs) (e2:SqT K H b ys) (n1:xs≠[]) (n2:ys≠[]) (n:xs.length+ys.length≤1000) (h:∀ p H2,Same H H2→H2 p=some (.tup (xs++ys))→Q (.ref p) H2):rCatT K (.ref a) (.ref b) H Q :=
 ⟨a,b,xs,ys,rfl,rfl,e1,e2,n1,Nat.le_of_lt (small1000 n),fun z=>absurd z n2,fun _ p hp=>h p _ (Same.upd_new hp) upd_same⟩
theorem r_slT {a:Addr} {xs:List V} {lo hi:Option Int} (e:SqT K H a xs) (n:¬ (HT.sIx xs.length 0 lo=0∧HT.sIx xs.length xs.length hi=xs.length)) (h:∀ p H2,Same H H2→H2 p=some (.tup (cutV xs lo hi))→Q (.ref p) H2):rSlT K (.ref a) lo hi H Q :=
 ⟨a,xs,rfl,e,n,fun p hp=>h p _ (Same.upd_new hp) upd_same⟩
theorem r_isiT {a:Addr} {xs:List V} {n:String} {b:Bool} (e:SqT K H a xs) (k:PySem.W.kitOne K (.type "tuple") (.type n)=some b) (h:Q (.bl b) H):rIsInst K [.ref a,.ty n] H Q:=⟨_,n,_,b,rfl,.inr (.inl ⟨a,xs,rfl,e,rfl⟩),k,h⟩
theorem r_isiL {a:Addr} {xs:List V} {n:String} {b:Bool} (e:SqL K H a xs) (k:PySem.W.kitOne K (.type "list") (.type n)=some b) (h:Q (.bl b) H):rIsInst K [.ref a,.ty n] H Q:=⟨_,n,_,b,rfl,.inr (.inr ⟨a,xs,rfl,e,rfl⟩),k,h⟩
theorem r_isiI {n:String} {b:Bool} (k:PySem.W.kitOne K (.type "int") (.type n)=some b) (h:Q (.bl b) H):rIsInst K [.int i,.ty n] H Q:=⟨_,n,_,b,rfl,.inl (.int _),k,h⟩
theorem r_isiB {c:Bool} {n:String} {b:Bool} (k:PySem.W.kitOne K (.type "bool") (.type n)=some b) (h:Q (.bl b) H):rIsInst K [.bl c,.ty n] H Q:=⟨_,n,_,b,rfl,.inl (.bl _),k,h⟩
end
theorem if_tt {c:Bool} {A B:Prop} (e:c=true) (h:A):if c=true then A else B:=by rw [if_pos e];exact h
theorem if_ff {c:Bool} {A B:Prop} (e:c=false) (h:B):if c=true then A else B:=by rw [e];exact iteF h
theorem if_both {c:Bool} {A B:Prop} (h1:c=true→A) (h2:c=false→B):if c=true then A else B:=by
 cases c with
 | true=>exact iteT (h1 rfl)
 | false=>exact iteF (h2 rfl)
end L2
namespace L2
open PySem PySem.Spec PyProof.Rows
section
variable {t u:TS} {D:Ends} {σ:St} {H:Hp} {te ta tb:TE} {g:TG} {tt tu:TT} {Q:VK} {i j:Int} {x y v w:V} {K:PySem.W.Frag} {X:Cx}
theorem r_call0 {sp:Sp} {E:XK} {ts:TA} (h:ts σ H fun vs H1=>sp vs H1 Q E):tCall sp [] E ts σ H Q:=by
 unfold tCall
 simp only [List.append_nil]
 exact h
noncomputable def WGo (tb:TS) (D:Ends) (W:Nat→St→Hp→Prop) (m:Nat) (σ:St) (H1:Hp):Prop:=∃ N:St→Hp→Prop,(∀ σ' H',N σ' H'→∃ m',m'<m∧W m' σ' H')∧tb { D with nx:=N,ct:=N,bk:=D.nx } σ H1
theorem f_while {c:TT} {tb:TS} (W:Nat→St→Hp→Prop) (m:Nat) (h0:W m σ H) (hs:∀ m σ H,W m σ H→c σ H fun b H1=>if b=true then WGo tb D W m σ H1 else D.nx σ H1):tWhile c tb D σ H:=⟨W,⟨m,h0⟩,hs⟩
theorem w_go {tb:TS} {W:Nat→St→Hp→Prop} {m:Nat} (h:tb { D with nx:=fun σ' H'=>∃ m',m'<m∧W m' σ' H',ct:=fun σ' H'=>∃ m',m'<m∧W m' σ' H',bk:=D.nx } σ H):WGo tb D W m σ H:=⟨_,fun _ _ z=>z,h⟩
end
end L2
namespace L2
open PySem PySem.Spec PyProof.Rows
section
variable {X:Cx} (K:PySem.W.Frag) (hK:X.K=K)
include hK
theorem kN_len:CallR X (.builtin "len") (rLen K):=hK ▸ callN_len
theorem kN_tuple:CallR X (.type "tuple") (rTupleOf K):=hK ▸ callN_tuple
theorem kN_list:CallR X (.type "list") (rListOf K):=hK ▸ callN_list
theorem kN_isinst:CallR X (.builtin "isinstance") (rIsInst K):=hK ▸ callN_isinst
theorem kx_seq:IxR X (rIx K):=hK ▸ ix_seq
theorem ksl_tup:SlR X (rSlT K):=hK ▸ sl_tup
theorem kop_catT:OpR X (binaryOp .Add) (rCatT K):=hK ▸ op_catT
theorem kpi_list {tg l:Expr} {tl:TE} (hl:PE X l tl):PI X tg l (iList K tl):=hK ▸ pi_list hl
theorem kpi_tup {tg l:Expr} {tl:TE} (hl:PE X l tl):PI X tg l (iTup K tl):=hK ▸ pi_tup hl
theorem kpi_zip2 (k1 k2:Bool) {es:List Expr} {kk:Nat} {tpos:Pos} {a b:Expr} {ta:TA} {p pos:Pos} (hg:Gl X "zip") (hm:X.mg "zip"=none) (ha:PA X [a,b] ta) (hs:starEach [a,b] X.env=[(false,eval a X.env),(false,eval b X.env)]:=by rfl) (hs2:starEach [b] X.env=[(false,eval b X.env)]:=by rfl) :
  PI X (.Tuple es kk tpos) (.Call (.Name "zip" p) [a,b] [] pos) (iZip2 K k1 k2 ta):=hK ▸ pi_zip2 k1 k2 hg hm ha hs hs2
theorem kpg_tup {es:List Expr} {k:Nat} {t:TGs} {n:Nat} {pos:Pos} (hc:X.calm=true) (h:PGs X es t)
  (hn:(assignEach es X.env).length=n:=by rfl) (hst:(assignEach es X.env).findIdx? (·.1)=none:=by rfl):PG X (.Tuple es k pos) (gTup K n t):=hK ▸ pg_tup hc h hn hst
end
end L2
namespace L2
open PySem PySem.Spec PyProof.Rows
section
variable {H:Hp} {Q:VK} {K:PySem.W.Frag}
theorem cut_tail (x:V) (xs:List V):cutV (x::xs) (some 1) none=xs:=by
 have e:HT.sIx (x::xs).length 0 (some 1)=1:=by
  have h:=HT.sIx_nat (x::xs).length 0 1
  simp only [List.length_cons] at h ⊢
  have h2:min 1 (xs.length+1)=1:=by lia
  rw [h2] at h
  exact h
 unfold cutV
 rw [e,HT.sIx_none]
 simp
theorem r_slT1 {a:Addr} {x:V} {xs:List V} (e:SqT K H a (x::xs)) (h:∀ p H2,Same H H2→H2 p=some (.tup xs)→Q (.ref p) H2):rSlT K (.ref a) (some 1) none H Q :=
 r_slT e (fun z=>by
  have h2:=HT.sIx_nat (x::xs).length 0 1
  have h3:HT.sIx (x::xs).length 0 (some 1)=min 1 (x::xs).length:=h2
  rw [h3] at z
  have:=z.1
  simp only [List.length_cons] at this
  lia) fun p H2 s m=>h p H2 s (by rw [cut_tail] at m;exact m)
end
end L2
namespace PySem.F
theorem typeCall_zip_3 (a b c:Value):checkTypeCall "zip" ⟨[a,b,c],[]⟩=pure ():=by kernel_rfl
theorem newCall_zip_3 (a b c:Value):checkBuiltinCall "zip.__new__" ⟨[.type "zip",a,b,c],[]⟩=pure ():=by kernel_rfl
end PySem.F
namespace L2
open PySem
section
variable {prog:Program} {w:World} {A:Around} {E:Value→Shared→Prop} {s:Shared}
structure Zip3 (k1 k2 k3:Bool) (n a b c:Nat) (i:Nat) (f0:Value) (h:Heap):Prop where
 z:IsZip h (n+5) (n+3) (n+4) f0
 ti:IsT h (n+3) #[.ref n,.ref (n+1),.ref (n+2)]
 to:∃ u v x,IsT h (n+4) #[u,v,x]
 i1:ItAt k1 h n a i
 i2:ItAt k2 h (n+1) b i
 i3:ItAt k3 h (n+2) c i
theorem zip3_next {k1 k2 k3:Bool} {n a b c:Nat} {i:Nat} {xs ys zs:Array Value} {x y zz:Value} {Q:Value→Shared→Prop} (Z:Zip3 k1 k2 k3 n a b c i .none s.heap) (ha:a<n) (hb:b<n) (hc:c<n)
  (h1:SrcOf k1 s.heap a xs) (h2:SrcOf k2 s.heap b ys) (h3:SrcOf k3 s.heap c zs) (hx:xs[i]?=some x) (hy:ys[i]?=some y) (hz0:zs[i]?=some zz)
  (hQ:∀ h',Zip3 k1 k2 k3 n a b c (i+1) (rawInt s.heap.objs.size) h'→IsT h' s.heap.objs.size #[x,y,zz]→h'.objs.size=s.heap.objs.size+1→Off [n,n+1,n+2,n+4,n+5] s.heap h'→Q (.ref s.heap.objs.size) { s with heap:=h' }) :
  wpAny (model prog w) A (Builtin.«zip.__next__» ⟨[.ref (n+5)],[]⟩) (fun fin s'=>∃ v,fin=.done (.ret v)∧Q v s') E s:=by
 obtain ⟨hz,hTI,⟨u,v,x0,hTO⟩,hi1,hi2,hi3⟩:=Z
 show wpAny _ _ (field (.ref (n+5)) 2 >>= _) _ _ _
 refine wpAny_bind (wpAny_field hz rfl (x:=.bool false) rfl ?_)
 show wpAny _ _ (field (.ref (n+5)) 3 >>= _) _ _ _
 refine wpAny_bind (wpAny_field hz rfl (x:=.ref (n+3)) rfl ?_)
 refine wpAny_bind (wpAny_seqItems hTI rfl ?_)
 show wpAny _ _ (Builtin.SmallTypes.ownedTupleIsFree (.ref (n+5)) >>= _) _ _ _
 refine wpAny_bind ?_
 unfold Builtin.SmallTypes.ownedTupleIsFree
 refine wpAny_bind (wpAny_field hz rfl (x:=.none) rfl (wpAny_pure ?_))
 simp only [if_true]
 refine wpAny_bind (wpAny_rule ?_)
 refine wpAny_bind (wpAny_field hz rfl (x:=.ref (n+4)) rfl ?_)
 refine wpAny_bind (wpAny_setField_rec hz (by simp) fun g1 hz1 hs1=>?_)
 replace hz1:IsZip g1 (n+5) (n+3) (n+4) .ellipsis:=hz1
 refine wpAny_bind ?_
 simp only [List.zipIdx_cons,List.zipIdx_nil,List.forIn_cons,List.forIn_nil]
 refine wpAny_bind (wpAny_bind (wpAny_onRaise ?_))
 show wpAny _ _ (Builtin.SmallTypes.nextOf (.ref n) >>= _) _ _ _
 refine wpAny_bind (sub_item (hi1.keep fun o e=>(hs1.2 _ (nne (by lia))).trans e) (h1.keep fun o e=>(hs1.2 _ (nne (by lia))).trans e) hx fun g2 hi1' hs2=>wpAny_pure ?_)
 have up2:∀ d o,d≠n+5→d≠n→s.heap.get? d=some o→g2.get? d=some o:=fun d o d1 d2 e=>(hs2.2 _ d2).trans ((hs1.2 _ d1).trans e)
 have hTO2:IsT g2 (n+4) #[u,v,x0]:=up2 _ _ (nne (by lia)) (nne (by lia)) hTO
 refine wpAny_bind (wpAny_seqItems hTO2 rfl ?_)
 refine wpAny_bind (upd_tup hTO2 (by simp) fun g3 hTO3 hs3=>?_)
 replace hTO3:IsT g3 (n+4) #[x,v,x0]:=hTO3
 refine wpAny_bind (wpAny_letGo (wpAny_pure ?_))
 refine wpAny_bind (wpAny_bind (wpAny_onRaise ?_))
 show wpAny _ _ (Builtin.SmallTypes.nextOf (.ref (n+1)) >>= _) _ _ _
 refine wpAny_bind (sub_item (hi2.keep fun o e=>(hs3.2 _ (nne (by lia))).trans (up2 _ _ (nne (by lia)) (nne (by lia)) e)) (h2.keep fun o e=>(hs3.2 _ (nne (by lia))).trans (up2 _ _ (nne (by lia)) (nne (by lia)) e)) hy fun g4 hi2' hs4=>wpAny_pure ?_)
 have up4:∀ d o,d≠n+4→d≠n+1→g2.get? d=some o→g4.get? d=some o:=fun d o d1 d2 e=>(hs4.2 _ d2).trans ((hs3.2 _ d1).trans e)
 have hTO4:IsT g4 (n+4) #[x,v,x0]:=(hs4.2 _ (nne (by lia))).trans hTO3
 refine wpAny_bind (wpAny_seqItems hTO4 rfl ?_)
 refine wpAny_bind (upd_tup hTO4 (by simp) fun g5 hTO5 hs5=>?_)
 replace hTO5:IsT g5 (n+4) #[x,y,x0]:=hTO5
 refine wpAny_bind (wpAny_letGo (wpAny_pure ?_))
 refine wpAny_bind (wpAny_bind (wpAny_onRaise ?_))
 show wpAny _ _ (Builtin.SmallTypes.nextOf (.ref (n+2)) >>= _) _ _ _
 refine wpAny_bind (sub_item (hi3.keep fun o e=>(hs5.2 _ (nne (by lia))).trans (up4 _ _ (nne (by lia)) (nne (by lia)) (up2 _ _ (nne (by lia)) (nne (by lia)) e))) (h3.keep fun o e=>(hs5.2 _ (nne (by lia))).trans (up4 _ _ (nne (by lia)) (nne (by lia)) (up2 _ _ (nne (by lia)) (nne (by lia)) e))) hz0 fun g6 hi3' hs6=>wpAny_pure ?_)
 have up6:∀ d o,d≠n+4→d≠n+2→g4.get? d=some o→g6.get? d=some o:=fun d o d1 d2 e=>(hs6.2 _ d2).trans ((hs5.2 _ d1).trans e)
 have hTO6:IsT g6 (n+4) #[x,y,x0]:=(hs6.2 _ (nne (by lia))).trans hTO5
 refine wpAny_bind (wpAny_seqItems hTO6 rfl ?_)
 refine wpAny_bind (upd_tup hTO6 (by simp) fun g7 hTO7 hs7=>?_)
 replace hTO7:IsT g7 (n+4) #[x,y,zz]:=hTO7
 refine wpAny_bind (wpAny_letGo (wpAny_pure (wpAny_pure ?_)))
 refine wpAny_bind (wpAny_seqItems hTO7 rfl ?_)
 refine wpAny_bind (wpAny_newTuple ?_)
 have hsz:g7.objs.size=s.heap.objs.size:=by rw [hs7.1,hs6.1,hs5.1,hs4.1,hs3.1,hs2.1,hs1.1]
 have all7:∀ d o,d≠n→d≠n+1→d≠n+2→d≠n+4→g1.get? d=some o→g7.get? d=some o:=fun d o d0 d1 d2 d4 e=>(hs7.2 _ d4).trans (up6 _ _ d4 d2 (up4 _ _ d4 d1 ((hs2.2 _ d0).trans e)))
 have hz7:IsZip g7 (n+5) (n+3) (n+4) .ellipsis:=all7 _ _ (nne (by lia)) (nne (by lia)) (nne (by lia)) (nne (by lia)) hz1
 have off7:Off [n,n+1,n+2,n+4,n+5] s.heap g7:=fun d o hd e=>by
  simp only [List.mem_cons,List.not_mem_nil,or_false,not_or] at hd
  exact all7 d o hd.1 hd.2.1 hd.2.2.1 hd.2.2.2.1 ((hs1.2 _ hd.2.2.2.2).trans e)
 have hzlt:n+5<g7.objs.size:=Heap.lt_size hz7
 show wpAny _ _ (Builtin.SmallTypes.ownedTupleHandOut (.ref (n+5)) (.ref g7.objs.size) >>= _) _ _ _
 refine wpAny_bind ?_
 unfold Builtin.SmallTypes.ownedTupleHandOut
 have hz8:IsZip (g7.push { cls:=.type "tuple",data:=.seq #[x,y,zz] }) (n+5) (n+3) (n+4) .ellipsis:=Heap.get?_push_of_some _ hz7
 refine wpAny_bind (wpAny_setField_rec hz8 (by simp) fun g9 hz9 hs9=>?_)
 replace hz9:IsZip g9 (n+5) (n+3) (n+4) (rawInt g7.objs.size):=hz9
 refine wpAny_setField_rec hz9 (by simp) fun gA hzA hsA=>?_
 replace hzA:IsZip gA (n+5) (n+3) (n+4) (rawInt g7.objs.size):=hzA
 have up:∀ d o,d≠n+5→g7.get? d=some o→gA.get? d=some o:=fun d o d1 e=>(hsA.2 _ d1).trans ((hs9.2 _ d1).trans (Heap.get?_push_of_some _ e))
 have hTA:IsT gA g7.objs.size #[x,y,zz]:=(hsA.2 _ (Nat.ne_of_gt hzlt)).trans ((hs9.2 _ (Nat.ne_of_gt hzlt)).trans (Heap.get?_push_size _ rfl))
 have hzA':gA.objs.size=g7.objs.size+1:=by rw [hsA.1,hs9.1,Heap.size_push]
 rw [hsz] at hzA hTA hzA'
 refine wpAny_pure ⟨_,rfl,?_⟩
 show Q (.ref g7.objs.size) _
 rw [hsz]
 refine hQ gA ⟨hzA,up _ _ (nne (by lia)) (off7 _ _ (by simp) hTI),⟨x,y,zz,up _ _ (nne (by lia)) hTO7⟩,?_,?_,?_⟩ hTA hzA' fun d o hd e=>?_
 ·exact hi1'.keep fun o e=>up _ o (nne (by lia)) ((hs7.2 _ (nne (by lia))).trans (up6 _ _ (nne (by lia)) (nne (by lia)) (up4 _ _ (nne (by lia)) (nne (by lia)) e)))
 ·exact hi2'.keep fun o e=>up _ o (nne (by lia)) ((hs7.2 _ (nne (by lia))).trans (up6 _ _ (nne (by lia)) (nne (by lia)) e))
 ·exact hi3'.keep fun o e=>up _ o (nne (by lia)) ((hs7.2 _ (nne (by lia))).trans e)
 ·exact up d o (fun z=>hd (by simp [z])) (off7 d o hd e)
theorem zip3_stop {k1 k2 k3:Bool} {n a b c:Nat} {i:Nat} {xs:Array Value} {Q:Fin→Shared→Prop} (hh:A.handled=none) (Z:Zip3 k1 k2 k3 n a b c i .none s.heap) (ha:a<n)
  (h1:SrcOf k1 s.heap a xs) (hx:xs[i]?=none)
  (hE:∀ h' e,Off [n,n+1,n+2,n+4,n+5] s.heap h'→(∃ o,h'.get? e=some o∧o.cls=.type "StopIteration")→E (.ref e) { s with heap:=h' }) :
  wpAny (model prog w) A (Builtin.«zip.__next__» ⟨[.ref (n+5)],[]⟩) Q E s:=by
 obtain ⟨hz,hTI,⟨u,v,x0,hTO⟩,hi1,hi2,hi3⟩:=Z
 show wpAny _ _ (field (.ref (n+5)) 2 >>= _) _ _ _
 refine wpAny_bind (wpAny_field hz rfl (x:=.bool false) rfl ?_)
 show wpAny _ _ (field (.ref (n+5)) 3 >>= _) _ _ _
 refine wpAny_bind (wpAny_field hz rfl (x:=.ref (n+3)) rfl ?_)
 refine wpAny_bind (wpAny_seqItems hTI rfl ?_)
 show wpAny _ _ (Builtin.SmallTypes.ownedTupleIsFree (.ref (n+5)) >>= _) _ _ _
 refine wpAny_bind ?_
 unfold Builtin.SmallTypes.ownedTupleIsFree
 refine wpAny_bind (wpAny_field hz rfl (x:=.none) rfl (wpAny_pure ?_))
 simp only [if_true]
 refine wpAny_bind (wpAny_rule ?_)
 refine wpAny_bind (wpAny_field hz rfl (x:=.ref (n+4)) rfl ?_)
 refine wpAny_bind (wpAny_setField_rec hz (by simp) fun g1 hz1 hs1=>?_)
 replace hz1:IsZip g1 (n+5) (n+3) (n+4) .ellipsis:=hz1
 refine wpAny_bind ?_
 simp only [List.zipIdx_cons,List.zipIdx_nil,List.forIn_cons,List.forIn_nil]
 refine wpAny_bind (wpAny_bind (wpAny_onRaise ?_))
 show wpAny _ _ (Builtin.SmallTypes.nextOf (.ref n) >>= _) _ _ _
 refine wpAny_bind (sub_end hh (hi1.keep fun o e=>(hs1.2 _ (nne (by lia))).trans e) (h1.keep fun o e=>(hs1.2 _ (nne (by lia))).trans e) hx fun g2 e hs2 he=>?_)
 obtain ⟨oe,hoe,hce⟩:=he
 have hz2:IsZip g2 (n+5) (n+3) (n+4) .ellipsis:=hs2 _ _ (nne (by lia)) hz1
 have hez:e≠n+5:=fun z=>by subst z;rw [hz2] at hoe;cases hoe;simp at hce
 exact wpAny_setField_rec hz2 (by simp) fun g9 _ hs9=>hE g9 e (((Off.of hs1 (by simp)).trans fun d o hd q=>hs2 d o (fun z=>hd (by simp [z])) q).trans (Off.of hs9 (by simp))) ⟨oe,(hs9.2 _ hez).trans hoe,hce⟩
theorem pyNext_zip3 {k1 k2 k3:Bool} {n a b c:Nat} {i:Nat} {xs ys zs:Array Value} {x y zz:Value} {Q:Option Value→Shared→Prop} (Z:Zip3 k1 k2 k3 n a b c i .none s.heap) (ha:a<n) (hb:b<n) (hc:c<n)
  (h1:SrcOf k1 s.heap a xs) (h2:SrcOf k2 s.heap b ys) (h3:SrcOf k3 s.heap c zs) (hx:xs[i]?=some x) (hy:ys[i]?=some y) (hz0:zs[i]?=some zz)
  (hQ:∀ h',Zip3 k1 k2 k3 n a b c (i+1) (rawInt s.heap.objs.size) h'→IsT h' s.heap.objs.size #[x,y,zz]→h'.objs.size=s.heap.objs.size+1→Off [n,n+1,n+2,n+4,n+5] s.heap h'→Q (some (.ref s.heap.objs.size)) { s with heap:=h' }) :
  wpAny (model prog w) A (pyNext (.ref (n+5))) Q E s:=by
 have hT:s.TypeIs (.ref (n+5)) "zip":=⟨_,Z.z,rfl⟩
 unfold pyNext
 exact wpAny_bind (wpAny_attempt (wpAny_callSpecial?_slot (name:=Str.ofString "__next__") hT F.slot_zip_next
  (wpAny_call_entry F.slot_zip_next hT F.entry_zip_next
   (zip3_next Z ha hb hc h1 h2 h3 hx hy hz0 fun h' a1 a2 a3 a4=>wpAny_pure (hQ h' a1 a2 a3 a4)) (F.args_zip_next_1 _))))
theorem pyNext_zip3_end {k1 k2 k3:Bool} {n a b c:Nat} {i:Nat} {xs:Array Value} {Q:Option Value→Shared→Prop} (hh:A.handled=none) (Z:Zip3 k1 k2 k3 n a b c i .none s.heap) (ha:a<n)
  (h1:SrcOf k1 s.heap a xs) (hx:xs[i]?=none)
  (hQ:∀ h',Off [n,n+1,n+2,n+4,n+5] s.heap h'→Q none { s with heap:=h' }):wpAny (model prog w) A (pyNext (.ref (n+5))) Q E s:=by
 have hT:s.TypeIs (.ref (n+5)) "zip":=⟨_,Z.z,rfl⟩
 unfold pyNext
 refine wpAny_bind (wpAny_attempt (wpAny_callSpecial?_slot (name:=Str.ofString "__next__") hT F.slot_zip_next
  (wpAny_call_entry F.slot_zip_next hT F.entry_zip_next (zip3_stop (A:=A.in1) hh Z ha h1 hx fun h' e hk he=>?_) (F.args_zip_next_1 _))))
 obtain ⟨o,ho,hc⟩:=he
 refine wpAny_bind (wpAny_isInstance (T:="StopIteration") (b:=true) ⟨o,ho,hc⟩ isSubtype_stop ?_)
 exact wpAny_pure (hQ _ hk)
end
noncomputable abbrev zh6 (k1 k2 k3:Bool) (h:Heap) (a b c:Addr):Heap:=(((((h.push (itObj k1 a)).push (itObj k2 b)).push (itObj k3 c)).push { cls:=.type "tuple",data:=.seq #[.ref h.objs.size,.ref (h.objs.size+1),.ref (h.objs.size+2)] }).push { cls:=.type "tuple",data:=.seq #[.none,.none,.none] }).push
 { cls:=.type "zip",data:=.fields #[.none,.bool false,.bool false,.ref (h.objs.size+3),.ref (h.objs.size+4)] }
theorem zip3_made (k1 k2 k3:Bool) (a b c:Addr) (xs ys zs:Array Value) :
  Meets (Builtin.«zip.__new__» ⟨[.type "zip",.ref a,.ref b,.ref c],[]⟩) (fun _ R s=>SrcOf k1 s.heap a xs∧SrcOf k2 s.heap b ys∧SrcOf k3 s.heap c zs ∧
   R (.ok (.ret (.ref (s.heap.objs.size+5)))) { s with heap:=zh6 k1 k2 k3 s.heap a b c }) :=
 .of_wp fun prog w A R s h=>by
  obtain ⟨hp,g,d,tk,os⟩:=s;obtain ⟨hl1,hl2,hl3,h⟩:=h
  have hsub:=sub_zip
  have hL1:SrcOf k1 (Shared.heap ⟨hp,g,d,tk,os⟩) a xs:=hl1
  have hL2:SrcOf k2 (Shared.heap ⟨hp.push (itObj k1 a),g,d,tk,os⟩) b ys:=SrcOf.keep hl2 fun o e=>Heap.get?_push_of_some _ e
  have hL3:SrcOf k3 (Shared.heap ⟨(hp.push (itObj k1 a)).push (itObj k2 b),g,d,tk,os⟩) c zs:=SrcOf.keep hl3 fun o e=>Heap.get?_push_of_some _ (Heap.get?_push_of_some _ e)
  wp_walk using src_iter hL1,src_iter hL2,src_iter hL3
  refine⟨_,rfl,?_⟩
  simp only [Heap.size_push]
  exact h
end L2
namespace PySem.F
theorem args_object_init_4 (a b c d:Value):argsOk "object.__init__" ⟨[a,b,c,d],[]⟩:=by
 unfold argsOk;rw [signature?_of (id:="object.__init__") (n:=['_','_','t','i','n','i','_','_']) (o:=['t','c','e','j','b','o']) (by kernel_rfl) owner_object];kernel_rfl
end PySem.F
namespace L2
open PySem PySem.Spec PyProof.Rows
theorem off_mem3 {c:Addr} {n:Nat} (z:c∈([n,n+1,n+2,n+4,n+5]:List Addr)):c∈([n+5,n+3,n+4,n,n+1,n+2]:List Addr):=by
 simp only [List.mem_cons,List.not_mem_nil,or_false] at z ⊢
 rcases z with h|h|h|h|h <;> simp [h]
noncomputable def Itz3 (K : PySem.W.Frag) (k1 k2 k3 : Bool) (a b c : Addr) : It :=
  ⟨fun i H => ∃ xs ys zs x y z, Sq k1 K H a xs ∧ Sq k2 K H b ys ∧ Sq k3 K H c zs ∧ xs[i]?=some x ∧ ys[i]?=some y ∧ zs[i]?=some z,
   fun i H v H' => ∃ p x y z, v=.ref p ∧ H p=none ∧ (∀ xs, Sq k1 K H a xs → xs[i]?=some x) ∧ (∀ ys, Sq k2 K H b ys → ys[i]?=some y) ∧ (∀ zs, Sq k3 K H c zs → zs[i]?=some z) ∧ H'=upd H p (.tup [x, y, z]),
   fun i H => ∃ xs, Sq k1 K H a xs ∧ xs.length ≤ i⟩
theorem turn_zip3 {P:Program} {w:World} {K:PySem.W.Frag} {es:List Expr} {kk:Nat} {pos:Pos} {k1 k2 k3:Bool} (n a b c:Nat) (ha:a<n) (hb:b<n) (hc:c<n) :
  Turn P w K (.Tuple es kk pos) (Itz3 K k1 k2 k3 a b c) [n+5,n+3,n+4,n,n+1,n+2] (n+5) (fun i h=>Zip3 k1 k2 k3 n a b c i .none h) where
 mem:=by simp
 obj:=fun i h st d hd=>by
  obtain ⟨hz,hTI,⟨u,v,x,hTO⟩,hi1,hi2,hi3⟩:=st
  simp only [List.mem_cons,List.not_mem_nil,or_false] at hd
  rcases hd with rfl|rfl|rfl|rfl|rfl|rfl
  ·exact⟨_,hz,fun v z=>nomatch z⟩
  ·exact⟨_,hTI,fun v z=>nomatch z⟩
  ·exact⟨_,hTO,fun v z=>nomatch z⟩
  ·exact hi1.obj
  ·exact hi2.obj
  ·exact hi3.obj
 keep:=fun i h h' st k=>by
  obtain ⟨hz,hTI,⟨u,v,x,hTO⟩,hi1,hi2,hi3⟩:=st
  exact⟨k _ (by simp) _ hz,k _ (by simp) _ hTI,⟨u,v,x,k _ (by simp) _ hTO⟩,hi1.keep fun o e=>k _ (by simp) o e,hi2.keep fun o e=>k _ (by simp) o e,hi3.keep fun o e=>k _ (by simp) o e⟩
 item:=by
  intro X hP hw hK hcl i pins s σ H E I hf st hg
  subst hP hw hK
  obtain ⟨xs,ys,zs,x,y,z,qx,qy,qz,ex,ey,ez⟩:=hg
  obtain ⟨is1,r1,s1,_⟩:=I.sq qx
  obtain ⟨is2,r2,s2,_⟩:=I.sq qy
  obtain ⟨is3,r3,s3,_⟩:=I.sq qz
  obtain ⟨u,hu,ru⟩:=r1.get ex
  obtain ⟨v,hv,rv⟩:=r2.get ey
  obtain ⟨t,ht,rt⟩:=r3.get ez
  refine pyNext_zip3 st ha hb hc s1 s2 s3 (x:=u) (y:=v) (zz:=t) (by simpa using hu) (by simpa using hv) (by simpa using ht) fun h' Z hT hsz off=>⟨_,rfl,?_⟩
  have hTn:H s.heap.objs.size=none:=I.hok.fresh (Nat.le_refl _)
  have zlt:n+5<s.heap.objs.size:=Heap.lt_size st.z
  refine wpAny_letOwnedTupleGo_zip Z.z fun h2 hz2 hs2=>?_
  have off2:Off [n+5,n+3,n+4,n,n+1,n+2] s.heap h2:=fun d o hd e=>(hs2.2 d fun z=>hd (by simp [z])).trans (off d o (fun z=>hd (off_mem3 z)) e)
  have hT2:IsT h2 s.heap.objs.size #[u,v,t]:=(hs2.2 _ (Nat.ne_of_gt zlt)).trans hT
  refine⟨.ref s.heap.objs.size,upd H s.heap.objs.size (.tup [x,y,z]),?_,rfl,⟨_,x,y,z,rfl,hTn,fun zs' hzs=>by rw [I.sq_inj hzs qx];exact ex,fun zs' hzs=>by rw [I.sq_inj hzs qy];exact ey,fun zs' hzs=>by rw [I.sq_inj hzs qz];exact ez,rfl⟩,?_,fun d hd=>?_⟩
  ·refine Inv.off (s:=s) (h':=h2) (t':=s.toks) (ch:=[n+5,n+3,n+4,n,n+1,n+2]) I hf off2 (I.hok.offNew (fun d hd=>(hf d hd).1) off2 (Nat.le_refl _) ?_) (fun d o _ e hn=>?_) fun d o e=>?_
   ·exact⟨by show 3≤sizeLine;decide,[u,v,t],.cons ru (.cons rv (.cons rt .nil)),⟨_,hT2,rfl,_,rfl⟩⟩
   ·rw [upd_ne (Nat.ne_of_lt (Heap.lt_size e))];exact hn
   ·rw [upd_ne (ne_of_none e hTn)];exact e
  ·obtain ⟨z1,z2,⟨a1,a2,a3,z3⟩,z4,z5,z6⟩:=Z
   exact⟨hz2,(hs2.2 _ (nne (by lia))).trans z2,⟨a1,a2,a3,(hs2.2 _ (nne (by lia))).trans z3⟩,z4.keep fun o e=>(hs2.2 _ (nne (by lia))).trans e,z5.keep fun o e=>(hs2.2 _ (nne (by lia))).trans e,z6.keep fun o e=>(hs2.2 _ (nne (by lia))).trans e⟩
  ·have cn:d≠s.heap.objs.size:=by
    simp only [List.mem_cons,List.not_mem_nil,or_false] at hd
    rcases hd with rfl|rfl|rfl|rfl|rfl|rfl <;> exact nne (by lia)
   rw [upd_ne cn];exact (hf d hd).1
 done:=by
  intro X hP hw hK hcl i pins s σ H E I hf st hg
  subst hP hw hK
  obtain ⟨xs,qx,hend⟩:=hg
  obtain ⟨is1,r1,s1,_⟩:=I.sq qx
  have e1:=r1.length
  refine pyNext_zip3_end (I.ok.hd hcl) st ha s1 (by simp;lia) fun h' off=>⟨rfl,?_⟩
  have off2:Off [n+5,n+3,n+4,n,n+1,n+2] s.heap h':=fun d o hd e=>off d o (fun z=>hd (off_mem3 z)) e
  exact Inv.off (s:=s) (t':=s.toks) I hf off2 (I.hok.off (fun d hd=>(hf d hd).1) off2) (fun _ _ _ _ q=>q) fun _ _ q=>q
 self:=fun _ _ _ _ _ st h=>wpAny_pyIter_zip st.z h
noncomputable def rItZ3 (K:PySem.W.Frag) (k1 k2 k3:Bool):List V→Hp→(It→Hp→Prop)→Prop:=fun vs H R=>∃ a b c,vs=[.ref a,.ref b,.ref c]∧(∃ xs,Sq k1 K H a xs)∧(∃ ys,Sq k2 K H b ys)∧(∃ zs,Sq k3 K H c zs)∧R (Itz3 K k1 k2 k3 a b c) H
noncomputable def iZip3 (K:PySem.W.Frag) (k1 k2 k3:Bool) (ta:TA):TI:=fun σ H R=>ta σ H fun vs H1=>rItZ3 K k1 k2 k3 vs H1 R
section
variable {X:Cx}
theorem vals3 {x y z:V} {us:List Value} (r:Vals [x,y,z] us):∃ u v w',us=[u,v,w']∧RelV x u∧RelV y v∧RelV z w':=by
 cases r with
 | cons r1 t=>cases t with
  | cons r2 t=>cases t with
   | cons r3 t=>cases t;exact⟨_,_,_,rfl,r1,r2,r3⟩
theorem pi_zip3 (k1 k2 k3:Bool) {es:List Expr} {kk:Nat} {tpos:Pos} {a b c:Expr} {ta:TA} {p pos:Pos} (hg:Gl X "zip") (hm:X.mg "zip"=none) (ha:PA X [a,b,c] ta) (hs:starEach [a,b,c] X.env=(false,eval a X.env)::starEach [b,c] X.env:=by rfl) (hpl:(backTo pos (starEach [b,c] X.env)).any (·.1)=false:=by rfl) :
  PI X (.Tuple es kk tpos) (.Call (.Name "zip" p) [a,b,c] [] pos) (iZip3 X.K k1 k2 k3 ta):=by
 intro pins s σ H R I h
 refine Call_ (ld_blt I hg hm boot_zip (PyProof.Rows.callWith_type1 (thn (ha pos pins s σ H _ I h) fun us s1 ⟨vs,H1,I1,r1,q1⟩=>?_) hs hpl))
 obtain ⟨a',b',c',e,⟨xs,qx⟩,⟨ys,qy⟩,⟨zs,qz⟩,q⟩:=q1
 subst e
 obtain ⟨u,v,t,rfl,ru,rv,rt⟩:=vals3 r1
 cases ru
 cases rv
 cases rt
 obtain ⟨is1,r1,s1',_⟩:=I1.sq qx
 obtain ⟨is2,r2,s2',_⟩:=I1.sq qy
 obtain ⟨is3,r3,s3',_⟩:=I1.sq qz
 refine callType_new PySem.F.called_zip (by decide) (PySem.F.typeCall_zip_3 _ _ _) (PySem.F.newCall_zip_3 _ _ _) (fun obj=>PySem.F.args_object_init_4 obj _ _ _) PySem.F.entry_zip_new (zip3_made k1 k2 k3 a' b' c' is1.toArray is2.toArray is3.toArray) ⟨s1',s2',s3',?_⟩
 have z1:(s1.heap.push (itObj k1 a')).objs.size=s1.heap.objs.size+1:=Heap.size_push ..
 have z2:((s1.heap.push (itObj k1 a')).push (itObj k2 b')).objs.size=s1.heap.objs.size+2:=by rw [Heap.size_push,z1]
 have z3:(((s1.heap.push (itObj k1 a')).push (itObj k2 b')).push (itObj k3 c')).objs.size=s1.heap.objs.size+3:=by rw [Heap.size_push,z2]
 have z4:((((s1.heap.push (itObj k1 a')).push (itObj k2 b')).push (itObj k3 c')).push { cls:=.type "tuple",data:=.seq #[.ref s1.heap.objs.size,.ref (s1.heap.objs.size+1),.ref (s1.heap.objs.size+2)] }).objs.size=s1.heap.objs.size+4:=by rw [Heap.size_push,z3]
 have z5:(((((s1.heap.push (itObj k1 a')).push (itObj k2 b')).push (itObj k3 c')).push { cls:=.type "tuple",data:=.seq #[.ref s1.heap.objs.size,.ref (s1.heap.objs.size+1),.ref (s1.heap.objs.size+2)] }).push { cls:=.type "tuple",data:=.seq #[.none,.none,.none] }).objs.size=s1.heap.objs.size+5:=by rw [Heap.size_push,z4]
 have g6:(zh6 k1 k2 k3 s1.heap a' b' c').get? (s1.heap.objs.size+5)=some { cls:=.type "zip",data:=.fields #[.none,.bool false,.bool false,.ref (s1.heap.objs.size+3),.ref (s1.heap.objs.size+4)] }:=by rw [← z5];exact Heap.get?_push_size _ rfl
 have g5:(zh6 k1 k2 k3 s1.heap a' b' c').get? (s1.heap.objs.size+4)=some { cls:=.type "tuple",data:=.seq #[.none,.none,.none] }:=by rw [← z4];exact Heap.get?_push_of_some _ (Heap.get?_push_size _ rfl)
 have g4:(zh6 k1 k2 k3 s1.heap a' b' c').get? (s1.heap.objs.size+3)=some { cls:=.type "tuple",data:=.seq #[.ref s1.heap.objs.size,.ref (s1.heap.objs.size+1),.ref (s1.heap.objs.size+2)] }:=by rw [← z3];exact Heap.get?_push_of_some _ (Heap.get?_push_of_some _ (Heap.get?_push_size _ rfl))
 have g3:(zh6 k1 k2 k3 s1.heap a' b' c').get? (s1.heap.objs.size+2)=some (itObj k3 c'):=by rw [← z2];exact Heap.get?_push_of_some _ (Heap.get?_push_of_some _ (Heap.get?_push_of_some _ (Heap.get?_push_size _ (by cases k3 <;> rfl))))
 have g2:(zh6 k1 k2 k3 s1.heap a' b' c').get? (s1.heap.objs.size+1)=some (itObj k2 b'):=by rw [← z1];exact Heap.get?_push_of_some _ (Heap.get?_push_of_some _ (Heap.get?_push_of_some _ (Heap.get?_push_of_some _ (Heap.get?_push_size _ (by cases k2 <;> rfl)))))
 have g1:(zh6 k1 k2 k3 s1.heap a' b' c').get? s1.heap.objs.size=some (itObj k1 a'):=Heap.get?_push_of_some _ (Heap.get?_push_of_some _ (Heap.get?_push_of_some _ (Heap.get?_push_of_some _ (Heap.get?_push_of_some _ (Heap.get?_push_size _ (by cases k1 <;> rfl))))))
 have old:∀ d o,s1.heap.get? d=some o→(zh6 k1 k2 k3 s1.heap a' b' c').get? d=some o:=fun d o x=>Heap.get?_push_of_some _ (Heap.get?_push_of_some _ (Heap.get?_push_of_some _ (Heap.get?_push_of_some _ (Heap.get?_push_of_some _ (Heap.get?_push_of_some _ x)))))
 have Z:Zip3 k1 k2 k3 s1.heap.objs.size a' b' c' 0 .none (zh6 k1 k2 k3 s1.heap a' b' c'):=⟨g6,g4,⟨_,_,_,g5⟩,itObj_at g1,itObj_at g2,itObj_at g3⟩
 show _∧_
 refine⟨⟨_,g6,rfl⟩,wpAny_pyIter_zip Z.z ?_⟩
 refine⟨_,_,_,_,H1,rfl,I1.kept (t':=s1.toks) old,turn_zip3 s1.heap.objs.size a' b' c' s1'.lt s2'.lt s3'.lt,Z,fun d hd=>?_,q⟩
 have hcl:s1.heap.objs.size≤d:=by
  simp only [List.mem_cons,List.not_mem_nil,or_false] at hd
  rcases hd with rfl|rfl|rfl|rfl|rfl|rfl <;> first|exact Nat.le_add_right _ _|exact Nat.le_refl _
 exact I1.fpOk hcl (I1.hok.fresh hcl)
theorem kpi_zip3 (K:PySem.W.Frag) (hK:X.K=K) (k1 k2 k3:Bool) {es:List Expr} {kk:Nat} {tpos:Pos} {a b c:Expr} {ta:TA} {p pos:Pos} (hg:Gl X "zip") (hm:X.mg "zip"=none) (ha:PA X [a,b,c] ta) (hs:starEach [a,b,c] X.env=(false,eval a X.env)::starEach [b,c] X.env:=by rfl) (hpl:(backTo pos (starEach [b,c] X.env)).any (·.1)=false:=by rfl) :
  PI X (.Tuple es kk tpos) (.Call (.Name "zip" p) [a,b,c] [] pos) (iZip3 K k1 k2 k3 ta):=hK ▸ pi_zip3 k1 k2 k3 hg hm ha hs hpl
end
section
variable {D:Ends} {σ:St} {H:Hp} {K:PySem.W.Frag}
theorem r_izip3 {k1 k2 k3:Bool} {ts:TA} {R:It→Hp→Prop} (h:ts σ H fun vs H1=>rItZ3 K k1 k2 k3 vs H1 R):iZip3 K k1 k2 k3 ts σ H R:=h
theorem r_isz3 {k1 k2 k3:Bool} {a b c:Addr} {xs ys zs:List V} {R:It→Hp→Prop} (e1:Sq k1 K H a xs) (e2:Sq k2 K H b ys) (e3:Sq k3 K H c zs) (h:R (Itz3 K k1 k2 k3 a b c) H):rItZ3 K k1 k2 k3 [.ref a,.ref b,.ref c] H R:=⟨a,b,c,rfl,⟨_,e1⟩,⟨_,e2⟩,⟨_,e3⟩,h⟩
end
end L2
namespace L2
open PySem PySem.Spec PyProof.Rows
noncomputable def rm (H:Hp) (l:Addr):Hp:=fun b=>if b=l then none else H b
theorem rm_at {H:Hp} {l:Addr}:rm H l l=none:=by unfold rm;rw [if_pos rfl]
theorem rm_ne {H:Hp} {l b:Addr} (h:b≠l):rm H l b=H b:=by unfold rm;rw [if_neg h]
theorem rm_same {H:Hp} {l:Addr}:Same (rm H l) H:=fun b o e=>by
 by_cases h:b=l
 ·subst h;rw [rm_at] at e;cases e
 ·rw [rm_ne h] at e;exact e
theorem rm_sqT {K:PySem.W.Frag} {H:Hp} {l a:Addr} {xs ys:List V} (h:SqT K H a xs) (hl:H l=some (.lst ys)):SqT K (rm H l) a xs:=by
 have ne:∀ {o},H a=some o→(∀ zs,o≠.lst zs)→a≠l:=fun {o} e n z=>by subst z;rw [hl] at e;exact n _ (Option.some.inj e).symm
 rcases h with (h|⟨o,h⟩)|h
 ·exact .inl (.inl (by rw [rm_ne (ne h fun _ z=>nomatch z)];exact h))
 ·exact .inl (.inr ⟨o,by rw [rm_ne (ne h fun _ z=>nomatch z)];exact h⟩)
 ·exact .inr h
end L2
namespace L2
open PySem PySem.Spec PyProof.Rows PySem.W
structure XCls (K:Frag) (C:Addr):Prop where
 ga:findIn K (.ref C) "__getattribute__"=some (some (.builtin "BaseException.__getattribute__"))
 gt:findIn K (.ref C) "__getattr__"=some none
 fc:findObj K C none "__class__"=some (.bind (.builtin "getset_descriptor.__get__") (.builtin "object.__class__"))
 ob:mroIn K C (.type "object")=some true
 be:subIn K (.ref C) (.type "BaseException")=some true
 cl:(clsIn K C).isSome=true
end L2
namespace L2
open PySem PySem.Spec PyProof.Rows PySem.W
noncomputable def ExcO (a C:Addr):HO:=.ext fun h=>∃ ox,PySem.W.InstAt h a ox C none
section
variable {M:Model} {A:Around} {E:Value→Shared→Prop} {s:Shared}
theorem entry_core {base:Heap} {env:Env} {outer:List Env} {L e:Addr} {oe:Obj} {vs:Array Value} {head:Value} {hadNext:Bool} {Q:Unit→Shared→Prop}
  (hfr:A.frames=some (env::outer)) (hl:s.heap.FunFrames base (env::outer)) (hf:env.frame=some L)
  (he:s.heap.get? e=some oe) (hd:oe.data=.fields vs) (hsz:1<vs.size)
  (h:∀ h' T,(∀ b o,b≠e→b∉frs (env::outer)→s.heap.get? b=some o→h'.get? b=some o)→(∀ b o,b≠e→s.heap.get? b=some o→∃ sl,h'.get? b=some { o with slots:=sl }) →
   s.heap.get? T=none→T≠e→h'.get? e=some (oe.mapFields (·.setIfInBounds 1 (.ref T)))→(∃ oT ts,h'.get? T=some oT∧oT.data=.fields ts∧ts[3]?=some .none)→Q () { s with heap:=h' }) :
  wpAny M A (do let a ← frameOf env;let pl ← entryPlaceOf L hadNext;let b ← EntryCells.newEntry head a .none (rawInt L) .none pl;setField (.ref e) 1 b) (fun _ s'=>wpAny M A (setFlight (.ref e) none) Q E s') E s:=by
 have hene:e∉(env::outer).filterMap (·.frame):=fun hm=>by
  obtain ⟨_,o,ho,hnf⟩:=hl.mem hm
  rw [he] at ho;injection ho with ho;subst ho;exact hnf vs hd
 refine wpAny_bind (wpAny_frameOf_fun hfr hl hf fun h₁ hs₁=>?_)
 refine wpAny_bind (wpAny_entryPlaceOf fun pl hpl=>?_)
 unfold EntryCells.newEntry newFields
 refine wpAny_bind (wpAny_newObj_type ?_ (hpl.sizeOk5 _ _ _ _ _))
 have he₁:h₁.get? e=some oe:=(hs₁.2.1 e hene).trans he
 have he₂:=Heap.get?_push_of_some (h:=h₁) { cls:=.type "traceback",dict:=none,data:=.fields ([head,.ref L,.none,rawInt L,.none]++(if pl.isEmpty then List.replicate 6 Value.none else pl)).toArray } he₁
 refine wpAny_setField he₂ hd hsz ?_
 have hTe:h₁.objs.size≠e:=Nat.ne_of_gt (Heap.lt_size he₁)
 have hd₃:=Obj.data_mapFields hd (·.setIfInBounds 1 (Value.ref h₁.objs.size))
 have he₃:=Heap.get?_update_self (Obj.mapFields (·.setIfInBounds 1 (Value.ref h₁.objs.size))) he₂ (Obj.isFreed_of_fields hd₃)
 have hT₃:=(Heap.get?_update_other (h₁.push { cls:=.type "traceback",dict:=none,data:=.fields ([head,.ref L,.none,rawInt L,.none]++(if pl.isEmpty then List.replicate 6 Value.none else pl)).toArray })
  (Obj.mapFields (·.setIfInBounds 1 (Value.ref h₁.objs.size))) (Ne.symm hTe)).trans (Heap.get?_push_size h₁ rfl)
 unfold setFlight
 refine wpAny_bind (wpAny_field he₃ hd₃ (x:=.ref h₁.objs.size) (by simp [hsz]) ?_)
 rw [if_pos (show (Value.ref h₁.objs.size != Value.none)=true from by simp)]
 have keep:∀ b o,b≠e→h₁.get? b=some o →
   (((h₁.push { cls:=.type "traceback",dict:=none,data:=.fields ([head,.ref L,.none,rawInt L,.none]++(if pl.isEmpty then List.replicate 6 Value.none else pl)).toArray }).update e (Obj.mapFields (·.setIfInBounds 1 (Value.ref h₁.objs.size)))).update h₁.objs.size
    (Obj.mapFields (·.setIfInBounds 3 ((none:Option Addr).elim Value.none fun f=>rawInt f)))).get? b=some o:=fun b o hbe hb=>by
  have hbT:h₁.objs.size≠b:=Nat.ne_of_gt (Heap.lt_size hb)
  rw [Heap.get?_update_other _ _ hbT,Heap.get?_update_other _ _ (Ne.symm hbe)]
  exact Heap.get?_push_of_some _ hb
 refine wpAny_setField hT₃ rfl (by simp only [List.size_toArray,List.length_append,List.length_cons,List.length_nil] <;> lia) (h _ h₁.objs.size (fun b o hbe hbf hb=>keep b o hbe ((hs₁.2.1 b hbf).trans hb)) (fun b o hbe hb=>?_) (Heap.get?_none_of_le (by rw [hs₁.1];exact Nat.le_refl _)) hTe ?_ ?_)
 ·obtain ⟨sl,hs⟩:=hs₁.2.2 b o hb
  exact⟨sl,keep b _ hbe hs⟩
 ·rw [Heap.get?_update_other _ _ hTe];exact he₃
 ·exact⟨_,_,Heap.get?_update_self _ hT₃ (Obj.isFreed_of_fields (Obj.data_mapFields rfl _)),Obj.data_mapFields rfl _,by first|(simp;done)|(rcases hpl with rfl|⟨_,_,_,_,_,_,_,rfl⟩ <;> simp)⟩
noncomputable def HeadOk (h:Heap) (e:Addr) (vs:Array Value):Option Addr→Prop
 | none=>vs[1]?=some .none
 | some T=>vs[1]?=some (.ref T)∧T≠e∧∃ oT ts,h.get? T=some oT∧oT.data=.fields ts∧ts[3]?=some .none
theorem note_core {base:Heap} {env:Env} {outer:List Env} {L e:Addr} {oe:Obj} {vs:Array Value} {T0:Option Addr} {Q:Unit→Shared→Prop}
  (hfr:A.frames=some (env::outer)) (hl:s.heap.FunFrames base (env::outer)) (hf:env.frame=some L)
  (he:s.heap.get? e=some oe) (hd:oe.data=.fields vs) (hh:HeadOk s.heap e vs T0)
  (h:∀ h' T,(∀ b o,b≠e→some b≠T0→b∉frs (env::outer)→s.heap.get? b=some o→h'.get? b=some o)→(∀ b o,b≠e→some b≠T0→s.heap.get? b=some o→∃ sl,h'.get? b=some { o with slots:=sl }) →
   s.heap.get? T=none→T≠e→h'.get? e=some (oe.mapFields (·.setIfInBounds 1 (.ref T)))→(∃ oT ts,h'.get? T=some oT∧oT.data=.fields ts∧ts[3]?=some .none)→Q () { s with heap:=h' }) :
  wpAny M A (noteFrame (.ref e) env) (fun _ s'=>wpAny M A (setFlight (.ref e) none) Q E s') E s:=by
 unfold noteFrame
 simp only [hf]
 cases T0 with
 | none =>
  have h1:vs[1]?=some .none:=hh
  refine wpAny_bind (wpAny_field he hd h1 ?_)
  rw [if_neg (by decide)]
  exact entry_core hfr hl hf he hd (Array.getElem?_eq_some_iff.mp h1).1 fun h' T k1 k2 k3 k4 k5 k6=>h h' T (fun b o b1 _ b3 b4=>k1 b o b1 b3 b4) (fun b o b1 _ b3=>k2 b o b1 b3) k3 k4 k5 k6
 | some T =>
  obtain ⟨h1,hTe,oT,ts,hT,hdT,h3⟩:=hh
  refine wpAny_bind (wpAny_field he hd h1 ?_)
  rw [if_pos (show (Value.ref T != Value.none)=true from by simp)]
  refine wpAny_bind (wpAny_field hT hdT h3 ?_)
  rw [if_neg (show ¬ ((Value.none == rawInt L)=true) from by simp [rawInt])]
  refine wpAny_bind (wpAny_setField hT hdT (Array.getElem?_eq_some_iff.mp h3).1 ?_)
  have other:∀ b,b≠T→(s.heap.update T (Obj.mapFields (·.setIfInBounds 3 Value.none))).get? b=s.heap.get? b:=fun b hb=>Heap.get?_update_other _ _ (Ne.symm hb)
  have noRecord:∀ b o,s.heap.get? b=some o→(∀ vs,o.data≠.fields vs)→b≠T:=fun b o hb hnf q=>by
   rw [q,hT] at hb;injection hb with hb;subst hb;exact hnf ts hdT
  have hT2:=Heap.get?_update_self (Obj.mapFields (·.setIfInBounds 3 Value.none)) hT (Obj.isFreed_of_fields (Obj.data_mapFields hdT _))
  refine entry_core hfr (hl.of_keeps fun b o hb hnf=>⟨o,(other b (noRecord b o hb hnf)).trans hb,rfl⟩) hf ((other e (Ne.symm hTe)).trans he) hd (Array.getElem?_eq_some_iff.mp h1).1 fun h' T' k1 k2 k3 k4 k5 k6=>?_
  refine h h' T' (fun b o b1 b2 b3 b4=>k1 b o b1 b3 ((other b fun z=>b2 (by rw [z])).trans b4)) (fun b o b1 b2 b4=>k2 b o b1 ((other b fun z=>b2 (by rw [z])).trans b4)) ?_ k4 k5 k6
  by_cases hq:T'=T
  ·rw [hq,hT2] at k3;cases k3
  ·rw [other T' hq] at k3;exact k3
theorem flight_again {e:Addr} {oe:Obj} {vs:Array Value} {T:Addr} {Q:Unit→Shared→Prop} (he:s.heap.get? e=some oe) (hd:oe.data=.fields vs) (hh:HeadOk s.heap e vs (some T))
  (h:∀ h',(∀ b o,b≠T→s.heap.get? b=some o→h'.get? b=some o)→(∃ oT ts,h'.get? T=some oT∧oT.data=.fields ts∧ts[3]?=some .none)→Q () { s with heap:=h' }):wpAny M A (setFlight (.ref e) none) Q E s:=by
 obtain ⟨h1,hTe,oT,ts,hT,hdT,h3⟩:=hh
 have hsz3:3<ts.size:=(Array.getElem?_eq_some_iff.mp h3).1
 unfold setFlight
 refine wpAny_bind (wpAny_field he hd h1 ?_)
 rw [if_pos (show (Value.ref T != Value.none)=true from by simp)]
 refine wpAny_setField hT hdT hsz3 (h _ (fun b o hb e=>(Heap.get?_update_other _ _ (Ne.symm hb)).trans e) ⟨_,_,Heap.get?_update_self _ hT (Obj.isFreed_of_fields (Obj.data_mapFields hdT _)),Obj.data_mapFields hdT _,?_⟩)
 simp [hsz3]
end
end L2
namespace L2
open PySem PySem.Spec PyProof.Rows PySem.W
theorem ObjOk.there {P:Program} {w:World} {H:Hp} {h:Heap} {a:Addr} {o:HO} (x:ObjOk P w H h a o):∃ ob,h.get? a=some ob:=by
 cases o with
 | lst xs=>obtain ⟨_,_,_,_,e⟩:=x;exact⟨_,e⟩
 | tup xs=>obtain ⟨_,_,_,ob,e,_⟩:=x;exact⟨_,e⟩
 | dK kvs=>obtain ⟨_,_,_,_,o,_,_,e,_⟩:=x;exact⟨_,e⟩
 | dT kvs=>obtain ⟨_,_,_,_,o,_,_,e,_⟩:=x;exact⟨_,e⟩
 | set S n=>obtain ⟨o,_,_,_,e,_⟩:=x;exact⟨_,e⟩
 | ins C dx fs=>obtain ⟨_,_,_,e,_⟩:=x;exact⟨_,e⟩
 | own y=>obtain ⟨_,e⟩:=x;exact⟨_,e⟩
 | xd fs=>obtain ⟨_,⟨_,_,_,e,_⟩,_⟩:=x;exact⟨_,e⟩
 | rng lo hi=>obtain ⟨_,_,_,e⟩:=x;exact⟨_,e⟩
 | frz ob u=>obtain ⟨e,_⟩:=x;exact⟨_,e⟩
 | tbl ps=>exact⟨_,(show h.get? a=some _ from x)⟩
 | met f y=>exact⟨_,(show h.get? a=some _ from x)⟩
 | ext φ=>obtain ⟨_,⟨_,e⟩,_⟩:=x;exact⟨_,e⟩
theorem HOk.free {P:Program} {w:World} {H:Hp} {h:Heap} {a:Addr} (x:HOk P w H h) (e:h.get? a=none):H a=none:=by
 cases q:H a with
 | none=>rfl
 | some o=>obtain ⟨ob,z⟩:=(x a o q).there;rw [e] at z;cases z
noncomputable def Exc (h:Heap) (H:Hp) (h0:Heap) (ps:List (Addr×Obj)) (a C:Addr):Prop:=∃ oe vs T0,h.get? a=some oe∧oe.cls=.ref C∧oe.dict=none∧oe.data=.fields vs∧1<vs.size∧HeadOk h a vs T0∧H a=none∧(h0.get? a=none∧∀ p∈ps,p.1≠a) ∧
 ∀ T,T0=some T→H T=none∧h0.get? T=none∧∀ p∈ps,p.1≠T
noncomputable def CX1 (P:Program) (w:World):CXT:=fun outer H s E e s'=>∃ a C H',e=.ref a∧s'.os=s.os∧AllBare s'.gens∧Un (frs outer) [] H H' s.heap s'.heap∧HOk P w H' s'.heap∧Exc s'.heap H' s.heap [] a C∧E (.ref C) none H'
noncomputable abbrev EXT:=Addr→St→Hp→Prop
noncomputable def XW (X:Cx) (EX:EXT):Value→Shared→Prop:=fun e s'=>∃ a C σ' H',e=.ref a∧Inv X.nox [] σ' H' s'∧Exc s'.heap H' X.s₀.heap X.pn a C∧EX C σ' H'
theorem mapFields_dict (o:Obj) (f:Array Value→Array Value):(o.mapFields f).dict=o.dict:=by
 unfold Obj.mapFields;split <;> rfl
theorem leaves {P:Program} {w:World} {K:PySem.W.Frag} {mg:Str→Option Value} {base:Heap} {N:List Str} {qual:Str} {scope:Scope} {f:Addr} {cd:Value} {A:Around} {outer:List Env} {s:Shared} {H:Hp} {E:XK} {e:Value} {s':Shared}
  (h:XW (cxOf (CX1 P w) P w K mg base N qual scope f cd A outer s H E) (fun C _ H'=>E (.ref C) none H') e s'):(cxOf (CX1 P w) P w K mg base N qual scope f cd A outer s H E).xe e s':=by
 obtain ⟨a,C,σ',H',rfl,I,⟨oe,vs,T0,he,hc,hdi,hd,hsz,hh,hHa,⟨h0a,_⟩,hT⟩,hE⟩:=h
 have h0a':s.heap.get? a=none:=h0a
 have hT':∀ T,T0=some T→H' T=none∧s.heap.get? T=none:=fun T z=>⟨(hT T z).1,(hT T z).2.1⟩
 show wpAny (model P w) (A.deeper (envOfC qual scope s.heap.objs.size f cd)) (leaving (envOfC qual scope s.heap.objs.size f cd) (.ref a)) _ _ s'
 unfold leaving
 refine wpAny_bind (note_core (L:=s.heap.objs.size) I.ok.frames I.stack rfl he hd hh fun h' T k1 k2 k3 k4 k5 k6=>?_)
 have ne:∀ b o,s.heap.get? b=some o→b≠a∧some b≠T0∧b≠s.heap.objs.size:=fun b o q=>⟨fun z=>(by rw [z,h0a'] at q;cases q),fun z=>(by rw [(hT' b z.symm).2] at q;cases q),Nat.ne_of_lt (Heap.lt_size q)⟩
 have nfr:∀ b o,s.heap.get? b=some o→b∉frs outer→b∉frs (envOfC qual scope s.heap.objs.size f cd::outer):=fun b o q hb z=>by
  rcases List.mem_cons.mp (I.stkSub b z) with r|r
  ·exact (ne b o q).2.2 r
  ·exact hb r
 have off:Off (a::(T0.toList++frs (envOfC qual scope s.heap.objs.size f cd::outer))) s'.heap h':=fun b o hb q=>by
  simp only [List.mem_cons,List.mem_append,not_or] at hb
  exact k1 b o hb.1 (fun z=>hb.2.1 (by rw [← z];simp)) hb.2.2 q
 refine⟨a,C,H',rfl,I.os,I.bare,⟨fun b o q n hb hx=>?_,fun b o q n hb hx=>?_,fun b o q n hx=>I.base.free b o q n hx,fun b o q hx=>?_,I.base.tups,I.base.frzs,I.base.tbls⟩,I.hok.off (fun b hb=>?_) off,?_,hE⟩
 ·exact k1 b o (ne b o q).1 (ne b o q).2.1 (nfr b o q hb) (I.base.keep b o q n hb hx)
 ·obtain ⟨sl,q1⟩:=I.base.slot b o q n hb hx
  obtain ⟨sl',q2⟩:=k2 b _ (ne b o q).1 (ne b o q).2.1 q1
  exact⟨sl',q2⟩
 ·obtain ⟨o',q1⟩:=I.base.there b o q hx
  obtain ⟨sl',q2⟩:=k2 b _ (ne b o q).1 (ne b o q).2.1 q1
  exact⟨_,q2⟩
 ·simp only [List.mem_cons,List.mem_append] at hb
  rcases hb with rfl|hb|hb
  ·exact hHa
  ·cases T0 with
   | none=>simp at hb
   | some T1 =>
    simp only [Option.toList_some,List.mem_singleton] at hb
    rw [hb];exact (hT' T1 rfl).1
  ·exact I.stkFree b hb
 ·refine⟨_,_,some T,k5,(Obj.cls_mapFields _ _).trans hc,(mapFields_dict _ _).trans hdi,Obj.data_mapFields hd _,by simpa using hsz,⟨by simp [hsz],k4,k6⟩,hHa,⟨h0a',fun _ z=>nomatch z⟩,fun T' e=>?_⟩
  cases e
  refine⟨I.hok.free k3,?_,fun _ z=>nomatch z⟩
  cases q:s.heap.get? T with
  | none=>rfl
  | some o =>
   obtain ⟨o',q1⟩:=I.base.there T o q (by show T∉([]:List Addr);simp)
   rw [k3] at q1;cases q1
noncomputable def OkX (P:Program) (w:World) (K:PySem.W.Frag) (mg:Str→Option Value) (base:Heap) (k:Nat) (x:Str) (ps:List Str) (sp:Sp):Prop :=
 ∃ f fd,FnOk P w K mg base (CX1 P w) k f fd ps sp∧mg x=some (.ref f)∧PySem.W.keepIn K (.ref f)=true∧Binds K fd ps []
theorem PSs.xe {X:Cx} {E:Value→Shared→Prop} {st:List Stmt} {t:TS} (h:PSs (X.wish E) st t) (k:∀ e s,E e s→X.xe e s):PSs X st t:=fun pins s σ H D I hw =>
 wpAny_mono (h pins s σ H D (I.wish _) hw) (fun _ _ z=>z.unwish) k
section
variable {P:Program} {w:World} {K:PySem.W.Frag} {mg:Str→Option Value} {base:Heap}
theorem Def.okX {x:Str} {st:Stmt} {N ps:List Str} {k:Nat} {sp:Sp} (D:Def K mg x st ps) (S:FnScope N ps (defScope st)) (len:∀ vs H Q E,sp vs H Q E→vs.length=ps.length)
  (hbody:∀ (f:Addr) (cdv:Value) (A:Around) (outer:List Env) (s:Shared) (H:Hp) (vs:List V) (Q:VK) (E:XK),Room k (A.deeper (envOfC x (defScope st) s.heap.objs.size f cdv))→sp vs H Q E →
   ∃ t,PSs ((cxOf (CX1 P w) P w K mg base N x (defScope st) f cdv A outer s H E).wish (XW (cxOf (CX1 P w) P w K mg base N x (defScope st) f cdv A outer s H E) fun C _ H'=>E (.ref C) none H')) (defBody st) t∧t { nx:=fun _ H'=>Q .non H',rt:=Q } (start N vs) H):OkX P w K mg base (k+1) x ps sp:=by
 obtain ⟨f,fd,F,hm,hb⟩:=D
 obtain ⟨oc,od,kV,doc,pm,an,cdv,ct,osl,rfl,lk,hcd⟩:=F.ex
 refine⟨f,_,fn_of lk hcd S len fun A outer s H vs Q E hr hsp=>?_,hm,F.kp,hb⟩
 obtain ⟨t,h,q⟩:=hbody f cdv A outer s H vs Q E hr hsp
 exact⟨t,h.xe fun e s z=>leaves z,q⟩
end
noncomputable def tCallX (sp:Sp) (EX:EXT) (t:TA):TE:=fun σ H Q=>t σ H fun vs H1=>sp vs H1 Q fun C _ H2=>∃ c,C=.ref c∧EX c σ H2
section
variable {X:Cx} {EX:EXT} {k:Nat} {x:Str} {ps:List Str} {sp:Sp} {p pos:Pos} {e:Expr} {es:List Expr} {t:TA}
theorem pcallX (O:OkX X.prog X.w X.K X.mg X.base k x ps sp) (hr:Room k X.A) (hX:∀ e s',XW X EX e s'→X.xe e s') (hex:X.ex=[]) (ha:PA X (e::es) t) (hg:Gl X x:=by rfl)
  (hdb:(x == ("__debug__":Str))=false:=by decide) (he:starEach (e::es) X.env=(false,eval e X.env)::starEach es X.env:=by rfl) (hpl:(backTo pos (starEach es X.env)).any (·.1)=false:=by rfl) :
  PE X (.Call (.Name x p) (e::es) [] pos) (tCallX sp EX t):=by
 obtain ⟨f,fd,F,hm,hk,hb⟩:=O
 intro pins s σ H Q I h
 refine wpAny_Call_Name_kw (ld_glob I hg hm ?_ hdb)
 refine PySem.W.callWith_K (h₀:=X.base) I.ok.mod.kin hk (thn (ha pos pins s σ H _ I h) fun us s1 ⟨vs,H1,I1,r,q⟩=>⟨I1.kIn,?_⟩) he hpl
 have r2:Vals (vs++[]) (us++[]):=r.append .nil
 have hl:(us++[]).length=ps.length:=by rw [← r2.length,List.append_nil];exact F.len _ _ _ _ q
 rw [List.append_nil] at r2
 refine wpAny_call (codeAny_mono (F.run X.A X.stack s1 H1 ⟨us,[]⟩ (us++[]) vs Q _ hr I1.env0 (hb s1 us I1.kIn hl) r2 q) fun r s' hq=>?_)
 cases r with
 | error e =>
  obtain ⟨a,C,H',rfl,ho,hg',un,hok,⟨oe,vs',T0,e1,e2,e3,e4,e5,e6,e7,e8,e9⟩,c,ec,hE⟩:=hq
  cases ec
  have I2:Inv X pins σ H' s':=I1.call' (ch:=[]) ho un hok hg' fun b z=>absurd z (by simp)
  have nw:∀ b,s1.heap.get? b=none→X.s₀.heap.get? b=none:=fun b z=>by
   cases q:X.s₀.heap.get? b with
   | none=>rfl
   | some o =>
    obtain ⟨o',q1⟩:=I1.base.there b o q (by rw [hex];simp)
    rw [z] at q1;cases q1
  have np:∀ b,s1.heap.get? b=none→∀ p∈X.pn,p.1≠b:=fun b z p hp q=>by
   have:=(I1.pin p (List.mem_append_left _ hp)).1
   rw [q,z] at this;cases this
  exact hX _ _ ⟨a,C,σ,H',rfl,(I2.pins_of fun p hp=>absurd hp (by simp)).wish _,⟨oe,vs',T0,e1,e2,e3,e4,e5,e6,e7,⟨nw a e8.1,fun p hp=>np a e8.1 p hp⟩,fun T z=>⟨(e9 T z).1,nw T (e9 T z).2.1,fun p hp=>np T (e9 T z).2.1 p hp⟩⟩,hE⟩
 | ok fl =>
  cases fl with
  | ret u=>exact I1.after hq
  | next=>exact False.elim hq
  | brk=>exact False.elim hq
  | cont=>exact False.elim hq
end
end L2
namespace L2
open PySem PySem.Spec PyProof.Rows PySem.W
section
variable {X:Cx} {pins:List (Addr×Obj)} {σ:List (Option V)} {H H':Hp} {s:Shared} {h':Heap}
theorem Inv.step2 {t':Nat} {ch:List Addr} (I:Inv X pins σ H s)
  (hch:∀ b∈ch,X.s₀.heap.get? b=none∧b≠X.env.locals∧(∀ x c,X.env.cells.lookup x=some c→c≠b)∧∀ p∈X.pn++pins,p.1≠b)
  (keep:∀ b o,b≠X.env.locals→b∉X.fs→b∉ch→s.heap.get? b=some o→H b=none→h'.get? b=some o)
  (slot:∀ b o,b≠X.env.locals→b∈X.fs→b∉ch→s.heap.get? b=some o→H b=none→∃ sl,h'.get? b=some { o with slots:=sl }) (free:∀ b o,b∉ch→s.heap.get? b=some o→H b=none→H' b=none)
  (there:∀ b o,b∉ch→s.heap.get? b=some o→∃ o',h'.get? b=some o')
  (tups:∀ b xs,H b=some (.tup xs)→H' b=some (.tup xs)) (frzs:∀ b o u,H b=some (.frz o u)→H' b=some (.frz o u)) (tbls:∀ b ps,H b=some (.tbl ps)→∃ more,H' b=some (.tbl (ps++more)))
  (ns:∀ m,s.heap.Ns X.env.locals m→h'.Ns X.env.locals m) (hok:HOk X.prog X.w H' h') :
  Inv X pins σ H' { s with heap:=h',toks:=t' }:=by
 have neL:∀ b o,X.s₀.heap.get? b=some o→b≠X.env.locals:=fun b o e=>Nat.ne_of_lt (Nat.lt_of_lt_of_le (Heap.lt_size e) I.ok.above)
 have neC:∀ b o,X.s₀.heap.get? b=some o→b∉ch:=fun b o e hb=>by rw [(hch b hb).1] at e;cases e
 have cellK:∀ x c,X.env.cells.lookup x=some c→∀ v,s.heap.IsCell c v→h'.IsCell c v:=fun x c e v ⟨o,ho,hd⟩=>by
  have nch:c∉ch:=fun z=>(hch c z).2.2.1 x c e rfl
  by_cases hc:c∈X.fs
  ·obtain ⟨sl,q⟩:=slot c o (I.cne x c e) hc nch ho (I.freeC x c e)
   exact⟨_,q,hd⟩
  ·exact⟨o,keep c o (I.cne x c e) hc nch ho (I.freeC x c e),hd⟩
 refine⟨I.ok,I.os,I.bare,⟨fun b o e n hb hx=>?_,fun b o e n hb hx=>?_,fun b o e n hx=>?_,fun b o e hx=>?_,fun b xs e=>tups b xs (I.base.tups b xs e),fun b o xs e=>frzs b o xs (I.base.frzs b o xs e),fun b ps e=>?_⟩,?_,fun x c e=>?_,?_,fun x c e=>?_,fun p hp=>?_,hok,I.len⟩
 ·exact keep b o (neL b o e) hb (neC b o e) (I.base.keep b o e n hb hx) (I.base.free b o e n hx)
 ·obtain ⟨sl,e1⟩:=I.base.slot b o e n hb hx
  obtain ⟨sl',e2⟩:=slot b _ (neL b o e) hb (neC b o e) e1 (I.base.free b o e n hx)
  exact⟨sl',e2⟩
 ·obtain ⟨o',e1⟩:=I.base.there b o e hx
  exact free b o' (neC b o e) e1 (I.base.free b o e n hx)
 ·obtain ⟨o',e1⟩:=I.base.there b o e hx
  exact there b o' (neC b o e) e1
 ·obtain ⟨m1,e1⟩:=I.base.tbls b ps e
  obtain ⟨m2,e2⟩:=tbls b _ e1
  exact⟨m1++m2,by rw [e2,Array.append_assoc]⟩
 ·obtain ⟨m,hn,hl⟩:=I.loc
  refine⟨m,ns m hn,fun i x v e1 e2 e3=>?_⟩
  obtain ⟨u,r,l⟩:=hl i x v e1 e2 e3
  refine⟨u,r,?_⟩
  rcases l with l|⟨k,c,e,z⟩
  ·exact .inl l
  ·exact .inr ⟨k,c,e,cellK x c e _ z⟩
 ·obtain ⟨v,z⟩:=I.cell x c e
  exact⟨v,cellK x c e v z⟩
 ·obtain ⟨m,⟨o,_,_,ho,_⟩,_⟩:=I.loc
  exact free _ o (fun z=>(hch _ z).2.1 rfl) ho I.free
 ·obtain ⟨v,o,ho,hd⟩:=I.cell x c e
  exact free c o (fun z=>(hch c z).2.2.1 x c e rfl) ho (I.freeC x c e)
 ·obtain ⟨e,n,ne,nf,d⟩:=I.pin p hp
  have nch:p.1∉ch:=fun z=>(hch p.1 z).2.2.2 p hp rfl
  exact⟨keep p.1 p.2 ne nf nch e n,free p.1 p.2 nch e n,ne,nf,d⟩
theorem Inv.recd {a:Addr} {oe:Obj} {vs:Array Value} (I:Inv X pins σ H s) (he:s.heap.get? a=some oe) (hd:oe.data=.fields vs):a≠X.env.locals∧(∀ x c,X.env.cells.lookup x=some c→c≠a)∧a∉X.fs:=by
 refine⟨fun z=>?_,fun x c e z=>?_,fun z=>?_⟩
 ·obtain ⟨m,⟨o,_,_,ho,hdd,_⟩,_⟩:=I.loc
  rw [z,ho] at he;cases he;rw [hdd] at hd;cases hd
 ·obtain ⟨v,o,ho,hdd⟩:=I.cell x c e
  rw [z,he] at ho;cases ho;rw [hdd] at hd;cases hd
 ·obtain ⟨_,o,ho,hnf⟩:=I.funs.mem z
  rw [he] at ho;cases ho;exact hnf vs hd
end
theorem own_obj {K:Frag} {h:Heap} {C:Addr} {bmB:List Value} {newId:String} (X:K.In h) (q:excIn K C bmB newId=true) :
  ∃ bm N nm q bs hdct sn sub ab col dd k0 k1 k2 k3 k5 mN,h.get? C=some (excClassObj nm q C N bs bm hdct sn sub ab col dd k0 k1 k2 k3 k5 newId)∧h.Ns N mN∧mN "__init__"=none∧OwnTail h bmB bm:=by
 unfold excIn at q
 split at q
 ·rename_i dd cd sl ho
  split at q
  ·rename_i C' bm k0 k1 k2 k3 n k5 hm hs
   simp only [Bool.and_eq_true,beq_iff_eq,Bool.not_eq_true'] at q
   obtain ⟨⟨⟨⟨⟨rfl,rfl⟩,hdel⟩,ht⟩,hok⟩,hni⟩:=q
   obtain ⟨nm,bs,mro,ns,qn,hd,sn,sub,ab,col,del⟩:=cd
   dsimp only at hm hdel hok hni
   subst hm hdel
   have hsl:sl=#[k0,k1,k2,k3,some (.builtin n),k5]:=by
    obtain ⟨l⟩:=sl
    simp only at hs
    rw [hs]
   subst hsl
   exact⟨bm,ns,nm,qn,bs,hd,sn,sub,ab,col,dd,k0,k1,k2,k3,k5,_,X _ _ ho,.of_isNs (isNs_of_in X hok),nsMap_none_of_in X hok hni,tail_of_in X ht⟩
  ·cases q
 ·cases q
section
variable {X:Cx} {EX:EXT}
noncomputable def tRaise (EX:EXT) (C:Addr) (ta:TA):TS:=fun _ σ H=>ta σ H fun vs H1=>vs.length≤1000∧EX C σ H1
theorem ps_raise {x:Str} {np cpos pos:Pos} {e0:Expr} {rest:List Expr} {C:Addr} {B Bn newId nid initId inN:String} {bm bmN:List Value} {ta:TA} (q:excIn X.K C bm newId=true) (Fn:ExcBaseFacts Bn newId inN bmN) (hBn:bm.contains (.type Bn)=true)
  (FB:ExcBaseFacts B nid initId bm) (hc:X.calm=true) (hX:∀ e s',XW X EX e s'→X.xe e s') (hex:X.ex=[]) (hg:Gl X x) (hm:X.mg x=some (.ref C)) (ha:PA X (e0::rest) ta)
  (he:starEach (e0::rest) X.env=(false,eval e0 X.env)::starEach rest X.env:=by rfl) (hpl:(backTo cpos (starEach rest X.env)).any (·.1)=false:=by rfl) (hdb:(x == ("__debug__":Str))=false:=by decide) :
  PS X (.Raise (some (.Call (.Name x np) (e0::rest) [] cpos)) none pos) (tRaise EX C ta):=by
 intro pins s σ H D I h
 obtain ⟨bm',N,nm,qn,bs,hdct,sn,sub,ab,col,dd,k0,k1,k2,k3,k5,mN,hC,hN,hni,T⟩:=own_obj I.ok.mod.kin q
 refine wpAny_Raise_call_subU (C:=C) (nm:=nm) (q:=qn) (N:=N) (bs:=bs) (bm:=bm') (hdct:=hdct) (sn:=sn) (sub:=sub) (ab:=ab) (col:=col) (dd:=dd) (k0:=k0) (k1:=k1) (k2:=k2) (k3:=k3) (k5:=k5)
  Fn hBn FB (mN:=mN) (T.hasType FB.hasBase) (I.ok.hd hc) (by rw [he];show (false || (backTo cpos (starEach rest X.env)).any (·.1))=false;rw [hpl];rfl) hni (ld_glob I hg hm ⟨rfl,?_⟩ hdb)
 have hh:=ha cpos pins s σ H _ I h
 rw [he] at hh ⊢
 refine Calls.evalArgs_plain (wpAny_mono hh (fun us s2 z=>?_) fun _ _ y=>y)
 obtain ⟨vs,H1,I1,r,hl,hE⟩:=z
 refine⟨rfl,by rw [← r.length];exact Nat.le_of_lt (small1000 hl),I1.bk _ _ hC,hN.keeps I1.bk,T.keeps I1.bk,fun h' e hm'=>hX _ _ ?_⟩
 obtain ⟨t,het,htn,htt⟩:=hm'.there
 have nw:X.s₀.heap.get? e=none:=by
  cases q:X.s₀.heap.get? e with
  | none=>rfl
  | some o =>
   obtain ⟨o',q1⟩:=I1.base.there e o q (by rw [hex];simp)
   rw [hm'.new] at q1;cases q1
 have np:∀ p∈X.pn,p.1≠e:=fun p hp z=>by
  have:=(I1.pin p (List.mem_append_left _ hp)).1
  rw [z,hm'.new] at this;cases this
 exact⟨e,C,σ,H1,rfl,((I1.kept (t':=s2.toks) hm'.keeps).pins_of fun p hp=>absurd hp (by simp)).wish _,⟨_,_,none,het,rfl,rfl,rfl,by simp,rfl,I1.hok.free hm'.new,⟨nw,np⟩,fun T z=>nomatch z⟩,hE⟩
end
end L2
namespace L2
open PySem PySem.Spec PyProof.Rows PySem.W
structure HCls (K:Frag) (D:Addr):Prop where
 ty:typeIn K (.ref D)=some (.type "type")
 cl:(clsIn K D).isSome=true
 be:subIn K (.ref D) (.type "BaseException")=some true
theorem matches_own {K:Frag} {M:Model} {A:Around} {E:Value→Shared→Prop} {s:Shared} {a C D:Addr} {oe:Obj} {b:Bool} {Q:Bool→Shared→Prop} (V:HCls K D) (X:K.In s.heap) (he:s.heap.get? a=some oe) (hc:oe.cls=.ref C)
  (hsub:subIn K (.ref C) (.ref D)=some b) (h:Q b s):wpAny M A (excMatches (.ref a) (.ref D)) Q E s:=by
 obtain ⟨hh,g,d,t,os⟩:=s
 have L1:=looks_typeIn (M:=M) X V.ty
 have L2:Looks M hh (typeOf (.ref a)) (.ref C):=hc ▸ (Looks.ld he).andThen .now
 have L3:=looks_subIn (M:=M) X V.be
 have L4:=looks_subIn (M:=M) X hsub
 have L5:Looks M hh (isType (.ref D)) true:=by
  obtain ⟨cd,hcd⟩:=Option.isSome_iff_exists.mp V.cl
  unfold clsIn at hcd
  split at hcd
  ·rename_i c' d' cd' sl' ho
   intro A' Q' E' s' k q
   unfold isType loadHead
   exact wpAny_bind (wpAny_loadPart (k _ _ (X _ _ ho)) (wpAny_pure q))
  ·cases hcd
 have f:=tc_notTuple
 unfold excMatches isInstance isExcClass
 refine wpAny_bind ?_
 refine wpAny_bind (L1.at (wpAny_of_eq f ?_))
 simp only [Bool.false_eq_true,if_false]
 refine wpAny_bind (wpAny_pure ?_)
 simp only [List.forIn_cons,List.forIn_nil]
 refine wpAny_bind (wpAny_bind (wpAny_bind (wpAny_bind (L5.at ?_))))
 simp only [if_true]
 refine L3.at ?_
 simp only [Bool.not_true,Bool.false_eq_true,if_false]
 refine wpAny_pure (wpAny_pure ?_)
 refine wpAny_bind (L2.at ?_)
 refine wpAny_bind (wpAny_bind (wpAny_bind (L4.at ?_)))
 cases b with
 | true =>
  simp only [if_true]
  exact wpAny_pure (wpAny_pure (wpAny_pure h))
 | false =>
  simp only [Bool.false_eq_true,if_false]
  exact wpAny_pure (wpAny_pure (wpAny_pure h))
end L2
namespace L2
open PySem PySem.Spec PyProof.Rows PySem.W
noncomputable abbrev pnCx (X:Cx) (pins:List (Addr×Obj)):Cx:={ X with pn:=X.pn++pins }
noncomputable abbrev hdCx (X:Cx) (a:Addr):Cx:={ X with A:=X.A.mark (some (.ref a)),calm:=false,xe:=fun _ _=>False }
section
variable {X:Cx} {pins:List (Addr×Obj)} {σ:St} {H:Hp} {s:Shared}
theorem Inv.toPn (I:Inv X pins σ H s):Inv (pnCx X pins) [] σ H s :=
 ⟨⟨I.ok.mod,I.ok.kind,I.ok.glob,I.ok.blt,I.ok.above,I.ok.inj,I.ok.has,I.ok.cab,I.ok.hd,I.ok.frames,I.ok.stk,I.ok.exf,I.ok.bs,I.ok.bsz,I.ok.noex,I.ok.exfs,I.ok.funs,I.ok.frf⟩,I.os,I.bare,I.base,I.loc,I.cell,I.free,I.freeC,fun p hp=>I.pin p (by simpa using hp),I.hok,I.len⟩
theorem Inv.ofPn (I:Inv (pnCx X pins) [] σ H s):Inv X pins σ H s :=
 ⟨⟨I.ok.mod,I.ok.kind,I.ok.glob,I.ok.blt,I.ok.above,I.ok.inj,I.ok.has,I.ok.cab,I.ok.hd,I.ok.frames,I.ok.stk,I.ok.exf,I.ok.bs,I.ok.bsz,I.ok.noex,I.ok.exfs,I.ok.funs,I.ok.frf⟩,I.os,I.bare,I.base,I.loc,I.cell,I.free,I.freeC,fun p hp=>I.pin p (by simpa using hp),I.hok,I.len⟩
theorem Inv.toHd (I:Inv X pins σ H s) (a:Addr):Inv (hdCx X a) pins σ H s :=
 ⟨⟨I.ok.mod,I.ok.kind,I.ok.glob,I.ok.blt,I.ok.above,I.ok.inj,I.ok.has,I.ok.cab,(fun z=>nomatch z),I.ok.frames,I.ok.stk,I.ok.exf,I.ok.bs,I.ok.bsz,I.ok.noex,I.ok.exfs,I.ok.funs,I.ok.frf⟩,I.os,I.bare,I.base,I.loc,I.cell,I.free,I.freeC,I.pin,I.hok,I.len⟩
theorem Inv.ofHd {a:Addr} (hhd:X.calm=true→X.A.handled=none) (I:Inv (hdCx X a) pins σ H s):Inv X pins σ H s :=
 ⟨⟨I.ok.mod,I.ok.kind,I.ok.glob,I.ok.blt,I.ok.above,I.ok.inj,I.ok.has,I.ok.cab,hhd,I.ok.frames,I.ok.stk,I.ok.exf,I.ok.bs,I.ok.bsz,I.ok.noex,I.ok.exfs,I.ok.funs,I.ok.frf⟩,I.os,I.bare,I.base,I.loc,I.cell,I.free,I.freeC,I.pin,I.hok,I.len⟩
theorem Inv.track {a C:Addr} {oe:Obj} {vs:Array Value} {t':Nat} (I:Inv X pins σ H s) (he:s.heap.get? a=some oe) (hc:oe.cls=.ref C) (hdi:oe.dict=none) (hd:oe.data=.fields vs) (hH:H a=none) (h0:X.s₀.heap.get? a=none) (hp:∀ p∈X.pn++pins,p.1≠a) :
  Inv X pins σ (upd H a (ExcO a C)) { s with toks:=t' }:=by
 obtain ⟨n1,n2,n3⟩:=I.recd he hd
 have ins:PySem.W.InstAt s.heap a oe C none:=⟨he,hc,by unfold notCls;rw [hd],by rw [hdi];trivial⟩
 refine I.step2 (h':=s.heap) (ch:=[a]) (fun b hb=>?_) (fun b o _ _ _ e _=>e) (fun b o _ _ _ e _=>⟨o.slots,e⟩) (fun b o hb e n=>?_) (fun b o _ e=>⟨o,e⟩) (fun b xs e=>?_) (fun b o u e=>?_) (fun b ps e=>⟨#[],?_⟩) (fun m hm=>hm) ?_
 ·obtain rfl:b=a:=by simpa using hb
  exact⟨h0,n1,n2,hp⟩
 ·rw [upd_ne (by simpa using hb)];exact n
 ·rw [upd_ne (ne_of_none e hH)];exact e
 ·rw [upd_ne (ne_of_none e hH)];exact e
 ·rw [upd_ne (ne_of_none e hH)];simpa using e
 ·intro b o e
  by_cases hb:b=a
  ·subst hb
   rw [upd_same] at e
   cases e
   refine⟨⟨oe,ins⟩,⟨oe,he⟩,fun h1 h2 z k=>?_⟩
   obtain ⟨ox,z1,z2,z3,z4⟩:=z
   refine⟨ox,k _ z1,z2,z3,?_⟩
   cases q:ox.dict with
   | none=>trivial
   | some dx=>rw [q] at z4;exact z4.elim
  ·rw [upd_ne hb] at e
   exact (I.hok b o e).stay (fun _ _ _ q=>q) (fun c q=>by rw [upd_ne (ne_of_none q hH)];exact q) fun c xs q=>by rw [upd_ne (ne_of_none q hH)];exact q
theorem Inv.goes {i:Nat} {x:Str} {h':Heap} {m:Str→Option Value} {v:Option Value} {t':Nat} (I:Inv X pins σ H s) (hN:X.N.Nodup) (hi:X.N[i]?=some x) (hm:s.heap.Ns X.env.locals m) (hn':h'.Ns X.env.locals (fun y=>if y=x then v else m y)) (hs:Heap.SameBut X.env.locals s.heap h') :
  Inv X pins (σ.set i none) H { s with heap:=h',toks:=t' }:=by
 obtain ⟨m2,hn,hl⟩:=id I.loc
 obtain ⟨oL,es,ep,hoL,rL⟩:=id hn
 have em:m2=m:=by
  obtain ⟨o1,es1,ep1,ho1,hd1,_,hf1⟩:=hn
  obtain ⟨o2,es2,ep2,ho2,hd2,_,hf2⟩:=hm
  rw [ho1] at ho2;cases ho2;rw [hd1] at hd2;cases hd2
  funext y
  rw [← hf1,← hf2]
 subst em
 have hiσ:i<σ.length:=by rw [I.len];exact (List.getElem?_eq_some_iff.mp hi).1
 have cne:=I.cne
 refine⟨I.ok,I.os,I.bare,⟨fun b o e n hb hx=>?_,fun b o e n hb hx=>?_,I.base.free,fun b o e hx=>?_,I.base.tups,I.base.frzs,I.base.tbls⟩,⟨_,hn',fun j y v' e1 e2 e3=>?_⟩,fun y c e=>?_,I.free,I.freeC,fun p hp=>?_,?_,by simpa using I.len⟩
 ·exact (hs.2 b (Nat.ne_of_lt (Nat.lt_of_lt_of_le (Heap.lt_size e) I.ok.above))).trans (I.base.keep b o e n hb hx)
 ·obtain ⟨sl,e1⟩:=I.base.slot b o e n hb hx
  exact⟨sl,(hs.2 b (Nat.ne_of_lt (Nat.lt_of_lt_of_le (Heap.lt_size e) I.ok.above))).trans e1⟩
 ·obtain ⟨o',e1⟩:=I.base.there b o e hx
  exact⟨o',(hs.2 b (Nat.ne_of_lt (Nat.lt_of_lt_of_le (Heap.lt_size e) I.ok.above))).trans e1⟩
 ·by_cases hj:j=i
  ·subst hj
   rw [List.getElem?_set_self hiσ] at e2
   cases e2
  ·rw [List.getElem?_set_ne (Ne.symm hj)] at e2
   obtain ⟨u',r',q⟩:=hl j y v' e1 e2 e3
   refine⟨u',r',?_⟩
   rcases q with ⟨k,e⟩|⟨k,c,e,z⟩
   ·refine .inl ⟨k,?_⟩
    have:y≠x:=fun e=>hj (nodup_ix hN e1 (e ▸ hi))
    simp [this,e]
   ·exact .inr ⟨k,c,e,z.sameBut hs (cne y c e)⟩
 ·obtain ⟨w',z⟩:=I.cell y c e
  exact⟨w',z.sameBut hs (cne y c e)⟩
 ·obtain ⟨e,n,ne,nf,d⟩:=I.pin p hp
  exact⟨(hs.2 p.1 ne).trans e,n,ne,nf,d⟩
 ·intro b ob e
  refine (I.hok b ob e).stay (fun c w' hc q=>(hs.2 c ?_).trans q) (fun _ q=>q) fun _ _ q=>q
  rintro rfl
  rcases hc with rfl|hc
  ·rw [I.free] at e;cases e
  ·rw [I.free] at hc;cases hc
end
end L2
namespace L2
open PySem PySem.Spec PyProof.Rows PySem.W
section
variable {K:Frag} {D:Ends} {σ:St} {H:Hp} {Q:VK} {EX:EXT}
theorem r_callX {sp:Sp} {ts:TA} (h:ts σ H fun vs H1=>sp vs H1 Q fun C _ H2=>∃ c,C=.ref c∧EX c σ H2):tCallX sp EX ts σ H Q:=h
theorem r_raise {C:Addr} {ts:TA} (h:ts σ H fun vs H1=>vs.length≤1000∧EX C σ H1):tRaise EX C ts D σ H:=h
end
end L2
namespace L2
open PySem PySem.Spec PyProof.Rows PySem.W
section
variable {K:Frag} {C D:Addr} {cd:ClassData}
theorem XCls.mk' (q1:findIn K (.ref C) "__getattribute__"=some (some (.builtin "BaseException.__getattribute__"))) (q2:findIn K (.ref C) "__getattr__"=some none) (q3:clsIn K C=some cd)
  (q4:findIn K (.ref C) "__class__"=some (some (.builtin "object.__class__"))) (q5:specialIn K (.builtin "object.__class__") "__get__"=some (some (.builtin "getset_descriptor.__get__"))) (q6:takesIn K (.builtin "object.__class__")=some true)
  (q7:mroIn K C (.type "object")=some true) (q8:subIn K (.ref C) (.type "BaseException")=some true):XCls K C :=
 ⟨q1,q2,by unfold findObj;rw [q3,Option.bind_some,q4,Option.bind_some];simp [q5,q6],q7,q8,by rw [q3];rfl⟩
theorem HCls.mk' (q1:typeIn K (.ref D)=some (.type "type")) (q2:clsIn K D=some cd) (q3:subIn K (.ref D) (.type "BaseException")=some true):HCls K D:=⟨q1,by rw [q2];rfl,q3⟩
end
end L2
namespace L2
open PySem PySem.Spec PyProof.Rows
section
variable {K:PySem.W.Frag} {H:Hp} {Q:VK} {D:Ends} {σ:St}
theorem join {t:TS} {u:St→Hp→Prop} (P:St→Hp→Prop) (h1:∀ nx:St→Hp→Prop,(∀ σ' H',P σ' H'→nx σ' H')→t { D with nx:=nx } σ H) (h2:∀ σ' H',P σ' H'→u σ' H'):t { D with nx:=u } σ H:=h1 u h2
end
end L2
namespace L2
open PySem PySem.Spec PyProof.Rows
noncomputable def rAll (K:PySem.W.Frag):List V→Hp→VK→Prop:=fun xs H Q=>∃ (a:Addr) (bs:List Bool),xs=[.ref a]∧SqL K H a (bs.map V.bl)∧Q (.bl (bs.all id)) H
theorem range_allB (bs:List Bool):((List.range bs.length).all fun i=>(bs[i]?).getD true)=bs.all id:=by
 rw [Bool.eq_iff_iff,List.all_eq_true,List.all_eq_true]
 constructor
 ·intro h b hb
  obtain ⟨i,hi,rfl⟩:=List.getElem_of_mem hb
  have:=h i (List.mem_range.mpr hi)
  simpa [List.getElem?_eq_getElem hi] using this
 ·intro h i hi
  have hi':=List.mem_range.mp hi
  simpa [List.getElem?_eq_getElem hi'] using h _ (List.getElem_mem hi')
section
variable {X:Cx}
theorem call_allB (hc:X.calm=true):CallR X (.builtin "all") (rAll X.K):=by
 intro pins s σ H xs us Q I r h
 obtain ⟨a,bs,rfl,hs,q⟩:=h
 obtain ⟨u,rfl,ru⟩:=vals1 r
 cases ru
 obtain ⟨its,rv,p,_⟩:=I.list hs
 have hl:s.heap.IsList a its.toArray:=by
  obtain ⟨o,n,h1,h2,h3⟩:=p
  exact⟨o,h1,h2,n,h3.2⟩
 have hlt:a<s.heap.objs.size:=by obtain ⟨_,e,_⟩:=hl;exact Heap.lt_size e
 have hh:X.A.handled=none:=I.ok.hd hc
 refine call_all_walk (wpAny_pyIter_list hl ?_)
 refine⟨s.heap.objs.size,[s.heap.objs.size,a],[s.heap.objs.size],its.toArray.size,_,_,fun i=>(bs[i]?).getD true,rfl,Walks.list (A:=X.A.in1) hh _ a (Nat.ne_of_lt hlt) its.toArray,
  ⟨⟨_,Heap.get?_push_size _ rfl,rfl,rfl⟩,hl.push _⟩,fun i v s' Q' E' hP hQ=>?_,fun h' tk hk=>?_⟩
 ·have hP':its[i]?=some v:=by simpa using hP
  have hi:i<its.length:=(List.getElem?_eq_some_iff.mp hP').1
  have hb:i<bs.length:=by have:=rv.length;simp at this;lia
  obtain ⟨u1,e1,r1⟩:=rv.get (i:=i) (x:=.bl bs[i]) (by simp [hb])
  rw [hP'] at e1
  cases e1
  cases r1
  simp only [List.getElem?_eq_getElem hb,Option.getD_some] at hQ
  exact wpAny_truthy_bool hQ
 ·have e:((List.range its.toArray.size).all fun i=>(bs[i]?).getD true)=bs.all id:=by
   have:=rv.length
   simp at this
   rw [List.size_toArray,← this];exact range_allB bs
  rw [e]
  exact⟨.bl (bs.all id),H,I.kept (t':=tk) (fun b x e=>hk b x (fun hm=>by rw [List.mem_singleton.mp hm] at e;exact Nat.lt_irrefl _ (Heap.lt_size e)) (Heap.get?_push_of_some _ e)),rfl,q⟩
theorem kN_all (K:PySem.W.Frag) (hK:X.K=K) (hc:X.calm=true):CallR X (.builtin "all") (rAll K):=hK ▸ call_allB hc
end
section
variable {K:PySem.W.Frag} {H:Hp} {Q:VK} {σ:St}
theorem r_all {a:Addr} {bs:List Bool} (e:SqL K H a (bs.map V.bl)) (h:Q (.bl (bs.all id)) H):rAll K [.ref a] H Q:=⟨a,bs,rfl,e,h⟩
theorem r_isiN {n:String} {b:Bool} (k:PySem.W.kitOne K (.type "NoneType") (.type n)=some b) (h:Q (.bl b) H):rIsInst K [.non,.ty n] H Q:=⟨_,n,_,b,rfl,.inl .non,k,h⟩
theorem r_isiS {x:Str} {n:String} {b:Bool} (k:PySem.W.kitOne K (.type "str") (.type n)=some b) (h:Q (.bl b) H):rIsInst K [.str x,.ty n] H Q:=⟨_,n,_,b,rfl,.inl (.str _),k,h⟩
theorem rd_mapRowV {a:Addr} {xs:List V} {ix:List (Option Nat)} {te:TE} (F:V→V) (fr:St) (hpk:pick ix σ=none::fr) (ha:SqT K H a xs) (hn:xs.length≤1000)
  (step:∀ x H' (Qc:VK),x∈xs→Same H H'→(∀ H5,Same H' H5→Qc (F x) H5)→te (some x::fr) H' Qc)
  (hQ:∀ l H',H l=none→Same H H'→H' l=some (.lst (xs.map F))→Q (.ref l) H'):CompGoal ix (gName 0) (fun _ H Q=>Q true H) te σ Q (Itt K a) H:=by
 refine rd_comp1 fr xs.length (fun i=>F (xs.getD i .non)) hpk (by lia) (fun H' s=>⟨_,s.at ha,by simp⟩) (fun i H' hi s=>⟨_,xs[i],s.at ha,List.getElem?_eq_getElem hi⟩) (fun i x H' H2 Qc hi hs hy kc=>?_) fun l H' hl hs hl'=>hQ l H' hl hs ?_
 ·obtain ⟨rfl,e1⟩:=hy
  have e2:=e1 _ (hs.at ha)
  have e3:xs.getD i .non=x:=by rw [List.getD,e2];rfl
  rw [e3] at kc
  exact step _ _ Qc (List.mem_of_getElem? e2) hs kc
 ·rw [hl']
  congr 2
  apply List.ext_getElem (by simp)
  intro i h1 h2
  simp at h1 h2
  simp [List.getD,h2]
end
end L2
namespace L2
open PySem PySem.Spec PyProof.Rows
mutual
inductive Tell (K:PySem.W.Frag) (H:Hp):V→PyData→Prop where
 | non:Tell K H .non .none
 | bl (b:Bool):Tell K H (.bl b) (.bool b)
 | int (i:Int):Tell K H (.int i) (.int i)
 | str (x:Str):Tell K H (.str x) (.str x)
 | tup {a:Addr} {xs:List V} {ds:List PyData} (h:SqT K H a xs) (t:Tells K H xs ds):Tell K H (.ref a) (.tuple ds)
 | lst {a:Addr} {xs:List V} {ds:List PyData} (h:SqL K H a xs) (t:Tells K H xs ds):Tell K H (.ref a) (.list ds)
inductive Tells (K:PySem.W.Frag) (H:Hp):List V→List PyData→Prop where
 | nil:Tells K H [] []
 | cons {x:V} {d:PyData} {xs:List V} {ds:List PyData} (h:Tell K H x d) (t:Tells K H xs ds):Tells K H (x::xs) (d::ds)
end
section
variable {K:PySem.W.Frag} {H:Hp} {Q:VK}
noncomputable def Rows (K:PySem.W.Frag) (H:Hp) (xs:List V) (rs:List (List Int)):Prop:=Tells K H xs (rs.map fun r=>.tuple (r.map PyData.int))
end
end L2
namespace L2
open PySem PySem.Spec PyProof.Rows
section
variable {K:PySem.W.Frag} {g:TG} {D:Ends} {σ:St} {H:Hp}
theorem f_inv {J:It} {tb:TS} (n:Nat) (Pv:Nat→St→Hp→Prop) (h0:Pv 0 σ H) (hgo:∀ i σ H2,i<n→Pv i σ H2→J.go i H2) (hstop:∀ σ H2,Pv n σ H2→J.stop n H2)
  (hs:∀ i x σ H2 H3,i<n→Pv i σ H2→J.yld i H2 x H3→g x σ H3 fun σ2 H4=>tb { D with nx:=Pv (i+1),ct:=Pv (i+1),bk:=D.nx } σ2 H4) (hd:∀ σ H2,Pv n σ H2→D.nx σ H2):ForGoal g tb D J σ H:=by
 refine⟨fun i m σ2 H2=>m=n - i∧i≤n∧Pv i σ2 H2,⟨n,by simp,Nat.zero_le _,h0⟩,?_⟩
 rintro i m σ2 H2 ⟨rfl,hi,p⟩
 by_cases hlt:i<n
 ·exact .inr ⟨hgo i σ2 H2 hlt p,Pv (i+1),fun σ' H' p'=>⟨n - (i+1),by lia,rfl,hlt,p'⟩,fun x H' y=>hs i x σ2 H2 H' hlt p y⟩
 ·have e:i=n:=by lia
  subst e
  exact .inl ⟨hstop σ2 H2 p,hd σ2 H2 p⟩
theorem f_invR {lo:Int} {n:Nat} {tb:TS} (Pv:Nat→St→Hp→Prop) (h0:Pv 0 σ H) (hs:∀ i σ H2,i<n→Pv i σ H2→g (.int (lo+i)) σ H2 fun σ2 H4=>tb { D with nx:=Pv (i+1),ct:=Pv (i+1),bk:=D.nx } σ2 H4) (hd:∀ σ H2,Pv n σ H2→D.nx σ H2):ForGoal g tb D (Itr lo n) σ H:=by
 refine f_inv n Pv h0 (fun i σ H2 hi _=>hi) (fun σ H2 _=>Nat.le_refl _) (fun i x σ H2 H3 hi p y=>?_) hd
 obtain ⟨rfl,rfl⟩:=y
 exact hs i σ _ hi p
theorem f_invL {a:Addr} {xs:List V} {tb:TS} (Pv:Nat→St→Hp→Prop) (h0:Pv 0 σ H) (ha:∀ i σ H2,Pv i σ H2→SqL K H2 a xs) (hs:∀ i x σ H2,xs[i]?=some x→Pv i σ H2→g x σ H2 fun σ2 H4=>tb { D with nx:=Pv (i+1),ct:=Pv (i+1),bk:=D.nx } σ2 H4) (hd:∀ σ H2,Pv xs.length σ H2→D.nx σ H2):ForGoal g tb D (Itl K a) σ H:=by
 refine f_inv xs.length Pv h0 (fun i σ H2 hi p=>⟨xs,xs[i],ha i σ H2 p,List.getElem?_eq_getElem hi⟩) (fun σ H2 p=>⟨xs,ha _ σ H2 p,Nat.le_refl _⟩) (fun i x σ H2 H3 hi p y=>?_) hd
 obtain ⟨rfl,e⟩:=y
 exact hs i x σ _ (e xs (ha i σ _ p)) p
end
end L2
namespace L2
open PySem
structure En (k:Bool) (n a:Nat) (i:Nat) (h:Heap):Prop where
 ob:∃ last:Value,IsEnum h (n+1) n i last
 src:ItAt k h n a i
section
variable {prog:Program} {w:World} {A:Around} {E:Value→Shared→Prop} {s:Shared}
theorem en_next {k:Bool} {n a:Nat} {i:Nat} {xs:Array Value} {x:Value} {Q:Value→Shared→Prop} (Z:En k n a i s.heap) (ha:a<n) (hs:SrcOf k s.heap a xs) (hx:xs[i]?=some x)
  (hQ:∀ h' t,IsEnumOut h' (n+1) n ((i:Int)+1) x s.heap.objs.size→ItAt k h' n a (i+1)→IsT h' s.heap.objs.size #[.int i t,x]→h'.objs.size=s.heap.objs.size+1→Off [n,n+1] s.heap h'→Q (.ref s.heap.objs.size) { s with heap:=h',toks:=s.toks+1 }) :
  wpAny (model prog w) A (Builtin.«enumerate.__next__» ⟨[.ref (n+1)],[]⟩) (fun fin s'=>∃ v,fin=.done (.ret v)∧Q v s') E s:=by
 obtain ⟨⟨last,ob⟩,src⟩:=Z
 obtain ⟨hp,gg,dd,tt,oo⟩:=s
 have n1:(n+1:Addr)≠n:=nne (by lia)
 show wpAny _ _ (field (.ref (n+1)) 2 >>= _) _ _ _
 refine wpAny_bind (wpAny_field ob rfl (x:=.ref n) rfl (wpAny_bind (sub_item src hs hx fun g1 src1 q1=>?_)))
 replace q1:Heap.SameBut n hp g1:=q1
 have ob1:IsEnum g1 (n+1) n i last:=(q1.2 _ n1).trans ob
 show wpAny _ _ (field (.ref (n+1)) 3 >>= _) _ _ ⟨g1,gg,dd,tt,oo⟩
 refine wpAny_bind (wpAny_field ob1 rfl (x:=rawInt i) rfl ?_)
 show wpAny _ _ (field (.ref (n+1)) 4 >>= _) _ _ ⟨g1,gg,dd,tt,oo⟩
 refine wpAny_bind (wpAny_field ob1 rfl (x:=.none) rfl ?_)
 show wpAny _ _ (mkInt i >>= _) _ _ ⟨g1,gg,dd,tt,oo⟩
 refine wpAny_bind (wpAny_mkInt ?_)
 show wpAny _ _ (setField (.ref (n+1)) 3 (rawInt ((i:Int)+1)) >>= _) _ _ ⟨g1,gg,dd,tt+1,oo⟩
 refine wpAny_bind (wpAny_setField_rec ob1 (by simp) fun g2 ob2 q2=>?_)
 replace q2:Heap.SameBut (n+1) g1 g2:=q2
 replace ob2:IsEnum g2 (n+1) n ((i:Int)+1) last:=ob2
 show wpAny _ _ (setField (.ref (n+1)) 4 .none >>= _) _ _ ⟨g2,gg,dd,tt+1,oo⟩
 refine wpAny_bind (wpAny_setField_rec ob2 (by simp) fun g3 ob3 q3=>?_)
 replace q3:Heap.SameBut (n+1) g2 g3:=q3
 replace ob3:IsEnum g3 (n+1) n ((i:Int)+1) last:=ob3
 show wpAny _ _ (newTuple [.int i tt,x] >>= _) _ _ ⟨g3,gg,dd,tt+1,oo⟩
 refine wpAny_bind (wpAny_newTuple ?_)
 have z3:g3.objs.size=hp.objs.size:=by rw [q3.1,q2.1,q1.1]
 have elt:n+1<hp.objs.size:=Heap.lt_size ob
 obtain ⟨g4,e4⟩:∃ g4,g4=g3.push { cls:=.type "tuple",data:=.seq #[.int i tt,x] }:=⟨_,rfl⟩
 have ob4:IsEnum g4 (n+1) n ((i:Int)+1) last:=by rw [e4];exact Heap.get?_push_of_some _ ob3
 have t4:IsT g4 hp.objs.size #[.int i tt,x]:=by rw [e4,← z3];exact Heap.get?_push_size _ rfl
 have z4:g4.objs.size=hp.objs.size+1:=by rw [e4,Heap.size_push,z3]
 have o4:Off [n,n+1] hp g4:=by
  rw [e4]
  exact (((Off.of q1 (by simp)).trans (Off.of q2 (by simp))).trans (Off.of q3 (by simp))).trans (Off.push _)
 have src4:ItAt k g4 n a (i+1):=src1.keep fun o e=>by
  rw [e4]
  exact Heap.get?_push_of_some _ ((q3.2 _ n1.symm).trans ((q2.2 _ n1.symm).trans e))
 show wpAny _ _ (Builtin.SmallTypes.ownedTupleIsFree (.ref (n+1)) >>= _) _ _ ⟨_,gg,dd,tt+1,oo⟩
 rw [z3,← e4]
 clear e4 ob3 q3 ob2 q2 ob1 q1 src1 z3
 refine wpAny_bind ?_
 unfold Builtin.SmallTypes.ownedTupleIsFree
 refine wpAny_bind (wpAny_field ob4 rfl (x:=.none) rfl (wpAny_pure ?_))
 rw [if_pos rfl]
 refine wpAny_bind (wpAny_rule (wpAny_bind (wpAny_field ob4 rfl (x:=last) rfl (wpAny_bind (wpAny_setField_rec ob4 (by simp) fun g5 ob5 q5=>?_)))))
 replace q5:Heap.SameBut (n+1) g4 g5:=q5
 replace ob5:IsEnum g5 (n+1) n ((i:Int)+1) x:=ob5
 show wpAny _ _ (Builtin.SmallTypes.ownedTupleHandOut (.ref (n+1)) (.ref hp.objs.size) >>= _) _ _ ⟨g5,gg,dd,tt+1,oo⟩
 refine wpAny_bind ?_
 unfold Builtin.SmallTypes.ownedTupleHandOut
 refine wpAny_bind (wpAny_setField_rec ob5 (by simp) fun g6 ob6 q6=>?_)
 replace q6:Heap.SameBut (n+1) g5 g6:=q6
 replace ob6:IsEnumOut g6 (n+1) n ((i:Int)+1) x hp.objs.size:=ob6
 refine wpAny_setField_rec ob6 (by simp) fun g7 ob7 q7=>?_
 replace q7:Heap.SameBut (n+1) g6 g7:=q7
 replace ob7:IsEnumOut g7 (n+1) n ((i:Int)+1) x hp.objs.size:=ob7
 have up:∀ c o,c≠n+1→g4.get? c=some o→g7.get? c=some o:=fun c o hc e=>(q7.2 _ hc).trans ((q6.2 _ hc).trans ((q5.2 _ hc).trans e))
 refine wpAny_bind (wpAny_letGo (wpAny_pure ⟨_,rfl,hQ g7 tt ob7 (src4.keep fun o e=>up _ o n1.symm e) (up _ _ (Nat.ne_of_gt elt) t4) (by rw [q7.1,q6.1,q5.1,z4]) fun c o hc e=>?_⟩))
 exact up c o (fun z=>hc (by simp [z])) (o4 c o hc e)
theorem pyNext_en {k:Bool} {n a:Nat} {i:Nat} {xs:Array Value} {x:Value} {Q:Option Value→Shared→Prop} (Z:En k n a i s.heap) (ha:a<n) (hs:SrcOf k s.heap a xs) (hx:xs[i]?=some x)
  (hQ:∀ h' t,IsEnumOut h' (n+1) n ((i:Int)+1) x s.heap.objs.size→ItAt k h' n a (i+1)→IsT h' s.heap.objs.size #[.int i t,x]→h'.objs.size=s.heap.objs.size+1→Off [n,n+1] s.heap h'→Q (some (.ref s.heap.objs.size)) { s with heap:=h',toks:=s.toks+1 }) :
  wpAny (model prog w) A (pyNext (.ref (n+1))) Q E s:=by
 have ty:s.TypeIs (.ref (n+1)) "enumerate":=by obtain ⟨last,ob⟩:=Z.ob;exact⟨_,ob,rfl⟩
 unfold pyNext
 exact wpAny_bind (wpAny_attempt (wpAny_callSpecial?_slot (name:=Str.ofString "__next__") ty F.slot_enumerate_next (wpAny_call_entry F.slot_enumerate_next ty F.entry_enumerate_next
  (en_next Z ha hs hx fun h' t b1 b2 b3 b4 b5=>wpAny_pure (hQ h' t b1 b2 b3 b4 b5)) (F.args_enumerate_next_1 _))))
theorem pyNext_en_end {k:Bool} {n a:Nat} {i:Nat} {xs:Array Value} {Q:Option Value→Shared→Prop} (hh:A.handled=none) (Z:En k n a i s.heap) (hs:SrcOf k s.heap a xs) (hx:xs[i]?=none)
  (hQ:∀ h',Off [n,n+1] s.heap h'→Q none { s with heap:=h' }):wpAny (model prog w) A (pyNext (.ref (n+1))) Q E s:=by
 obtain ⟨⟨last,ob⟩,src⟩:=Z
 have ty:s.TypeIs (.ref (n+1)) "enumerate":=⟨_,ob,rfl⟩
 unfold pyNext
 refine wpAny_bind (wpAny_attempt (wpAny_callSpecial?_slot (name:=Str.ofString "__next__") ty F.slot_enumerate_next (wpAny_call_entry F.slot_enumerate_next ty F.entry_enumerate_next ?_ (F.args_enumerate_next_1 _))))
 show wpAny _ _ (field (.ref (n+1)) 2 >>= _) _ _ _
 refine wpAny_bind (wpAny_field ob rfl (x:=.ref n) rfl (wpAny_bind (sub_end hh src hs hx fun h' e off ⟨o,ho,hc⟩=>?_)))
 exact wpAny_bind (wpAny_isInstance (T:="StopIteration") (b:=true) ⟨o,ho,hc⟩ isSubtype_stop (wpAny_pure (hQ _ fun c u hc e=>off c u (fun z=>hc (by simp [z])) e)))
noncomputable abbrev eh2 (k:Bool) (h:Heap) (a:Addr):Heap:=(h.push (itObj k a)).push { cls:=.type "enumerate",data:=.fields #[.none,.bool false,.ref h.objs.size,rawInt 0,.none,.none] }
end
end L2
namespace L2
open PySem
open AutoSeq1 (wpAny_loadPart')
theorem en_made (k:Bool) (a:Addr) (xs:Array Value) :
  Meets (Builtin.«enumerate.__new__» ⟨[.type "enumerate",.ref a],[]⟩) (fun _ R s=>SrcOf k s.heap a xs∧R (.ok (.ret (.ref (s.heap.objs.size+1)))) { s with heap:=eh2 k s.heap a }) :=
 .of_wp fun prog w A R s h=>by
  obtain ⟨hp,gg,dd,tt,oo⟩:=s
  obtain ⟨src,r⟩:=h
  have sub:=sub_enumerate
  have S:SrcOf k (Shared.heap ⟨hp,gg,dd,tt,oo⟩) a xs:=src
  obtain ⟨ob,e⟩:∃ ob,hp.get? a=some ob:=by
   cases k
   ·obtain ⟨ob,e,_⟩:=src;exact⟨ob,e⟩
   ·obtain ⟨ob,e,_⟩:=src;exact⟨ob,e⟩
  obtain ⟨oc,od,ot,os⟩:=ob
  have last:(hp.push (itObj k a)).objs.size=hp.objs.size+1:=Heap.size_push ..
  have r':R (.ok (.ret (.ref (hp.push (itObj k a)).objs.size))) ⟨eh2 k hp a,gg,dd,tt,oo⟩:=by rw [last];exact r
  wp_walk using wpAny_loadPart' e
  refine wpAny_stack_any fun st=>wpAny_pure ?_
  split
  ·rename_i c _ _ _ _ _
   cases (c == Value.type "enumerate") <;> (wp_walk using wpAny_loadPart' e,src_iter S;exact⟨_,rfl,r'⟩)
  ·wp_walk using wpAny_loadPart' e,src_iter S
   exact⟨_,rfl,r'⟩
end L2
namespace L2
open PySem PySem.Spec PyProof.Rows
noncomputable def Itn (K : PySem.W.Frag) (k : Bool) (a : Addr) : It :=
  ⟨fun i H => ∃ xs x, Sq k K H a xs ∧ xs[i]?=some x,
   fun i H v H' => ∃ p x, v=.ref p ∧ H p=none ∧ (∀ xs, Sq k K H a xs → xs[i]?=some x) ∧ H'=upd H p (.tup [.int i, x]),
   fun i H => ∃ xs, Sq k K H a xs ∧ xs.length ≤ i⟩
theorem turn_en {P:Program} {w:World} {K:PySem.W.Frag} {es:List Expr} {kk:Nat} {pos:Pos} {k:Bool} (n a:Nat) (ha:a<n) :
  Turn P w K (.Tuple es kk pos) (Itn K k a) [n+1,n] (n+1) (fun i h=>En k n a i h) where
 mem:=by simp
 obj:=fun i h st c hc=>by
  obtain ⟨⟨last,ob⟩,src⟩:=st
  simp only [List.mem_cons,List.not_mem_nil,or_false] at hc
  rcases hc with rfl|rfl
  ·exact⟨_,ob,fun v z=>nomatch z⟩
  ·exact src.obj
 keep:=fun i h h' st k=>by
  obtain ⟨⟨last,ob⟩,src⟩:=st
  exact⟨⟨last,k _ (by simp) _ ob⟩,src.keep fun o e=>k _ (by simp) o e⟩
 item:=by
  intro X hP hw hK hc i pins s σ H E I hf st hg
  subst hP hw hK
  obtain ⟨xs,x,qx,ex⟩:=hg
  obtain ⟨is1,r1,s1,_⟩:=I.sq qx
  obtain ⟨u,hu,ru⟩:=r1.get ex
  refine pyNext_en st ha s1 (x:=u) (by simpa using hu) fun h' t ob src hT hsz off=>⟨_,rfl,?_⟩
  have hTn:H s.heap.objs.size=none:=I.hok.fresh (Nat.le_refl _)
  have zlt:n+1<s.heap.objs.size:=by obtain ⟨last,b⟩:=st.ob;exact Heap.lt_size b
  refine wpAny_letOwnedTupleGo_enum ob fun h2 ob2 hs2=>?_
  have off2:Off [n+1,n] s.heap h2:=fun c o hc e=>(hs2.2 c fun z=>hc (by simp [z])).trans (off c o (fun z=>hc (by simp only [List.mem_cons,List.not_mem_nil,or_false] at z ⊢;exact z.symm)) e)
  have hT2:IsT h2 s.heap.objs.size #[.int i t,u]:=(hs2.2 _ (Nat.ne_of_gt zlt)).trans hT
  refine⟨.ref s.heap.objs.size,upd H s.heap.objs.size (.tup [.int i,x]),?_,rfl,⟨_,x,rfl,hTn,fun zs hzs=>by rw [I.sq_inj hzs qx];exact ex,rfl⟩,?_,fun c hc=>?_⟩
  ·refine Inv.off (s:=s) (h':=h2) (t':=s.toks+1) (ch:=[n+1,n]) I hf off2 (I.hok.offNew (fun c hc=>(hf c hc).1) off2 (Nat.le_refl _) ?_) (fun c o _ e hn=>?_) fun c o e=>?_
   ·exact⟨by show 2≤sizeLine;decide,[.int i t,u],.cons ⟨t,rfl⟩ (.cons ru .nil),⟨_,hT2,rfl,_,rfl⟩⟩
   ·rw [upd_ne (Nat.ne_of_lt (Heap.lt_size e))];exact hn
   ·rw [upd_ne (ne_of_none e hTn)];exact e
  ·exact⟨⟨_,ob2⟩,src.keep fun o e=>(hs2.2 _ (nne (by lia))).trans e⟩
  ·have cn:c≠s.heap.objs.size:=by
    simp only [List.mem_cons,List.not_mem_nil,or_false] at hc
    rcases hc with rfl|rfl <;> exact nne (by lia)
   rw [upd_ne cn];exact (hf c hc).1
 done:=by
  intro X hP hw hK hc i pins s σ H E I hf st hg
  subst hP hw hK
  obtain ⟨xs,qx,hend⟩:=hg
  obtain ⟨is1,r1,s1,_⟩:=I.sq qx
  have e1:=r1.length
  refine pyNext_en_end (I.ok.hd hc) st s1 (by simp;lia) fun h' off=>⟨rfl,?_⟩
  have off2:Off [n+1,n] s.heap h':=fun c o hc e=>off c o (fun z=>hc (by simp only [List.mem_cons,List.not_mem_nil,or_false] at z ⊢;exact z.symm)) e
  exact Inv.off (s:=s) (t':=s.toks) I hf off2 (I.hok.off (fun c hc=>(hf c hc).1) off2) (fun _ _ _ _ q=>q) fun _ _ q=>q
 self:=fun _ _ _ _ _ st h=>by
  obtain ⟨last,ob⟩:=st.ob
  exact wpAny_pyIter_enum ob h
section
variable {X:Cx}
noncomputable def iEnum (K:PySem.W.Frag) (k:Bool) (ta:TA):TI:=fun σ H R=>ta σ H fun vs H1=>∃ a,vs=[.ref a]∧(∃ xs,Sq k K H1 a xs)∧R (Itn K k a) H1
theorem pi_enum (k:Bool) {es:List Expr} {kk:Nat} {tpos:Pos} {a:Expr} {ta:TA} {p pos:Pos} (hg:Gl X "enumerate") (hm:X.mg "enumerate"=none) (ha:PA X [a] ta) (hs:starEach [a] X.env=[(false,eval a X.env)]:=by rfl) :
  PI X (.Tuple es kk tpos) (.Call (.Name "enumerate" p) [a] [] pos) (iEnum X.K k ta):=by
 intro pins s σ H R I h
 refine Call_ (ld_blt I hg hm boot_enumerate (PyProof.Rows.callWith_type1 (thn (ha pos pins s σ H _ I h) fun us s1 ⟨vs,H1,I1,r1,q1⟩=>?_) (by rw [hs];rfl) (by rfl)))
 obtain ⟨a',e,⟨xs,qx⟩,q⟩:=q1
 subst e
 obtain ⟨u,rfl,ru⟩:=vals1 r1
 cases ru
 obtain ⟨is1,r1,s1',_⟩:=I1.sq qx
 refine callType_new PySem.F.called_enumerate (by decide) (PySem.F.typeCall_enumerate_1 _) (PySem.F.newCall_enumerate_1 _) (fun obj=>PySem.F.args_object_init_2 obj _) PySem.F.entry_enumerate_new (en_made k a' is1.toArray) ⟨s1',?_⟩
 have z1:(s1.heap.push (itObj k a')).objs.size=s1.heap.objs.size+1:=Heap.size_push ..
 have g2:(eh2 k s1.heap a').get? (s1.heap.objs.size+1)=some { cls:=.type "enumerate",data:=.fields #[.none,.bool false,.ref s1.heap.objs.size,rawInt 0,.none,.none] }:=by rw [← z1];exact Heap.get?_push_size _ rfl
 have g1:(eh2 k s1.heap a').get? s1.heap.objs.size=some (itObj k a'):=Heap.get?_push_of_some _ (Heap.get?_push_size _ (by cases k <;> rfl))
 have old:∀ c o,s1.heap.get? c=some o→(eh2 k s1.heap a').get? c=some o:=fun c o x=>Heap.get?_push_of_some _ (Heap.get?_push_of_some _ x)
 have Z:En k s1.heap.objs.size a' 0 (eh2 k s1.heap a'):=⟨⟨_,g2⟩,itObj_at g1⟩
 show _∧_
 refine⟨⟨_,g2,rfl⟩,wpAny_pyIter_enum g2 ?_⟩
 refine⟨_,_,_,_,H1,rfl,I1.kept (t':=s1.toks) old,turn_en s1.heap.objs.size a' s1'.lt,Z,fun c hc=>?_,q⟩
 have hcl:s1.heap.objs.size≤c:=by
  simp only [List.mem_cons,List.not_mem_nil,or_false] at hc
  rcases hc with rfl|rfl <;> first|exact Nat.le_add_right _ _|exact Nat.le_refl _
 exact I1.fpOk hcl (I1.hok.fresh hcl)
theorem kpi_enum (K:PySem.W.Frag) (hK:X.K=K) (k:Bool) {es:List Expr} {kk:Nat} {tpos:Pos} {a:Expr} {ta:TA} {p pos:Pos} (hg:Gl X "enumerate") (hm:X.mg "enumerate"=none) (ha:PA X [a] ta) (hs:starEach [a] X.env=[(false,eval a X.env)]:=by rfl) :
  PI X (.Tuple es kk tpos) (.Call (.Name "enumerate" p) [a] [] pos) (iEnum K k ta):=hK ▸ pi_enum k hg hm ha hs
end
section
variable {K:PySem.W.Frag} {H:Hp} {σ:St} {D:Ends}
noncomputable def rItN (K:PySem.W.Frag) (k:Bool):List V→Hp→(It→Hp→Prop)→Prop:=fun vs H R=>∃ a,vs=[.ref a]∧(∃ xs,Sq k K H a xs)∧R (Itn K k a) H
theorem r_ienum {k:Bool} {ts:TA} {R:It→Hp→Prop} (h:ts σ H fun vs H1=>rItN K k vs H1 R):iEnum K k ts σ H R:=h
theorem r_isn {k:Bool} {a:Addr} {xs:List V} {R:It→Hp→Prop} (e:Sq k K H a xs) (h:R (Itn K k a) H):rItN K k [.ref a] H R:=⟨a,rfl,⟨_,e⟩,h⟩
end
end L2
namespace L2
open PySem PySem.Spec PyProof.Rows
inductive RowsL (K:PySem.W.Frag) (H:Hp):List V→List (List Int)→Prop where
 | nil:RowsL K H [] []
 | cons {a:Addr} {r:List Int} {xs:List V} {rs:List (List Int)} (h:SqT K H a (r.map V.int)) (t:RowsL K H xs rs):RowsL K H (.ref a::xs) (r::rs)
theorem upd_sqT {K:PySem.W.Frag} {H:Hp} {l a:Addr} {xs ys zs:List V} (h:SqT K H a xs) (e:H l=some (.lst ys)):SqT K (upd H l (.lst zs)) a xs :=
 (rm_sqT h e).imp (fun q=>q.imp (fun q=>by rw [upd_ne (fun z=>by rw [z,rm_at] at q;cases q)];exact rm_same _ _ q) fun ⟨o,q⟩=>⟨o,by rw [upd_ne (fun z=>by rw [z,rm_at] at q;cases q)];exact rm_same _ _ q⟩) id
end L2
namespace L2
open PySem PySem.Spec PyProof.Rows PySem.W
section
variable {M:Model} {A:Around} {E:Value→Shared→Prop} {s:Shared}
theorem entry_one {base:Heap} {env:Env} {outer:List Env} {L e:Addr} {oe:Obj} {vs:Array Value} {head:Value} {hadNext:Bool} {Q:Unit→Shared→Prop}
  (hfr:A.frames=some (env::outer)) (hl:s.heap.FunFrames base (env::outer)) (hf:env.frame=some L) (he:s.heap.get? e=some oe) (hd:oe.data=.fields vs) (hsz:1<vs.size)
  (h:∀ h' T,(∀ b o,b≠e→b∉frs (env::outer)→s.heap.get? b=some o→h'.get? b=some o)→(∀ b o,b≠e→s.heap.get? b=some o→∃ sl,h'.get? b=some { o with slots:=sl }) →
   s.heap.get? T=none→T≠e→h'.get? e=some (oe.mapFields (·.setIfInBounds 1 (.ref T)))→(∃ oT ts,h'.get? T=some oT∧oT.data=.fields ts∧ts[3]?=some (rawInt L))→Q () { s with heap:=h' }) :
  wpAny M A (do let a ← frameOf env;let pl ← entryPlaceOf L hadNext;let b ← EntryCells.newEntry head a .none (rawInt L) .none pl;setField (.ref e) 1 b) Q E s:=by
 have hene:e∉(env::outer).filterMap (·.frame):=fun hm=>by
  obtain ⟨_,o,ho,hnf⟩:=hl.mem hm
  rw [he] at ho;injection ho with ho;subst ho;exact hnf vs hd
 refine wpAny_bind (wpAny_frameOf_fun hfr hl hf fun h₁ hs₁=>wpAny_bind (wpAny_entryPlaceOf fun pl hpl=>?_))
 unfold EntryCells.newEntry newFields
 refine wpAny_bind (wpAny_newObj_type ?_ (hpl.sizeOk5 _ _ _ _ _))
 have he₁:h₁.get? e=some oe:=(hs₁.2.1 e hene).trans he
 obtain ⟨tb,etb⟩:∃ tb:Obj,tb={ cls:=.type "traceback",dict:=none,data:=.fields ([head,.ref L,.none,rawInt L,.none]++(if pl.isEmpty then List.replicate 6 Value.none else pl)).toArray }:=⟨_,rfl⟩
 have htd:∃ ts,tb.data=.fields ts∧ts[3]?=some (rawInt L):=by rw [etb];exact⟨_,rfl,by simp⟩
 have hnf:tb.isFreed=false:=by rw [etb];rfl
 show wpAny M A (setField (.ref e) 1 (.ref h₁.objs.size)) Q E { s with heap:=h₁.push _ }
 rw [← etb]
 have he₂:=Heap.get?_push_of_some (h:=h₁) tb he₁
 have hTe:h₁.objs.size≠e:=Nat.ne_of_gt (Heap.lt_size he₁)
 refine wpAny_setField he₂ hd hsz (h _ h₁.objs.size (fun b o hbe hbf hb=>?_) (fun b o hbe hb=>?_) (Heap.get?_none_of_le (by rw [hs₁.1];exact Nat.le_refl _)) hTe (Heap.get?_update_self _ he₂ (Obj.isFreed_of_fields (Obj.data_mapFields hd _))) ?_)
 ·rw [Heap.get?_update_other _ _ (Ne.symm hbe)]
  exact Heap.get?_push_of_some _ ((hs₁.2.1 b hbf).trans hb)
 ·obtain ⟨sl,hs⟩:=hs₁.2.2 b o hb
  exact⟨sl,by rw [Heap.get?_update_other _ _ (Ne.symm hbe)];exact Heap.get?_push_of_some _ hs⟩
 ·obtain ⟨ts,q1,q2⟩:=htd
  exact⟨tb,ts,(Heap.get?_update_other _ _ (Ne.symm hTe)).trans (Heap.get?_push_size h₁ hnf),q1,q2⟩
theorem note_one {base:Heap} {env:Env} {outer:List Env} {L e:Addr} {oe:Obj} {vs:Array Value} {T0:Option Addr} {Q:Unit→Shared→Prop}
  (hfr:A.frames=some (env::outer)) (hl:s.heap.FunFrames base (env::outer)) (hf:env.frame=some L) (he:s.heap.get? e=some oe) (hd:oe.data=.fields vs) (hh:HeadOk s.heap e vs T0)
  (h:∀ h' T,(∀ b o,b≠e→some b≠T0→b∉frs (env::outer)→s.heap.get? b=some o→h'.get? b=some o)→(∀ b o,b≠e→some b≠T0→s.heap.get? b=some o→∃ sl,h'.get? b=some { o with slots:=sl }) →
   s.heap.get? T=none→T≠e→h'.get? e=some (oe.mapFields (·.setIfInBounds 1 (.ref T)))→(∃ oT ts,h'.get? T=some oT∧oT.data=.fields ts∧ts[3]?=some (rawInt L))→Q () { s with heap:=h' }) :
  wpAny M A (noteFrame (.ref e) env) Q E s:=by
 unfold noteFrame
 simp only [hf]
 cases T0 with
 | none =>
  have h1:vs[1]?=some .none:=hh
  refine wpAny_bind (wpAny_field he hd h1 ?_)
  rw [if_neg (by decide)]
  exact entry_one hfr hl hf he hd (Array.getElem?_eq_some_iff.mp h1).1 fun h' T k1 k2 k3 k4 k5 k6=>h h' T (fun b o b1 _ b3 b4=>k1 b o b1 b3 b4) (fun b o b1 _ b3=>k2 b o b1 b3) k3 k4 k5 k6
 | some T =>
  obtain ⟨h1,hTe,oT,ts,hT,hdT,h3⟩:=hh
  refine wpAny_bind (wpAny_field he hd h1 ?_)
  rw [if_pos (show (Value.ref T != Value.none)=true from by simp)]
  refine wpAny_bind (wpAny_field hT hdT h3 ?_)
  rw [if_neg (show ¬ ((Value.none == rawInt L)=true) from by simp [rawInt])]
  refine wpAny_bind (wpAny_setField hT hdT (Array.getElem?_eq_some_iff.mp h3).1 ?_)
  have other:∀ b,b≠T→(s.heap.update T (Obj.mapFields (·.setIfInBounds 3 Value.none))).get? b=s.heap.get? b:=fun b hb=>Heap.get?_update_other _ _ (Ne.symm hb)
  have noRecord:∀ b o,s.heap.get? b=some o→(∀ vs,o.data≠.fields vs)→b≠T:=fun b o hb hnf q=>by
   rw [q,hT] at hb;injection hb with hb;subst hb;exact hnf ts hdT
  have hT2:=Heap.get?_update_self (Obj.mapFields (·.setIfInBounds 3 Value.none)) hT (Obj.isFreed_of_fields (Obj.data_mapFields hdT _))
  refine entry_one hfr (hl.of_keeps fun b o hb hnf=>⟨o,(other b (noRecord b o hb hnf)).trans hb,rfl⟩) hf ((other e (Ne.symm hTe)).trans he) hd (Array.getElem?_eq_some_iff.mp h1).1 fun h' T' k1 k2 k3 k4 k5 k6=>?_
  refine h h' T' (fun b o b1 b2 b3 b4=>k1 b o b1 b3 ((other b fun z=>b2 (by rw [z])).trans b4)) (fun b o b1 b2 b4=>k2 b o b1 ((other b fun z=>b2 (by rw [z])).trans b4)) ?_ k4 k5 k6
  by_cases hq:T'=T
  ·rw [hq,hT2] at k3;cases k3
  ·rw [other T' hq] at k3;exact k3
theorem flight_to {e T:Addr} {oe oT:Obj} {vs ts:Array Value} {fl:Option Addr} {Q:Unit→Shared→Prop} (he:s.heap.get? e=some oe) (hd:oe.data=.fields vs) (h1:vs[1]?=some (.ref T)) (hT:s.heap.get? T=some oT) (hdT:oT.data=.fields ts) (h3:3<ts.size)
  (h:∀ h',(∀ b o,b≠T→s.heap.get? b=some o→h'.get? b=some o)→(∃ oT ts,h'.get? T=some oT∧oT.data=.fields ts∧ts[3]?=some (fl.elim .none fun f=>rawInt f))→Q () { s with heap:=h' }):wpAny M A (setFlight (.ref e) fl) Q E s:=by
 unfold setFlight
 refine wpAny_bind (wpAny_field he hd h1 ?_)
 rw [if_pos (show (Value.ref T != Value.none)=true from by simp)]
 refine wpAny_setField hT hdT h3 (h _ (fun b o hb e=>(Heap.get?_update_other _ _ (Ne.symm hb)).trans e) ⟨_,_,Heap.get?_update_self _ hT (Obj.isFreed_of_fields (Obj.data_mapFields hdT _)),Obj.data_mapFields hdT _,?_⟩)
 simp [h3]
theorem note_no {env:Env} {L e T:Addr} {oe oT:Obj} {vs ts:Array Value} {Q:Unit→Shared→Prop} (hf:env.frame=some L) (he:s.heap.get? e=some oe) (hd:oe.data=.fields vs) (h1:vs[1]?=some (.ref T)) (hT:s.heap.get? T=some oT) (hdT:oT.data=.fields ts) (h3:ts[3]?=some (rawInt L)) (h:Q () s) :
  wpAny M A (noteFrame (.ref e) env) Q E s:=by
 unfold noteFrame
 simp only [hf]
 refine wpAny_bind (wpAny_field he hd h1 ?_)
 rw [if_pos (show (Value.ref T != Value.none)=true from by simp)]
 refine wpAny_bind (wpAny_field hT hdT h3 ?_)
 rw [if_pos (by simp)]
 exact wpAny_pure h
end
noncomputable def ExcM (h:Heap) (H:Hp) (h0:Heap) (ps:List (Addr×Obj)) (L a C:Addr):Prop:=∃ oe vs T oT ts,h.get? a=some oe∧oe.cls=.ref C∧oe.dict=none∧oe.data=.fields vs∧1<vs.size∧vs[1]?=some (.ref T)∧T≠a∧h.get? T=some oT∧oT.data=.fields ts∧ts[3]?=some (rawInt L) ∧
 H a=none∧(h0.get? a=none∧∀ p∈ps,p.1≠a)∧H T=none∧h0.get? T=none∧∀ p∈ps,p.1≠T
noncomputable def XM (X:Cx) (EX:EXT):Value→Shared→Prop:=fun e s'=>∃ a C σ' H',e=.ref a∧Inv X.nox [] σ' H' s'∧ExcM s'.heap H' X.s₀.heap X.pn X.env.locals a C∧EX C σ' H'
noncomputable def XP (X:Cx) (EX:EXT):Value→Shared→Prop:=fun e s'=>XW X EX e s'∨XM X EX e s'
theorem leavesP {P:Program} {w:World} {K:PySem.W.Frag} {mg:Str→Option Value} {base:Heap} {N:List Str} {qual:Str} {scope:Scope} {f:Addr} {cd:Value} {A:Around} {outer:List Env} {s:Shared} {H:Hp} {E:XK} {e:Value} {s':Shared}
  (h:XP (cxOf (CX1 P w) P w K mg base N qual scope f cd A outer s H E) (fun C _ H'=>E (.ref C) none H') e s'):(cxOf (CX1 P w) P w K mg base N qual scope f cd A outer s H E).xe e s':=by
 rcases h with h|h
 ·exact leaves h
 obtain ⟨a,C,σ',H',rfl,I,⟨oe,vs,T,oT,ts,he,hc,hdi,hd,hsz,h1,hTa,hT,hdT,h3,hHa,⟨h0a,hpa⟩,T2,T3,T4⟩,hE⟩:=h
 have h0a':s.heap.get? a=none:=h0a
 have T3':s.heap.get? T=none:=T3
 show wpAny (model P w) (A.deeper (envOfC qual scope s.heap.objs.size f cd)) (leaving (envOfC qual scope s.heap.objs.size f cd) (.ref a)) _ _ s'
 unfold leaving
 refine wpAny_bind (note_no (L:=s.heap.objs.size) rfl he hd h1 hT hdT h3 (flight_to (fl:=none) he hd h1 hT hdT (Array.getElem?_eq_some_iff.mp h3).1 fun h' f1 f2=>?_))
 have neT:∀ b o,s.heap.get? b=some o→b≠T:=fun b o q z=>by rw [z,T3'] at q;cases q
 refine⟨a,C,H',rfl,I.os,I.bare,⟨fun b o q n hb hx=>f1 b o (neT b o q) (I.base.keep b o q n hb hx),fun b o q n hb hx=>?_,fun b o q n hx=>I.base.free b o q n hx,fun b o q hx=>?_,I.base.tups,I.base.frzs,I.base.tbls⟩,I.hok.off (ch:=[T]) (fun b hb=>by rw [show b=T by simpa using hb];exact T2) fun b o hb q=>f1 b o (by simpa using hb) q,?_,hE⟩
 ·obtain ⟨sl,q1⟩:=I.base.slot b o q n hb hx
  exact⟨sl,f1 _ _ (neT b o q) q1⟩
 ·obtain ⟨o',q1⟩:=I.base.there b o q hx
  exact⟨o',f1 _ _ (neT b o q) q1⟩
 ·exact⟨oe,vs,some T,f1 _ _ (Ne.symm hTa) he,hc,hdi,hd,hsz,⟨h1,hTa,f2⟩,hHa,⟨h0a',fun _ z=>nomatch z⟩,fun T' e=>by cases e;exact⟨T2,T3',fun _ z=>nomatch z⟩⟩
section
variable {P:Program} {w:World} {K:PySem.W.Frag} {mg:Str→Option Value} {base:Heap}
theorem Def.okP {x:Str} {st:Stmt} {N ps:List Str} {k:Nat} {sp:Sp} (D:Def K mg x st ps) (S:FnScope N ps (defScope st)) (len:∀ vs H Q E,sp vs H Q E→vs.length=ps.length)
  (hbody:∀ (f:Addr) (cdv:Value) (A:Around) (outer:List Env) (s:Shared) (H:Hp) (vs:List V) (Q:VK) (E:XK),Room k (A.deeper (envOfC x (defScope st) s.heap.objs.size f cdv))→sp vs H Q E →
   ∃ t,PSs ((cxOf (CX1 P w) P w K mg base N x (defScope st) f cdv A outer s H E).wish (XP (cxOf (CX1 P w) P w K mg base N x (defScope st) f cdv A outer s H E) fun C _ H'=>E (.ref C) none H')) (defBody st) t∧t { nx:=fun _ H'=>Q .non H',rt:=Q } (start N vs) H):OkX P w K mg base (k+1) x ps sp:=by
 obtain ⟨f,fd,F,hm,hb⟩:=D
 obtain ⟨oc,od,kV,doc,pm,an,cdv,ct,osl,rfl,lk,hcd⟩:=F.ex
 refine⟨f,_,fn_of lk hcd S len fun A outer s H vs Q E hr hsp=>?_,hm,F.kp,hb⟩
 obtain ⟨t,h,q⟩:=hbody f cdv A outer s H vs Q E hr hsp
 exact⟨t,h.xe fun e s z=>leavesP z,q⟩
end
end L2
set_option maxRecDepth 100000
set_option maxRecDepth 100000
set_option maxRecDepth 100000
set_option maxRecDepth 100000
set_option maxRecDepth 100000
set_option maxRecDepth 100000
namespace L2
open PySem PySem.Spec PyProof.Rows
inductive KeysL (K:PySem.W.Frag) (H:Hp):List V→List (List Int×Int)→Prop where
 | nil:KeysL K H [] []
 | cons {a w:Addr} {r:List Int} {m:Int} {xs:List V} {ks:List (List Int×Int)} (h:SqT K H a [.ref w,.int m]) (hw:SqT K H w (r.map V.int)) (t:KeysL K H xs ks):KeysL K H (.ref a::xs) ((r,m)::ks)
end L2
set_option maxRecDepth 100000
set_option maxRecDepth 100000
set_option maxRecDepth 100000
namespace L2
open PySem PySem.Spec PyProof.Rows PySem.W
noncomputable def SameT (P:Addr) (H H':Hp):Prop:=∀ b o,b≠P→H b=some o→H' b=some o
noncomputable def codeO (c:Addr) (q:Str):HO:=.ext fun h=>h.CodeRec (.ref c) q
noncomputable def TabH (P:Addr) (lp:Pos) (q:Str) (H:Hp):Prop:=∃ ps:Array Value,H P=some (.tbl ps)∧TriplesOk ps.toList∧(codeAmong lp ps.toList=none∨∃ c,codeAmong lp ps.toList=some (.ref c)∧H c=some (codeO c q))
theorem SameT.of {P:Addr} {H H1:Hp} (a:Same H H1):SameT P H H1:=fun x o _ e=>a x o e
theorem TabH.same {P:Addr} {lp:Pos} {q:Str} {H H':Hp} (t:TabH P lp q H) (s:Same H H'):TabH P lp q H':=by
 obtain ⟨ps,h1,h2,h3⟩:=t
 refine⟨ps,s _ _ h1,h2,h3.imp id fun ⟨c,e,z⟩=>⟨c,e,s _ _ z⟩⟩
noncomputable def lamO (f c:Addr) (qual:Str) (params:Arguments) (body:Expr) (scope:Scope) (cl:List (Str×Addr)):HO :=
 .ext fun h=>∃ pm ctv,h.get? f=some (kla_obj "<lambda>" qual params body scope cl pm c ctv)
section
variable {X:Cx} {pins:List (Addr×Obj)} {σ:St} {H:Hp} {s:Shared}
theorem lam_make {c P:Addr} {params:Arguments} {body:Expr} {scope:Scope} {lp:Pos} {Q:VK} (I:Inv X pins σ H s) (T:TabH P lp (X.env.qual ++ "<lambda>") H)
  (hcode:X.env.code=.ref c) (C:CodeHd X.base c P) (hB:X.base.BuiltinsAt X.mg P) (hdef:defaultsOf params X.env=([],[]))
  (hfr0:(scope.names.all fun y=>!(y.2 == NameKind.free) || (X.env.cells.lookup y.1).isSome)=true)
  (h:∀ f c' H',SameT P H H'→TabH P lp (X.env.qual ++ "<lambda>") H'→H' f=some (lamO f c' (X.env.qual ++ "<lambda>") params body scope (clOf X.env.cells scope.names []))→H' c'=some (codeO c' (X.env.qual ++ "<lambda>"))→Q (.ref f) H') :
  wpAny (model X.prog X.w) X.A (eval (.Lambda params body scope lp) X.env) (EP X pins σ Q) X.xe s:=by
 have hfr':∀ p∈scope.names,p.2=.free→∃ c,X.env.cells.lookup p.1=some c:=fun y hy e=>by
  have z:=List.all_eq_true.mp hfr0 y hy
  rw [e] at z
  exact Option.isSome_iff_exists.mp (by simpa using z)
 have hcl:=closure_eq hfr'
 obtain ⟨ps,hP,ht,hc⟩:=T
 have oP:s.heap.get? P=some (tabObj ps):=I.hok P _ hP
 have hgs:s.heap.Ns mainGlobals X.mg:=I.mod.glob.keeps I.bk
 have hB':s.heap.BuiltinsAt X.mg P:=by
  obtain ⟨bm,ob,b1,b2,b3,b4,b5,b6⟩:=hB
  exact⟨bm,ob,b1,b2,b3,b4,I.bk _ _ b5,b6⟩
 have ext1:∀ {h2:Heap} {f c':Addr} {pm ctv:Value} {sc:Scope} {q:Str} {cl:List (Str×Addr)},h2.get? f=some (kla_obj "<lambda>" q params body sc cl pm c' ctv)→∀ {H2:Hp},ObjOk X.prog X.w H2 h2 f (lamO f c' q params body sc cl):=fun {h2 f c' pm ctv sc q cl} e {H2} =>
  ⟨⟨pm,ctv,e⟩,⟨_,e⟩,fun h1 h3 ⟨pm,ctv,z⟩ k=>⟨pm,ctv,k _ z⟩⟩
 refine kla_eval hdef ?_
 rcases hc with hn|⟨c',hc,hcc⟩
 ·have hgP:mainGlobals≠P:=fun q=>by
   obtain ⟨o,es,ep,e,hd,_⟩:=hgs
   rw [q,oP] at e;cases e;cases hd
  refine kla_makeFunction (mg:=X.mg) hcl I.ok.glob hgs hcode (C.keeps I.bk) oP ht hn hgP hB' fun c' ctv h' tk hx hge hlt hrec htb=>?_
  obtain ⟨ob,eob⟩:∃ ob:Obj,ob=kla_obj "<lambda>" (X.env.qual ++ "<lambda>") params body scope (clOf X.env.cells scope.names []) ((X.mg "__name__").getD .none) c' ctv:=⟨_,rfl⟩
  have hnf:ob.isFreed=false:=by rw [eob];rfl
  have hof:=Heap.get?_push_size h' hnf
  rw [← eob]
  have big:s.heap.objs.size≤h'.objs.size:=Nat.le_trans hge (Nat.le_of_lt hlt)
  have ncP:c'≠P:=Nat.ne_of_gt (Nat.lt_of_lt_of_le (Heap.lt_size oP) hge)
  have nfP:h'.objs.size≠P:=Nat.ne_of_gt (Nat.lt_of_lt_of_le (Heap.lt_size oP) big)
  have ncf:c'≠h'.objs.size:=Nat.ne_of_lt hlt
  have old:∀ b o,b≠P→s.heap.get? b=some o→(h'.push ob).get? b=some o:=fun b o n e=>Heap.get?_push_of_some _ (hx b o n e)
  have fc:H c'=none:=I.hok.fresh hge
  have ff:H h'.objs.size=none:=I.hok.fresh big
  have sP:SameT P H (upd (upd (upd H P (.tbl (ps++#[rawInt lp.line,rawInt lp.col,.ref c']))) c' (codeO c' (X.env.qual ++ "<lambda>"))) h'.objs.size (lamO h'.objs.size c' (X.env.qual ++ "<lambda>") params body scope (clOf X.env.cells scope.names []))):=fun b o n e=>by
   rw [upd_ne (ne_of_none e ff),upd_ne (ne_of_none e fc),upd_ne n]
   exact e
  generalize hH':upd (upd (upd H P (.tbl (ps++#[rawInt lp.line,rawInt lp.col,.ref c']))) c' (codeO c' (X.env.qual ++ "<lambda>"))) h'.objs.size (lamO h'.objs.size c' (X.env.qual ++ "<lambda>") params body scope (clOf X.env.cells scope.names []))=H' at sP
  have eP:H' P=some (.tbl (ps++#[rawInt lp.line,rawInt lp.col,.ref c'])):=by rw [← hH',upd_ne (Ne.symm nfP),upd_ne (Ne.symm ncP),upd_same]
  have ec:H' c'=some (codeO c' (X.env.qual ++ "<lambda>")):=by rw [← hH',upd_ne ncf,upd_same]
  have ef:H' h'.objs.size=some (lamO h'.objs.size c' (X.env.qual ++ "<lambda>") params body scope (clOf X.env.cells scope.names [])):=by rw [← hH',upd_same]
  have no:∀ b,H b=none→b≠h'.objs.size→b≠c'→H' b=none:=fun b n n1 n2=>by
   rw [← hH',upd_ne n1,upd_ne n2,upd_ne (fun z=>by rw [z,hP] at n;cases n)]
   exact n
  have un:Un X.fs [] H H' s.heap (h'.push ob):=by
   refine⟨fun b o e n _ _=>old b o (fun z=>by rw [z,hP] at n;cases n) e,fun b o e n _ _=>⟨o.slots,old b o (fun z=>by rw [z,hP] at n;cases n) e⟩,fun b o e n _=>no b n (fun z=>?_) (fun z=>?_),fun b o e _=>?_,fun b xs e=>sP b _ (fun z=>by rw [z,hP] at e;cases e) e,fun b o u e=>sP b _ (fun z=>by rw [z,hP] at e;cases e) e,fun b qs e=>?_⟩
   ·exact absurd z (Nat.ne_of_lt (Nat.lt_of_lt_of_le (Heap.lt_size e) big))
   ·exact absurd z (Nat.ne_of_lt (Nat.lt_of_lt_of_le (Heap.lt_size e) hge))
   ·by_cases hb:b=P
    ·subst hb
     exact⟨_,Heap.get?_push_of_some _ htb⟩
    ·exact⟨o,old b o hb e⟩
   ·by_cases hb:b=P
    ·subst hb
     rw [hP] at e
     cases e
     exact⟨_,eP⟩
    ·exact⟨#[],by rw [sP b _ hb e];simp⟩
  have hok:HOk X.prog X.w H' (h'.push ob):=fun b o e=>by
   by_cases h1:b=h'.objs.size
   ·subst h1
    rw [ef] at e
    cases e
    exact ext1 (by rw [hof,eob])
   ·by_cases h2:b=c'
    ·subst h2
     rw [ec] at e
     cases e
     obtain ⟨c2,oc,vs,t,e2,hoc,hd,hv⟩:=hrec
     cases e2
     exact⟨⟨_,oc,vs,t,rfl,Heap.get?_push_of_some _ hoc,hd,hv⟩,⟨oc,Heap.get?_push_of_some _ hoc⟩,fun h1 h2 ⟨c3,o3,v3,t3,z1,z2,z3,z4⟩ k=>⟨c3,o3,v3,t3,z1,by cases z1;exact k _ z2,z3,z4⟩⟩
    ·by_cases h3:b=P
     ·subst h3
      rw [eP] at e
      cases e
      exact Heap.get?_push_of_some _ htb
     ·have e0:H b=some o:=by rw [← hH',upd_ne h1,upd_ne h2,upd_ne h3] at e;exact e
      refine (I.hok b o e0).stay (fun d u hd z=>old d u (fun w=>?_) z) (fun d z=>sP d _ (fun w=>by rw [w,hP] at z;cases z) z) fun d xs z=>sP d _ (fun w=>by rw [w,hP] at z;cases z) z
      rcases hd with rfl|hd
      ·exact h3 w
      ·rw [w,hP] at hd;cases hd
  refine⟨.ref h'.objs.size,H',I.un un hok,rfl,h _ c' H' sP ⟨_,eP,?_,.inr ⟨c',?_,ec⟩⟩ ef ec⟩
  ·rw [Array.toList_append]
   exact TriplesOk_snoc _ _ _ _ ht
  ·rw [Array.toList_append]
   exact codeAmong_snoc _ ht hn
 ·refine kla_makeFunctionHit (mg:=X.mg) hcl I.ok.glob hgs hcode (C.keeps I.bk) oP ht hc hB' fun ctv h' tk hk hsz=>?_
  obtain ⟨ob,eob⟩:∃ ob:Obj,ob=kla_obj "<lambda>" (X.env.qual ++ "<lambda>") params body scope (clOf X.env.cells scope.names []) ((X.mg "__name__").getD .none) c' ctv:=⟨_,rfl⟩
  have hnf:ob.isFreed=false:=by rw [eob];rfl
  have hof:=Heap.get?_push_size h' hnf
  have ff:H h'.objs.size=none:=I.hok.fresh hsz
  have sm:Same H (upd H h'.objs.size (lamO h'.objs.size c' (X.env.qual ++ "<lambda>") params body scope (clOf X.env.cells scope.names []))):=Same.upd_new ff
  refine⟨.ref h'.objs.size,upd H h'.objs.size (lamO h'.objs.size c' (X.env.qual ++ "<lambda>") params body scope (clOf X.env.cells scope.names [])),I.laid (fun b u e=>Heap.get?_push_of_some _ (hk b u e)) hsz (ext1 (by rw [eob] at hof;exact hof)),rfl,h _ c' _ (SameT.of sm) (TabH.same ⟨ps,hP,ht,.inr ⟨c',hc,hcc⟩⟩ sm) upd_same (sm _ _ hcc)⟩
end
end L2
set_option maxRecDepth 100000
namespace L2
open PySem PySem.Spec PyProof.Rows PySem.W
section
variable {K:PySem.W.Frag} {H H':Hp} {P a:Addr} {lp:Pos} {q:Str} {xs:List V}
theorem TabH.at (t:TabH P lp q H):∃ ps,H P=some (.tbl ps):=let ⟨ps,h,_⟩:=t;⟨ps,h⟩
end
end L2
set_option maxRecDepth 100000
namespace L2
open PySem PySem.Spec PyProof.Rows PySem.W
noncomputable def Tabs0 (tabs:List (Addr×Addr)) (H:Hp):Prop:=∀ q∈tabs,H q.2=some (.tbl #[])
theorem law_callT {Pr:Program} {w:World} {K:PySem.W.Frag} {mg mb:Str→Option Value} {CX:CXT} {k:Nat} {fa a:Addr} {fd:FuncData} {x:Str} {sp:Sp} {s₁:Shared} {vs:List Value} {ns:List Int} {tabs:List (Addr×Addr)}
  (hT:TabsAt tabs s₁.heap) (hKt:∀ q∈tabs,K.lookup q.2=none)
  (hbm:∃ bm ob,mg "__builtins__"=some (.ref bm)∧bm≠builtinsNs∧s₁.heap.get? bm=some ob∧ob.cls=.type "module"∧ob.dict=some builtinsNs∧ob.data=.plain)
  (KX:K.In s₁.heap) (hns:s₁.heap.Ns mainGlobals mg) (hb:s₁.heap.Ns builtinsNs mb) (hbb:∀ x:Str,x≠"__name__"→mb x=bootBuiltins x) (hlim:s₁.heap.NoLimit) (hg:s₁.gens=#[])
  (ha:s₁.heap.get? a=some { cls:=.type "list",data:=.seq vs.toArray }) (hi:IntsAre vs ns) (hl:ns.length≤sizeLine) (hr:Room k callerA)
  (F:∀ base:Heap,K.In base→base.Ns mainGlobals mg→(∀ q∈tabs,CodeHd base q.1 q.2∧base.BuiltinsAt mg q.2)→FnOk Pr w K mg base CX k fa fd [x] sp) (hbind:∀ (s:Shared) (u:Value),BindsTo s fd ⟨[u],[]⟩ [(x,u)])
  (hsp:∀ H:Hp,Tabs0 tabs H→SqL K H a (ns.map V.int)→sp [.ref a] H (fun v _=>v=.bl true) fun _ _ _=>False)
  (hCX:∀ H e s',CX [] H s₁ (fun _ _ _=>False) e s'→False) :
  codeAny (model Pr w) callerA (.call (.ref fa) ⟨[.ref a],[]⟩) (fun r s'=>r=.ok (.ret (.bool true))∧OldK s₁.heap s'.heap∧s'.os=s₁.os∧AllBare s'.gens) s₁:=by
 have rv:=vals_ints hi
 have lenV:=hi.length
 have naT:∀ q∈tabs,q.2≠a:=fun q hq z=>by
  have e:=(hT q hq).2
  rw [z,ha] at e
  cases e
 have core:∀ H:Hp,(∀ b u,H b=some u→(b=a∧K.lookup a=none∧∃ xs,u=.frz { cls:=.type "list",data:=.seq vs.toArray } (.lst xs))∨∃ q∈tabs,q.2=b∧u=.tbl #[])→Tabs0 tabs H→SqL K H a (ns.map V.int)→HOk Pr w H s₁.heap →
   codeAny (model Pr w) callerA (.call (.ref fa) ⟨[.ref a],[]⟩) (fun r s'=>r=.ok (.ret (.bool true))∧OldK s₁.heap s'.heap∧s'.os=s₁.os∧AllBare s'.gens) s₁:=by
  intro H hA h0 hS hok
  have base_of:∀ {b:Addr} {o:Obj},s₁.heap.get? b=some o→H b=none→(hidT s₁.heap H).get? b=some o:=fun e n=>hidT_get e n
  have noD:∀ {b:Addr} {o:Obj},s₁.heap.get? b=some o→(∀ v n,o.data≠.seq v n)→(∀ v,o.data=.fields v→o.cls≠.none)→H b=none:=fun {b o} e d d2=>by
   cases q:H b with
   | none=>rfl
   | some u =>
    rcases hA b u q with ⟨rfl,_⟩|⟨t,ht,rfl,_⟩
    ·rw [ha] at e
     cases e
     exact absurd rfl (d _ _)
    ·rw [(hT t ht).2] at e
     cases e
     exact absurd rfl (d2 _ rfl)
  have noA:∀ {b:Addr} {o:Obj} {es:Array DictEntry} {ep:Nat},s₁.heap.get? b=some o→o.data=.dict es ep→H b=none:=fun e d=>noD e (fun v n z=>by rw [d] at z;cases z) fun v z=>by rw [d] at z;cases z
  have nsK:∀ {b:Addr} {m:Str→Option Value},s₁.heap.Ns b m→(hidT s₁.heap H).Ns b m:=fun {b m} ⟨o,es,ep,e,d,r⟩=>⟨o,es,ep,base_of e (noA e d),d,r⟩
  have hKb:K.In (hidT s₁.heap H):=fun b o e=>base_of (KX b o e) (by
   cases q:H b with
   | none=>rfl
   | some u =>
    rcases hA b u q with ⟨rfl,z,_⟩|⟨t,ht,rfl,_⟩
    ·rw [z] at e;cases e
    ·rw [hKt t ht] at e;cases e)
  have hM:Mod K mg (hidT s₁.heap H):=⟨hKb,nsK hns,⟨mb,nsK hb,hbb⟩,let ⟨mc,h1,h2⟩:=hlim;⟨mc,nsK h1,h2⟩⟩
  have hTb:∀ q∈tabs,CodeHd (hidT s₁.heap H) q.1 q.2∧(hidT s₁.heap H).BuiltinsAt mg q.2:=fun q hq=>by
   refine⟨?_,?_⟩
   ·obtain ⟨o,vs',file,tf,flags,tg,inF,text,tt,e1,e2,e3,r⟩:=(hT q hq).1
    exact⟨o,vs',file,tf,flags,tg,inF,text,tt,base_of e1 (noD e1 (fun v n z=>by rw [e3] at z;cases z) fun v _ z=>by rw [e2] at z;cases z),e2,e3,r⟩
   ·obtain ⟨bm,ob,b1,b2,b3,b4,b5,b6⟩:=hbm
    refine⟨bm,ob,b1,b2,fun z=>?_,fun z=>?_,base_of b3 (noD b3 (fun v n z=>by rw [b6] at z;cases z) fun v z=>by rw [b6] at z;cases z),b4,b5,b6⟩
    ·obtain ⟨o,es,ep,e,hd,_⟩:=hns
     rw [z,e] at b3;cases b3;rw [hd] at b6;cases b6
    ·rw [z,(hT q hq).2] at b3;cases b3;cases b4
  have e0:Env0 Pr w K mg (hidT s₁.heap H) callerA [] s₁ H:=⟨rfl,hM,fun b o e=>of_hidT e,Nat.le_of_eq (hidT_size _ _),trivial,fun b hb=>absurd (show b∈([]:List Addr) from hb) (by simp),hok,.of_eq hg⟩
  refine codeAny_mono ((F _ hKb (nsK hns) hTb).run callerA [] s₁ H ⟨[.ref a],[]⟩ [.ref a] [.ref a] _ _ hr e0 (hbind s₁ (.ref a)) (.cons rfl .nil) (hsp H h0 hS)) fun r s' h=>?_
  cases r with
  | error e=>exact (hCX H e s' h).elim
  | ok fl =>
   cases fl with
   | next=>exact False.elim h
   | brk=>exact False.elim h
   | cont=>exact False.elim h
   | ret u =>
    obtain ⟨v,H',os,bare,un,hok',r',q⟩:=h
    have q':v=.bl true:=q
    subst q'
    obtain rfl:u=Value.bool true:=r'
    have was:∀ b o,s₁.heap.get? b=some o→asItWas s₁.heap s'.heap b o∧∃ o',s'.heap.get? b=some o':=fun b o e=>by
     cases q:H b with
     | none =>
      have z:=un.keep b o e q (by intro z;exact absurd (show b∈([]:List Addr) from z) (by simp)) (by simp)
      exact⟨.inl z,_,z⟩
     | some u =>
      rcases hA b u q with ⟨rfl,_,xs,rfl⟩|⟨t,ht,rfl,rfl⟩
      ·have z2:=un.frzs b _ _ q
       obtain ⟨e1,_⟩:=hok b _ q
       obtain ⟨e2,_⟩:=hok' b _ z2
       rw [e] at e1;cases e1
       exact⟨.inl e2,_,e2⟩
      ·obtain ⟨more,z2⟩:=un.tbls t.2 _ q
       have e2:s'.heap.get? t.2=some { cls:=.none,data:=.fields (#[]++more) }:=hok' t.2 _ z2
       have e1:=(hT t ht).2
       rw [e] at e1
       cases e1
       exact⟨.inr (.inl ⟨((hT t ht).1.tab (hT t ht).2).isCodeTable,rfl,#[],more,rfl,e2⟩),_,e2⟩
    exact⟨rfl,⟨fun b o e=>(was b o e).1,fun b o e=>(was b o e).2⟩,os,bare⟩
 have tabOk:∀ (H:Hp) q,q∈tabs→ObjOk Pr w H s₁.heap q.2 (.tbl #[]):=fun H q hq=>(hT q hq).2
 cases hk:K.lookup a with
 | some o =>
  have e:=KX a o hk
  rw [ha] at e
  cases e
  refine core (fun b=>if (tabs.any fun q=>q.2 == b)=true then some (.tbl #[]) else none) (fun b u z=>?_) (fun q hq=>if_pos (List.any_eq_true.mpr ⟨q,hq,by simp⟩)) (.inr ⟨_,vs.toArray,_,hk,rfl,rfl,rfl,by rw [List.size_toArray,lenV];exact hl,by simpa using rv⟩) (fun b u z=>?_)
  ·by_cases hb:(tabs.any fun q=>q.2 == b)=true
   ·have z':=(if_pos hb).symm.trans z
    cases z'
    obtain ⟨q,hq,e⟩:=List.any_eq_true.mp hb
    exact .inr ⟨q,hq,beq_iff_eq.mp e,rfl⟩
   ·have z':=(if_neg hb).symm.trans z
    cases z'
  ·by_cases hb:(tabs.any fun q=>q.2 == b)=true
   ·have z':=(if_pos hb).symm.trans z
    cases z'
    obtain ⟨q,hq,e⟩:=List.any_eq_true.mp hb
    rw [← beq_iff_eq.mp e]
    exact tabOk _ q hq
   ·have z':=(if_neg hb).symm.trans z
    cases z'
 | none =>
  have aT:¬ (tabs.any fun q=>q.2 == a)=true:=fun z=>by
   obtain ⟨q,hq,e⟩:=List.any_eq_true.mp z
   exact naT q hq (beq_iff_eq.mp e)
  obtain ⟨H,hH⟩:∃ H:Hp,H=fun b=>if (tabs.any fun q=>q.2 == b)=true then some (.tbl #[]) else if b=a then some (.frz { cls:=.type "list",data:=.seq vs.toArray } (.lst (ns.map V.int))) else none:=⟨_,rfl⟩
  have hHa:H a=some (.frz { cls:=.type "list",data:=.seq vs.toArray } (.lst (ns.map V.int))):=by
   rw [hH]
   show (if _ then _ else _)=_
   rw [if_neg aT,if_pos rfl]
  have hHt:Tabs0 tabs H:=fun q hq=>by
   rw [hH]
   exact if_pos (List.any_eq_true.mpr ⟨q,hq,by simp⟩)
  have all:∀ b u,H b=some u→(b=a∧u=.frz { cls:=.type "list",data:=.seq vs.toArray } (.lst (ns.map V.int)))∨∃ q∈tabs,q.2=b∧u=.tbl #[]:=fun b u z=>by
   rw [hH] at z
   have z:(if (tabs.any fun q=>q.2 == b)=true then some (HO.tbl #[]) else if b=a then some (.frz { cls:=.type "list",data:=.seq vs.toArray } (.lst (ns.map V.int))) else none)=some u:=z
   by_cases hb:(tabs.any fun q=>q.2 == b)=true
   ·rw [if_pos hb] at z
    cases z
    obtain ⟨q,hq,e⟩:=List.any_eq_true.mp hb
    exact .inr ⟨q,hq,beq_iff_eq.mp e,rfl⟩
   ·rw [if_neg hb] at z
    by_cases h2:b=a
    ·rw [if_pos h2] at z
     cases z
     exact .inl ⟨h2,rfl⟩
    ·rw [if_neg h2] at z
     cases z
  refine core H (fun b u z=>(all b u z).imp (fun ⟨e,eu⟩=>⟨e,hk,_,eu⟩) id) hHt (.inl (.inr ⟨_,hHa⟩)) fun b u z=>?_
  rcases all b u z with ⟨rfl,rfl⟩|⟨q,hq,rfl,rfl⟩
  ·exact⟨ha,by rw [List.length_map];exact hl,vs,_,rv,ha⟩
  ·exact tabOk _ q hq
noncomputable def DefT (K:PySem.W.Frag) (mg:Str→Option Value) (x:Str) (st:Stmt) (ps:List Str) (c:Addr):Prop :=
 ∃ (f:Addr) (fd:FuncData) (oc:Value) (od:Option Addr) (kV doc pm:Value) (an:Option Addr) (ct:Value) (osl:Array (Option Value)),fd=PySem.W.fnOf x x (defArgs st) (defBody st) (defScope st) .none kV doc pm an (.ref c) ct∧K.lookup f=some ⟨oc,od,.func fd,osl⟩∧PySem.W.codeIn K (.ref c) x=true∧PySem.W.keepIn K (.ref f)=true∧mg x=some (.ref f)∧Binds K fd ps []
end L2
set_option maxRecDepth 100000
namespace L2
open PySem PySem.Spec PyProof.Rows PySem.W
noncomputable def tabP (K:PySem.W.Frag) (y:Str):Addr:=((PySem.W.tabIn K y).getD (0,0)).2
theorem tabP_of {K:PySem.W.Frag} {y:Str} {c P:Addr} (h:PySem.W.tabIn K y=some (c,P)):tabP K y=P:=by unfold tabP;rw [h];rfl
end L2
set_option maxRecDepth 100000
set_option maxRecDepth 100000
namespace L2
open PySem PySem.Spec PyProof.Rows
theorem r_par {i j:Nat} {ta:TA} {D:Ends} {σ:St} {H:Hp} (h:ta σ H fun vs H1=>∃ v w,vs=[v,w]∧D.nx ((σ.set i (some v)).set j (some w)) H1):tPar i j ta D σ H:=h
theorem r_two {F:V→V→Prop} {x y:V} (h:F x y):∃ v w,[x,y]=[v,w]∧F v w:=⟨x,y,rfl,h⟩
end L2
namespace L2
open PySem PySem.Spec PyProof.Rows
theorem f_invN {K:PySem.W.Frag} {D:Ends} {σ:St} {H:Hp} {k:Bool} {a:Addr} {xs:List V} {m n:Nat} {tb:TS} (Pv:Nat→St→Hp→Prop) (h0:Pv 0 σ H) (ha:∀ i σ H2,Pv i σ H2→Sq k K H2 a xs)
  (hs:∀ (i:Nat) x σ H2 H3,xs[i]?=some x→Pv i σ H2→Same H2 H3→tb { D with nx:=Pv (i+1),ct:=Pv (i+1),bk:=D.nx } ((σ.set m (some (.int i))).set n (some x)) H3)
  (hd:∀ σ H2,Pv xs.length σ H2→D.nx σ H2):ForGoal (gTup K 2 (gCons (gName m) (gCons (gName n) gNil))) tb D (Itn K k a) σ H:=by
 refine f_inv xs.length Pv h0 (fun i σ H2 hi p=>⟨_,xs[i],ha i σ H2 p,List.getElem?_eq_getElem hi⟩) (fun σ H2 p=>⟨_,ha _ σ H2 p,Nat.le_refl _⟩) (fun i x σ H2 H3 hi p y=>?_) hd
 obtain ⟨q,x',rfl,hp,e1,rfl⟩:=y
 have g1:=e1 _ (ha i σ _ p)
 refine⟨q,_,rfl,SqT.of upd_same,rfl,_,_,rfl,_,_,rfl,rfl,?_⟩
 exact hs i x' σ _ _ g1 p (Same.upd_new hp)
theorem Same.new {a:Addr} {H H':Hp} (s:Same H H') (n:H' a=none):H a=none:=by
 match e:H a with
 | none=>rfl
 | some o =>
  rw [s a o e] at n
  cases n
end L2
namespace L2
open PySem PySem.Spec PyProof.Rows
theorem f_invZ {K:PySem.W.Frag} {D:Ends} {σ:St} {H:Hp} {k1 k2:Bool} {a b:Addr} {xs ys:List V} {m n:Nat} {tb:TS} (hlen:xs.length=ys.length) (Pv:Nat→St→Hp→Prop) (h0:Pv 0 σ H) (ha:∀ i σ H2,Pv i σ H2→Sq k1 K H2 a xs∧Sq k2 K H2 b ys)
  (hs:∀ (i:Nat) x y σ H2 H3,xs[i]?=some x→ys[i]?=some y→Pv i σ H2→Same H2 H3→tb { D with nx:=Pv (i+1),ct:=Pv (i+1),bk:=D.nx } ((σ.set m (some x)).set n (some y)) H3)
  (hd:∀ σ H2,Pv xs.length σ H2→D.nx σ H2):ForGoal (gTup K 2 (gCons (gName m) (gCons (gName n) gNil))) tb D (Itz K k1 k2 a b) σ H:=by
 refine f_inv xs.length Pv h0 (fun i σ H2 hi p=>?_) (fun σ H2 p=>?_) (fun i x σ H2 H3 hi p hy=>?_) hd
 ·exact⟨_,_,xs[i],ys[i]'(hlen ▸ hi),(ha i σ H2 p).1,(ha i σ H2 p).2,List.getElem?_eq_getElem hi,List.getElem?_eq_getElem (hlen ▸ hi)⟩
 ·exact⟨_,_,(ha _ σ H2 p).1,(ha _ σ H2 p).2,.inl (Nat.le_refl _)⟩
 ·obtain ⟨q,x',y',rfl,hq,e1,e2,rfl⟩:=hy
  refine⟨q,_,rfl,SqT.of upd_same,rfl,_,_,rfl,_,_,rfl,rfl,?_⟩
  exact hs i x' y' σ _ _ (e1 _ (ha i σ _ p).1) (e2 _ (ha i σ _ p).2) p (Same.upd_new hq)
end L2
namespace L2
open PySem PySem.Spec PyProof.Rows
section
variable {K:PySem.W.Frag} {H:Hp} {σ:St} {Q:VK} {ix:List (Option Nat)}
theorem comp_gen {J:It} {g:TG} {tt:TT} {te:TE} (t:Nat) (fr:St) (n:Nat) (Pv:Addr→Nat→List V→Hp→Prop) (hpk:pick ix σ=List.replicate t none++fr)
  (h0:∀ l H',H l=none→Same H H'→H' l=some (.lst [])→Pv l 0 [] H') (hn:∀ l i ys H',Pv l i ys H'→ys.length≤1000)
  (hstop:∀ H',Same H H'→J.stop n H') (hgo:∀ i H',i<n→Same H H'→J.go i H')
  (step:∀ l i x H' H2 own ys,own.length=t→i<n→H l=none→Same H H'→H' l=some (.lst ys)→Pv l i ys H'→J.yld i H' x H2→∀ (Qy:St→VK) (Qn:St→Hp→Prop),
   (∀ own2 v H5,own2.length=t→Same H' H5→Pv l (i+1) (ys++[v]) (upd H5 l (.lst (ys++[v])))→Qy (own2++fr) v H5)→(∀ own2 H4,own2.length=t→Same H' H4→Pv l (i+1) ys H4→Qn (own2++fr) H4) →
   g x (own++fr) H2 fun σ2 H3=>tt σ2 H3 fun b H4=>if b=true then te σ2 H4 (Qy σ2) else Qn σ2 H4)
  (hQ:∀ l H' ys,H l=none→Same H H'→H' l=some (.lst ys)→Pv l n ys H'→Q (.ref l) H'):CompGoal ix g tt te σ Q J H:=by
 intro l hl
 refine⟨fun i m σ1 ys H'=>m=n - i∧i≤n∧(∃ own:St,own.length=t∧σ1=own++fr)∧Same H H'∧H' l=some (.lst ys)∧Pv l i ys H',⟨n,by simp,Nat.zero_le _,⟨_,List.length_replicate,hpk⟩,Same.upd_new hl,upd_same,h0 l _ hl (Same.upd_new hl) upd_same⟩,?_⟩
 rintro i m σ1 ys H' ⟨rfl,hi,⟨own,ho,rfl⟩,hs,hl',hp⟩
 refine⟨hl',?_⟩
 by_cases hlt:i<n
 ·refine .inr ⟨hgo i H' hlt hs,n - (i+1),by lia,fun x H2 hy=>step l i x H' H2 own ys ho hlt hl hs hl' hp hy _ _ (fun own2 v H5 ho2 s5 hp5=>?_) fun own2 H4 ho2 s4 hp4=>?_⟩
  ·have l5:=s5 _ _ hl'
   refine⟨l5,Nat.lt_of_le_of_lt (hn l i ys H' hp) (small1000 (Nat.le_refl 1000)),rfl,hlt,⟨own2,ho2,rfl⟩,fun b o e=>?_,upd_same,hp5⟩
   rw [upd_ne (ne_of_none e hl)]
   exact s5 _ _ (hs _ _ e)
  ·exact⟨rfl,hlt,⟨own2,ho2,rfl⟩,hs.trans s4,s4 _ _ hl',hp4⟩
 ·obtain rfl:i=n:=by lia
  exact .inl ⟨hstop H' hs,hQ l H' ys hl hs hl' hp⟩
end
inductive LstsL (H:Hp):List V→List (List Int)→Prop where
 | nil:LstsL H [] []
 | cons {a:Addr} {r:List Int} {xs:List V} {rs:List (List Int)} (h:H a=some (.lst (r.map V.int))) (t:LstsL H xs rs):LstsL H (.ref a::xs) (r::rs)
end L2
namespace L2
open PySem PySem.Spec PyProof.Rows
section
variable {K:PySem.W.Frag} {H:Hp} {σ:St} {Q:VK} {ix:List (Option Nat)}
theorem r_gtup2 {a:Addr} {x y:V} {m n:Nat} {R:St→Hp→Prop} (h:SqT K H a [x,y]) (k:R ((σ.set m (some x)).set n (some y)) H):gTup K 2 (gCons (gName m) (gCons (gName n) gNil)) (.ref a) σ H R:=⟨a,_,rfl,h,rfl,_,_,rfl,_,_,rfl,rfl,k⟩
end
end L2
set_option maxRecDepth 100000
set_option maxRecDepth 100000
set_option maxRecDepth 100000
namespace L2
open PySem PySem.Spec PyProof.Rows PySem.Builtin PySem.Builtin.Str
section
variable {X:Cx}
theorem small2000 {n:Nat} (h:n≤2000):n≤sizeLine:=Nat.le_trans h (by decide)
noncomputable def rStr1:List V→Hp→VK→Prop:=fun xs H Q=>∃ i,xs=[.int i]∧i.natAbs.log2<1920∧Q (.str (toString i)) H
theorem callN_str:CallR X (.type "str") rStr1:=call_str_int
noncomputable def rAddS:R2:=fun x y H Q=>∃ i j,x=.str i∧y=.str j∧i.length+j.length≤sizeLine∧Q (.str (i++j)) H
theorem op_addS:OpR X (binaryOp .Add) rAddS:=op_add_str
end
section
variable {D:Ends} {σ:St} {H:Hp} {te:TE} {g:TG} {Q:VK} {z y:Str} {K:PySem.W.Frag}
theorem r_str1 {i:Int} (hi:i.natAbs.log2<1920) (h:Q (.str (toString i)) H):rStr1 [.int i] H Q:=⟨i,rfl,hi,h⟩
theorem r_addS (hz:z.length+y.length≤sizeLine) (h:Q (.str (z++y)) H):rAddS (.str z) (.str y) H Q:=⟨z,y,rfl,rfl,hz,h⟩
theorem r_ixS {i:Int} {c:Nat} (hz:z.length≤sizeLine) (h1:atI z.cps.toList i=some c) (h:Q (.str ⟨#[c]⟩) H):rIxS (.str z) (.int i) H Q:=⟨z,i,c,rfl,rfl,hz,h1,h⟩
end
end L2
namespace L2
open PySem PySem.Spec PyProof.Rows
section
variable {Q:VK} {H:Hp} {z y:Str}
theorem decS:decide (V.str z=V.str y)=decide (z=y):=by
 rw [Bool.eq_iff_iff];simp
theorem r_eqS (h:Q (.bl (decide (z=y))) H):rEq (.str z) (.str y) H Q:=⟨rfl,by rw [decS];exact h⟩
end
noncomputable def cval:Expr→Option V
 | .Constant (.int i) _ _=>some (.int i)
 | .Constant (.str s) _ _=>some (.str s)
 | _=>none
noncomputable def cvals:List Expr→Option (List V)
 | []=>some []
 | e::es=>match cval e,cvals es with
  | some v,some vs=>some (v::vs)
  | _,_=>none
noncomputable def tVals:List V→TA
 | []=>tNil
 | v::vs=>tCons (tC v) (tVals vs)
theorem pa_vals {X:Cx}:∀ {es:List Expr} {vs:List V},cvals es=some vs→PA X es (tVals vs)
 | [],vs,h=>by cases h;exact pa_nil
 | e::es,vs,h=>by
  unfold cvals at h
  split at h
  ·rename_i v ws h1 h2
   cases h
   unfold cval at h1
   split at h1
   ·cases h1;exact pa_cons pe_int (pa_vals h2)
   ·cases h1;exact pa_cons pe_str (pa_vals h2)
   ·cases h1
  ·cases h
theorem pe_lstC {X:Cx} {es:List Expr} {vs:List V} {pos:Pos} (h:cvals es=some vs):PE X (.List es pos) (tLst (tVals vs)):=pe_lst (pa_vals h)
theorem tVals_run {σ:St} {H:Hp}:∀ {vs:List V} {Q:List V→Hp→Prop},Q vs H→tVals vs σ H Q
 | [],_,h=>h
 | v::vs,Q,h=>tVals_run (vs:=vs) (Q:=fun xs H2=>Q (v::xs) H2) h
theorem r_lstC {σ:St} {H:Hp} {Q:VK} {vs:List V} (hl:vs.length≤1000) (h:∀ p H2,H p=none→Same H H2→H2 p=some (.lst vs)→Q (.ref p) H2):tLst (tVals vs) σ H Q :=
 tVals_run (vs:=vs) (r_newL hl h)
theorem noraise {X:Cx}:∀ e s',XW X (fun _ _ _=>False) e s'→X.xe e s':=fun _ _ h=>by
 obtain ⟨_,_,_,_,_,_,_,z⟩:=h
 exact z.elim
end L2
namespace L2
open PySem PySem.Spec PyProof.Rows
section
variable {X:Cx} {a:Addr} {kvs:List (Key×V)}
noncomputable def reps (c:Nat) (n:Nat):Str:=⟨Array.replicate n c⟩
theorem fold_reps (c:Nat):∀ (k:Nat) (b:Array Nat),(List.replicate k #[c]).foldl (·++·) b=b++Array.replicate k c
 | 0,b=>by simp
 | k+1,b=>by
  rw [List.replicate_succ,List.foldl_cons,fold_reps c k,Array.append_assoc]
  congr 1
  apply Array.ext'
  simp [List.replicate_succ]
noncomputable def rMul1:R2:=fun x y H Q=>∃ (c:Nat) (n:Int),x=.str ⟨#[c]⟩∧y=.int n∧(-1000≤n∧n≤1000)∧Q (.str (reps c n.toNat)) H
theorem op_mul1:OpR X (binaryOp .Mult) rMul1:=by
 intro pins s σ H x y v u Q I rx ry h
 obtain ⟨c,n,rfl,rfl,hn,q⟩:=h
 obtain ⟨t,rfl⟩:=rx
 obtain ⟨t',rfl⟩:=ry
 have l1:(⟨#[c]⟩:Str).length=1:=rfl
 refine P.mul_str (by rw [decide_eq_false (by lia),decide_eq_false (by lia)];rfl) (fun h1 _=>?_) (fun h1 _=>?_) ?_
 ·have h1':1≤n:=by lia
  have:(9000000000000:Int)≤(2 ^ 63 - 1) / n:=by
   rw [Int.le_ediv_iff_mul_le (by lia)]
   lia
  rw [l1]
  lia
 ·show decide (_ > sizeLine)=false
  rw [decide_eq_false]
  rw [l1]
  have:=small2000 (show 1*n.toNat≤2000 by lia)
  lia
 ·split
  ·rename_i h1
   have e:reps c n.toNat=Str.empty:=by rw [show n.toNat=0 by lia];rfl
   rw [e] at q
   exact⟨by decide,⟨.str _,H,I.tok _,⟨_,rfl⟩,q⟩⟩
  ·split
   ·rename_i h1 h2
    have e:n=1:=by
     rw [Bool.or_eq_true,beq_iff_eq,beq_iff_eq,l1] at h2
     rcases h2 with h2|h2
     ·exact h2
     ·cases h2
    subst e
    exact⟨.str _,H,I,⟨_,rfl⟩,q⟩
   ·have e:(⟨(List.replicate n.toNat #[c]).foldl (·++·) #[]⟩:Str)=reps c n.toNat:=by
     unfold reps
     rw [fold_reps,Array.empty_append]
    refine⟨?_,⟨.str _,H,I.tok _,⟨_,rfl⟩,?_⟩⟩
    ·show (⟨(List.replicate n.toNat #[c]).foldl (·++·) #[]⟩:Str).length≤sizeLine
     rw [e]
     show (Array.replicate n.toNat c).size≤sizeLine
     rw [Array.size_replicate]
     exact small2000 (by lia)
    ·show Q (.str ⟨(List.replicate n.toNat #[c]).foldl (·++·) #[]⟩) H
     rw [e]
     exact q
end
section
variable {H:Hp} {Q:VK} {a:Addr} {kvs:List (Key×V)} {z y:Str}
theorem r_mul1 {c:Nat} {n:Int} (hn:-1000≤n∧n≤1000) (h:Q (.str (reps c n.toNat)) H):rMul1 (.str ⟨#[c]⟩) (.int n) H Q:=⟨c,n,rfl,rfl,hn,h⟩
end
end L2
namespace L2
open PySem PySem.Spec PyProof.Rows PySem.W
noncomputable abbrev TH:=Addr→Ends→St→Hp→Prop
noncomputable def tHand (K:Frag) (D0:Addr) (i:Nat) (th:TS) (r:TH):TH:=fun C D σ' H'=>∃ b,subIn K (.ref C) (.ref D0)=some b ∧
 (b=true→∀ a,H' a=none→th { nx:=fun σ2 H2=>D.nx (σ2.set i none) H2,rt:=D.rt,bk:=fun σ2 H2=>D.bk (σ2.set i none) H2,ct:=fun σ2 H2=>D.ct (σ2.set i none) H2 } (σ'.set i (some (.ref a))) (upd H' a (ExcO a C)))∧(b=false→r C D σ' H')
noncomputable def tHand0 (K:Frag) (D0:Addr) (th:TS) (r:TH):TH:=fun C D σ' H'=>∃ b,subIn K (.ref C) (.ref D0)=some b ∧
 (b=true→∀ a,H' a=none→th D σ' (upd H' a (ExcO a C)))∧(b=false→r C D σ' H')
inductive Hnds (X:Cx):List ExceptHandler→TH→Prop
 | nil:Hnds X [] (fun _ _ _ _=>False)
 | cons {x n:Str} {np hpos:Pos} {b0:Stmt} {suite:List Stmt} {i:Nat} {D0:Addr} {th:TS} {rest:List ExceptHandler} {r:TH} (V:HCls X.K D0) (hN:X.N.Nodup) (hi:X.N[i]?=some n) (hloc:X.env.scope.names.lookup n=some .local)
   (hg:Gl X x) (hm:X.mg x=some (.ref D0)) (hs:∀ a,PSs (hdCx X a) (b0::suite) th) (hr:Hnds X rest r) (hdb:(x == ("__debug__":Str))=false:=by decide) :
   Hnds X (.ExceptHandler (some (.Name x np)) (some n) (b0::suite) hpos::rest) (tHand X.K D0 i th r)
 | cons0 {x:Str} {np hpos:Pos} {b0:Stmt} {suite:List Stmt} {D0:Addr} {th:TS} {rest:List ExceptHandler} {r:TH} (V:HCls X.K D0)
   (hg:Gl X x) (hm:X.mg x=some (.ref D0)) (hs:∀ a,PSs (hdCx X a) (b0::suite) th) (hr:Hnds X rest r) (hdb:(x == ("__debug__":Str))=false:=by decide) :
   Hnds X (.ExceptHandler (some (.Name x np)) none (b0::suite) hpos::rest) (tHand0 X.K D0 th r)
theorem hands_run {X:Cx} {pins:List (Addr×Obj)} {σ':St} {H':Hp} {D:Ends} {a C T:Addr} {s:Shared} {oe:Obj} {vs:Array Value} (I2:Inv X pins σ' H' s) (he:s.heap.get? a=some oe) (hc:oe.cls=.ref C) (hdi:oe.dict=none) (hd:oe.data=.fields vs)
  (hh:HeadOk s.heap a vs (some T)) (hHa:H' a=none) (h0a:X.s₀.heap.get? a=none) (hpa:∀ p∈X.pn++pins,p.1≠a) (T2:H' T=none) (T3:X.s₀.heap.get? T=none) (T4:∀ p∈X.pn++pins,p.1≠T) :
  ∀ {hds:List ExceptHandler} {r:TH},Hnds X hds r→r C D σ' H'→wpAny (model X.prog X.w) X.A (handleBy (.ref a) X.env hds) (SP X pins D) X.xe s:=by
 have hcls:(X.env.scope.kind == .class || (X.env.scope.kind == .module && X.env.locals != X.env.globals))=false:=by rw [I2.ok.kind];rfl
 have hk4:=hh.2.1
 have fly:∀ {M:Model} {A:Around} {E:Value→Shared→Prop} {Q:Unit→Shared→Prop},(∀ h2,Inv X pins σ' (upd H' a (ExcO a C)) { s with heap:=h2 }→Q () { s with heap:=h2 })→wpAny M A (setFlight (.ref a) none) Q E s:=fun {M A E Q} q=>by
  refine flight_again he hd hh fun h2 f1 f2=>q h2 ?_
  have I3:Inv X pins σ' H' { s with heap:=h2 }:=by
   obtain ⟨_,_,oT,ts,q1,q2,q3⟩:=hh
   obtain ⟨m1,m2,m3⟩:=I2.recd (a:=T) q1 q2
   have hok2:HOk X.prog X.w H' h2:=I2.hok.off (ch:=[T]) (fun b hb=>by rw [show b=T by simpa using hb];exact T2) fun b o hb q=>f1 b o (by simpa using hb) q
   refine Inv.step2 (s:=s) (h':=h2) (t':=s.toks) (ch:=[T]) I2 (fun b hb=>?_) (fun b o b1 b2 b3 e _=>f1 b o (by simpa using b3) e) (fun b o b1 b2 b3 e _=>⟨o.slots,f1 b o (by simpa using b3) e⟩) (fun b o _ _ n=>n) (fun b o b3 e=>⟨o,f1 b o (by simpa using b3) e⟩) (fun b xs e=>e) (fun b o u e=>e) (fun b ps e=>⟨#[],by rw [e];simp⟩) (fun m hm=>?_) hok2
   ·obtain rfl:b=T:=by simpa using hb
    exact⟨T3,m1,m2,T4⟩
   ·obtain ⟨o,es,ep,ho,hd',r⟩:=hm
    exact⟨o,es,ep,f1 _ o (fun z=>m1 z.symm) ho,hd',r⟩
  exact I3.track (t':=s.toks) (f1 a _ (Ne.symm hk4) he) hc hdi hd hHa h0a hpa
 intro hds r N h
 induction N with
 | nil=>exact h.elim
 | cons V hN hi hloc hg hm hs hr hdb ih =>
  obtain ⟨b,hsub,h1,h2⟩:=h
  refine wpAny_handleBy_cons (codeAny_handlers_test (ld_glob (X:=hdCx X a) (I2.toHd a) hg hm ?_ hdb)) (by intro z;cases z)
  refine matches_own V I2.kIn he hc hsub ?_
  cases b with
  | false=>exact ih (h2 rfl)
  | true =>
   refine codeAny_handlers_suite_as (fly fun h3 I4=>?_)
   refine store_ok (X:=hdCx X a) (v:=.ref a) (I4.toHd a) hN hi (Or.inl hloc) rfl (fun s5 I6=>?_) (Or.inr hloc)
   refine wpAny_mono (hs a pins s5 _ _ _ I6 (h1 rfl a hHa)) (fun f s6 q=>?_) (fun _ _ z=>z.elim)
   cases f with
   | next =>
    obtain ⟨σ2,H2,J,z⟩:=q
    have J':=J.ofHd I2.ok.hd
    obtain ⟨m,hm',_⟩:=id J'.loc
    exact wpAny_nameGoes_keeps hloc hm' hcls fun h' v hn hss=>⟨_,H2,J'.goes hN hi hm' hn hss,z⟩
   | brk =>
    obtain ⟨σ2,H2,J,z⟩:=q
    have J':=J.ofHd I2.ok.hd
    obtain ⟨m,hm',_⟩:=id J'.loc
    exact wpAny_nameGoes_keeps hloc hm' hcls fun h' v hn hss=>⟨_,H2,J'.goes hN hi hm' hn hss,z⟩
   | cont =>
    obtain ⟨σ2,H2,J,z⟩:=q
    have J':=J.ofHd I2.ok.hd
    obtain ⟨m,hm',_⟩:=id J'.loc
    exact wpAny_nameGoes_keeps hloc hm' hcls fun h' v hn hss=>⟨_,H2,J'.goes hN hi hm' hn hss,z⟩
   | ret u =>
    obtain ⟨v0,σ2,H2,J,r,z⟩:=q
    have J':=J.ofHd I2.ok.hd
    obtain ⟨m,hm',_⟩:=id J'.loc
    exact wpAny_nameGoes_keeps hloc hm' hcls fun h' v hn hss=>⟨v0,_,H2,J'.goes hN hi hm' hn hss,r,z⟩
 | cons0 V hg hm hs hr hdb ih =>
  obtain ⟨b,hsub,h1,h2⟩:=h
  refine wpAny_handleBy_cons (codeAny_handlers_test (ld_glob (X:=hdCx X a) (I2.toHd a) hg hm ?_ hdb)) (by intro z;cases z)
  refine matches_own V I2.kIn he hc hsub ?_
  cases b with
  | false=>exact ih (h2 rfl)
  | true =>
   refine codeAny_handlers_suite (fly fun h3 I4=>?_)
   refine wpAny_mono (hs a pins _ _ _ _ (I4.toHd a) (h1 rfl a hHa)) (fun f s6 q=>?_) (fun _ _ z=>z.elim)
   cases f with
   | next =>
    obtain ⟨σ2,H2,J,z⟩:=q
    exact⟨σ2,H2,J.ofHd I2.ok.hd,z⟩
   | brk =>
    obtain ⟨σ2,H2,J,z⟩:=q
    exact⟨σ2,H2,J.ofHd I2.ok.hd,z⟩
   | cont =>
    obtain ⟨σ2,H2,J,z⟩:=q
    exact⟨σ2,H2,J.ofHd I2.ok.hd,z⟩
   | ret u =>
    obtain ⟨v0,σ2,H2,J,r,z⟩:=q
    exact⟨v0,σ2,H2,J.ofHd I2.ok.hd,r,z⟩
noncomputable def tTryN (tb:EXT→TS) (r:TH):TS:=fun D σ H=>tb (fun C σ' H'=>r C D σ' H') D σ H
theorem ps_tryN {X:Cx} {body:List Stmt} {h0:ExceptHandler} {hs:List ExceptHandler} {pos:Pos} {tb:EXT→TS} {r:TH} (hex:X.ex=[])
  (hst:X.stack=X.env::X.outer) (hfr:X.env.frame=some X.env.locals)
  (hb:∀ pins EX,PSs ((pnCx X pins).wish (XW (pnCx X pins) EX)) body (tb EX)) (N:Hnds X (h0::hs) r) :
  PS X (.Try body (h0::hs) [] [] pos) (tTryN tb r):=by
 intro pins s σ H D I h
 have back:∀ {f:Flow} {s':Shared} {E:Value→Shared→Prop},SP ((pnCx X pins).wish E) [] D f s'→SP X pins D f s':=fun {f s' E} q=>by
  cases f with
  | next=>obtain ⟨σ',H',J,z⟩:=q;exact⟨σ',H',(Inv.unwish J).ofPn,z⟩
  | brk=>obtain ⟨σ',H',J,z⟩:=q;exact⟨σ',H',(Inv.unwish J).ofPn,z⟩
  | cont=>obtain ⟨σ',H',J,z⟩:=q;exact⟨σ',H',(Inv.unwish J).ofPn,z⟩
  | ret u=>obtain ⟨v,σ',H',J,r,z⟩:=q;exact⟨v,σ',H',(Inv.unwish J).ofPn,r,z⟩
 refine wpAny_Try_except (wpAny_mono (hb pins _ [] s σ H D (I.toPn.wish _) h) (fun f s1 q=>?_) (fun e s1 q=>?_))
 ·cases f with
  | next=>exact wpAny_execs_nil (back q)
  | brk=>exact back q
  | cont=>exact back q
  | ret u=>exact back q
 obtain ⟨a,C,σ',H',rfl,I0,⟨oe,vs,T0,he,hc,hdi,hd,hsz,hh,hHa,⟨h0a,hpa⟩,hT⟩,hth⟩:=q
 have I1:Inv X pins σ' H' s1:=(Inv.unwish I0).ofPn
 have h0a':X.s₀.heap.get? a=none:=h0a
 have hpa':∀ p∈X.pn++pins,p.1≠a:=hpa
 have hT':∀ T,T0=some T→H' T=none∧X.s₀.heap.get? T=none∧∀ p∈X.pn++pins,p.1≠T:=hT
 have fr1:X.A.frames=some (X.env::X.outer):=by rw [← hst];exact I1.ok.frames
 refine note_core (base:=X.base) (L:=X.env.locals) fr1 (hst ▸ I1.stack) hfr he hd hh fun h1 T k1 k2 k3 k4 k5 k6=>?_
 obtain ⟨n1,n2,n3⟩:=I1.recd he hd
 have t1:∀ T',T0=some T'→∃ oT ts,s1.heap.get? T'=some oT∧oT.data=.fields ts:=fun T' z=>by
  subst z
  obtain ⟨_,_,oT,ts,q1,q2,_⟩:=hh
  exact⟨oT,ts,q1,q2⟩
 have fsub:∀ b,b∈frs (X.env::X.outer)→b=X.env.locals∨b∈X.fs:=fun b hb=>by
  rcases List.mem_cons.mp (I1.stkSub b (hst ▸ hb)) with z|z
  ·exact .inl z
  ·exact .inr z
 have off:Off (a::(T0.toList++frs (X.env::X.outer))) s1.heap h1:=fun b o hb q=>by
  simp only [List.mem_cons,List.mem_append,not_or] at hb
  exact k1 b o hb.1 (fun z=>hb.2.1 (by rw [← z];simp)) hb.2.2 q
 have hok1:HOk X.prog X.w H' h1:=I1.hok.off (fun b hb=>by
  simp only [List.mem_cons,List.mem_append] at hb
  rcases hb with rfl|hb|hb
  ·exact hHa
  ·cases T0 with
   | none=>simp at hb
   | some T1 =>
    simp only [Option.toList_some,List.mem_singleton] at hb
    rw [hb];exact (hT' T1 rfl).1
  ·exact I1.stkFree b (hst ▸ hb)) off
 have nT0:∀ b,b∉(a::T0.toList)→b≠a∧some b≠T0:=fun b hb=>by
  simp only [List.mem_cons,not_or] at hb
  exact⟨hb.1,fun z=>hb.2 (by rw [← z];simp)⟩
 have I2:Inv X pins σ' H' { s1 with heap:=h1 }:=by
  refine I1.step2 (h':=h1) (t':=s1.toks) (ch:=a::T0.toList) (fun b hb=>?_) (fun b o b1 b2 b3 e _=>?_) (fun b o b1 b2 b3 e _=>?_) (fun b o _ _ n=>n) (fun b o b3 e=>?_) (fun b xs e=>e) (fun b o u e=>e) (fun b ps e=>⟨#[],by rw [e];simp⟩) (fun m hm=>?_) hok1
  ·rcases List.mem_cons.mp hb with rfl|hb
   ·exact⟨h0a',n1,n2,hpa'⟩
   ·cases T0 with
    | none=>simp at hb
    | some T1 =>
     simp only [Option.toList_some,List.mem_singleton] at hb
     subst hb
     obtain ⟨oT,ts,q1,q2⟩:=t1 _ rfl
     obtain ⟨m1,m2,m3⟩:=I1.recd q1 q2
     exact⟨(hT' _ rfl).2.1,m1,m2,(hT' _ rfl).2.2⟩
  ·refine k1 b o (nT0 b b3).1 (nT0 b b3).2 (fun z=>?_) e
   rcases fsub b z with q|q
   ·exact b1 q
   ·exact b2 q
  ·exact k2 b o (nT0 b b3).1 (nT0 b b3).2 e
  ·obtain ⟨sl,q⟩:=k2 b o (nT0 b b3).1 (nT0 b b3).2 e
   exact⟨_,q⟩
  ·obtain ⟨o,es,ep,ho,hd',r⟩:=hm
   obtain ⟨sl,q⟩:=k2 _ o (fun z=>n1 z.symm) (fun z=>by
    obtain ⟨oT,ts,q1,q2⟩:=t1 _ z.symm
    exact (I1.recd q1 q2).1 rfl) ho
   exact⟨_,es,ep,q,hd',r⟩
 have T3:X.s₀.heap.get? T=none:=by
  cases q:X.s₀.heap.get? T with
  | none=>rfl
  | some o =>
   obtain ⟨o',q1⟩:=I1.base.there T o q (by rw [hex];simp)
   rw [k3] at q1;cases q1
 have T4:∀ p∈X.pn++pins,p.1≠T:=fun p hp z=>by
  have:=(I1.pin p hp).1
  rw [z,k3] at this;cases this
 exact hands_run (s:={ s1 with heap:=h1 }) I2 k5 ((Obj.cls_mapFields _ _).trans hc) ((mapFields_dict _ _).trans hdi) (Obj.data_mapFields hd _) ⟨by simp [hsz],k4,k6⟩ hHa h0a' hpa' (I1.hok.free k3) T3 T4 N hth
section
variable {K:Frag} {D:Ends} {σ:St} {H:Hp}
theorem r_tryN {tb:EXT→TS} {r:TH} (h:tb (fun C σ' H'=>r C D σ' H') D σ H):tTryN tb r D σ H:=h
theorem r_takes0 {D0 C:Addr} {th:TS} {r:TH} (e:subIn K (.ref C) (.ref D0)=some true) (h:∀ a,H a=none→th D σ (upd H a (ExcO a C))):tHand0 K D0 th r C D σ H:=⟨true,e,(fun _=>h),(fun z=>nomatch z)⟩
end
end L2
set_option maxRecDepth 100000
namespace L2
open PySem PySem.Spec PyProof.Rows
section
variable {M:Model} {A:Around} {E:Value→Shared→Prop} {s:Shared} {env:Env}
noncomputable def postX (M:Model) (A:Around) (E:Value→Shared→Prop) (Q:Value→Shared→Prop) (acc:Value) (cn:Env) (r:Result) (s':Shared):Prop :=
 match r with
 | .ok _=>∃ m,s'.heap.Ns cn.locals m∧∀ h',Heap.SameBut cn.locals s'.heap h'→Q acc { s' with heap:=h' }
 | .error x=>∃ m,s'.heap.Ns cn.locals m∧∀ h',Heap.SameBut cn.locals s'.heap h'→wpAny M A (passOn "comprehension.variables-let-go" x cn:Sem Value) (fun _ _=>False) E { s' with heap:=h' }
theorem comp_freeX {e:Expr} {scope:Scope} {pos:Pos} {mk fst:Sem Value} {g:Comprehension} {gs:List Comprehension} {cl:List (Str×Addr)} {Q:Value→Shared→Prop}
  (q1:clausesOf e=g::gs) (q2:∀ x,foldedSetIterable g.iter env x=pure x) (q3:closureFor scope env=pure cl) (q4:scope.kind=.function) (q5:∀ x∈scope.names,x.2=.local→scope.names.lookup x.1=some .local)
  (h:wpAny M A fst (fun x s1=>wpAny M A (pyIter x) (fun it s2=>wpAny M A mk (fun acc s3=>wpAny M A (newFunctionEnv scope env.globals cl [] env.qual none .none (some env)) (fun cn s4 =>
    codeAny M A (.compStart e 0 it acc { cn with scope:=relabel scope env }) (postX M A E Q acc { cn with scope:=relabel scope env }) s4) E s3) E s2) E s1) E s) :
  wpAny M A (comprehension e scope env pos mk false fst none) Q E s:=by
 unfold comprehension
 rw [q3,q1]
 refine wpAny_bind (wpAny_mono h (fun x s1 h1=>?_) fun _ _ z=>z)
 refine wpAny_bind (wpAny_standAt (wpAny_bind (wpAny_of_eq (q2 x) ?_)))
 refine wpAny_bind (wpAny_holding (wpAny_mono h1 (fun it s2 h2=>?_) fun _ _ z=>z))
 refine wpAny_standIf (wpAny_bind (wpAny_mono h2 (fun acc s3 h3=>?_) fun _ _ z=>z))
 refine wpAny_bind (wpAny_pure (wpAny_bind (wpAny_mono h3 (fun cn s4 h4=>?_) fun _ _ z=>z)))
 dsimp only
 have hv:∀ x∈(scope.names.filter fun x=>(x.2 == .local || x.2 == .cell) && x.1 != (".0":Str)).reverse,x.2=.local→Env.kindOf { cn with scope:=relabel scope env } x.1=some .local :=
  fun x hx hl=>lookup_relabel_local (q5 x (List.mem_filter.mp (List.mem_reverse.mp hx)).1 hl)
 refine wpAny_holding (wpAny_bind (wpAny_attempt (wpAny_holding (wpAny_run (codeAny_mono h4 fun r s' hr=>?_)))))
 cases r with
 | ok f =>
  obtain ⟨m,hn,hr⟩:=hr
  exact wpAny_bind (wpAny_holding (wpAny_comp_letGo (cenv:={ cn with scope:=relabel scope env }) q4 _ s' m hv hn fun h' m' _ hs'=>wpAny_pure (hr h' hs')))
 | error x =>
  obtain ⟨m,hn,hr⟩:=hr
  exact wpAny_bind (wpAny_holding (wpAny_comp_letGo (cenv:={ cn with scope:=relabel scope env }) q4 _ s' m hv hn fun h' m' _ hs'=>wpAny_mono (hr h' hs') (fun _ _ f=>f.elim) fun _ _ y=>y))
end
noncomputable def tCompX (EX:EXT) (ix:List (Option Nat)) (wi:TI) (g:TG) (tt:TT) (te:EXT→TE):TE:=fun σ H Q=>wi σ H fun J H1=>CompGoal ix g tt (te fun C _ H'=>EX C σ H') σ Q J H1
section
variable {X:Cx} {EX:EXT}
theorem thnF {M:Model} {A:Around} {α:Type} {m:Sem α} {P Q:α→Shared→Prop} {E:Value→Shared→Prop} {s:Shared} (h:wpAny M A m P (fun _ _=>False) s) (k:∀ a s',P a s'→Q a s'):wpAny M A m Q E s:=wpAny_mono h k fun _ _ z=>z.elim
theorem compPins {pins pl:List (Addr×Obj)} {N:List Str} {scope:Scope} {C:Addr} {s s':Shared} {H H':Hp} {fp:List Addr} {σ:St} (I:Inv (compCx X pins N scope C s H fp) pl σ H' s'):Inv (compCx X (pins++pl) N scope C s H fp) [] σ H' s':=by
 obtain ⟨⟨a1,a2,a3,a4,a5,a6,a7,a8,a9,b1,b2,b3,b4,b5,b6,b7,b8,b9⟩,c2,c3,c4,c5,c6,c7,c8,c9,d1,d2⟩:=I
 exact⟨⟨a1,a2,a3,a4,a5,a6,a7,a8,a9,b1,b2,b3,b4,b5,b6,b7,b8,b9⟩,c2,c3,c4,c5,c6,c7,c8,fun p hp=>c9 p (by
  have hp':p∈(X.pn++(pins++pl))++[]:=hp
  show p∈(X.pn++pins)++pl
  simpa using hp'),d1,d2⟩
theorem compUnp {pins pl:List (Addr×Obj)} {N:List Str} {scope:Scope} {C:Addr} {s s':Shared} {H H':Hp} {fp:List Addr} {σ:St} (I:Inv (compCx X (pins++pl) N scope C s H fp) [] σ H' s'):Inv (compCx X pins N scope C s H fp) pl σ H' s':=by
 obtain ⟨⟨a1,a2,a3,a4,a5,a6,a7,a8,a9,b1,b2,b3,b4,b5,b6,b7,b8,b9⟩,c2,c3,c4,c5,c6,c7,c8,c9,d1,d2⟩:=I
 exact⟨⟨a1,a2,a3,a4,a5,a6,a7,a8,a9,b1,b2,b3,b4,b5,b6,b7,b8,b9⟩,c2,c3,c4,c5,c6,c7,c8,fun p hp=>c9 p (by
  have hp':p∈(X.pn++pins)++pl:=hp
  show p∈(X.pn++(pins++pl))++[]
  simpa using hp'),d1,d2⟩
theorem pe_compX {tg iter elt:Expr} {ifs:List Expr} {scope:Scope} {pos:Pos} {N:List Str} {ix:List (Option Nat)} {wi:TI} {g:TG} {tt:TT} {te:EXT→TE}
  (hst:X.stack=X.env::X.outer) (hfm:X.env.frame=some X.env.locals) (hex:X.ex=[]) (hX:∀ e s',XM X EX e s'→X.xe e s') (hc:X.calm=true) (hi:PI X tg iter wi)
  (hg:∀ pins C s H fp,PG (compCx X pins N scope C s H fp) tg g)
  (ht:∀ pins C s H fp,PTs (compCx X pins N scope C s H fp) ifs tt)
  (he:∀ pins C s H fp EY,(∀ b∈fp,∃ o,(b,o)∈pins)→PE ((compCx X pins N scope C s H fp).wish (XW (compCx X pins N scope C s H fp) EY)) elt (te EY))
  (hk:scope.kind=.function) (hcell:∀ y∈scope.names,y.2≠.cell) (hnames:∀ y∈scope.names,y.2=.local→scope.names.lookup y.1=some .local)
  (hfr0:(scope.names.all fun y=>!(y.2 == NameKind.free) || (X.env.cells.lookup y.1).isSome)=true) (hix:IxOk X scope N ix)
  (hs:∀ x,foldedSetIterable iter X.env x=pure x:=by intro _;rfl) :
  PE X (.ListComp elt [⟨tg,iter,ifs,0⟩] scope pos) (tCompX EX ix wi g tt te):=by
 intro pins s σ H Q I h
 have hfr:∀ y∈scope.names,y.2=.free→(X.env.cells.lookup y.1).isSome=true:=fun y hy e=>by
  have z:=List.all_eq_true.mp hfr0 y hy
  rw [e] at z
  simpa using z
 have hfr':∀ p∈scope.names,p.2=.free→∃ c,X.env.cells.lookup p.1=some c:=fun p hp e=>Option.isSome_iff_exists.mp (hfr p hp e)
 have clsub:∀ x c,(clOf X.env.cells scope.names []).lookup x=some c→X.env.cells.lookup x=some c:=clOf_sub (fun x c q=>by simp at q)
 have clhas:∀ x,scope.names.lookup x=some .free→∃ c,(clOf X.env.cells scope.names []).lookup x=some c:=fun x hx=>by
  have hm:=PySem.mem_of_lookup hx
  exact Option.isSome_iff_exists.mp (clOf_has (.inr ⟨hm,hfr _ hm rfl⟩))
 rw [eval_ListComp]
 refine comp_freeX rfl hs (closure_eq hfr') hk hnames (thn (hi pins s σ H _ I h) fun v s1 h1=>thn h1 fun itv s2 h2=>?_)
 obtain ⟨it,fp,tn,J,H2,e,I2,T,st2,f2,hW⟩:=h2
 subst e
 have hfree2:H2 s2.heap.objs.size=none:=I2.hok.fresh (Nat.le_refl _)
 obtain ⟨W,⟨m0,w0⟩,turn⟩:=hW s2.heap.objs.size hfree2
 refine wpAny_newObj_type ?_
 have I3:Inv X pins σ (upd H2 s2.heap.objs.size (.lst [])) { s2 with heap:=s2.heap.push { cls:=.type "list",data:=.seq ([]:List Value).toArray } }:=I2.lnew (its:=[]) (t':=s2.toks) .nil (Nat.zero_le _)
 have f3:∀ b∈fp,FpOk X pins (upd H2 s2.heap.objs.size (.lst [])) b:=fun b hb=>by
  refine⟨?_,(f2 b hb).2⟩
  obtain ⟨o,eo,_⟩:=T.obj _ _ st2 b hb
  rw [upd_ne (Nat.ne_of_lt (Heap.lt_size eo))]
  exact (f2 b hb).1
 have st3:tn 0 (s2.heap.push { cls:=.type "list",data:=.seq ([]:List Value).toArray }):=T.keep _ _ _ st2 fun b _ o e=>Heap.get?_push_of_some _ e
 generalize hs3:({ s2 with heap:=s2.heap.push { cls:=.type "list",data:=.seq ([]:List Value).toArray } }:Shared)=s3 at I3
 have st3:tn 0 s3.heap:=by rw [← hs3];exact st3
 generalize hH3:upd H2 s2.heap.objs.size (.lst [])=H3 at I3 f3 w0
 generalize hacc:s2.heap.objs.size=acc at *
 refine wpAny_newFunctionEnv hcell (by intro y hy;simp at hy) (fun h₁ hns₁ hsb₁=>?_) hk
 have old:∀ b o,s3.heap.get? b=some o→h₁.get? b=some o:=fun b o q=>hsb₁.extBut b o (Nat.ne_of_lt (Heap.lt_size q)) (Heap.get?_push_of_some _ q)
 have hCfree:H3 s3.heap.objs.size=none:=I3.hok.fresh (Nat.le_refl _)
 have fpl:∀ b∈fp,b<s3.heap.objs.size:=fun b hb=>by
  obtain ⟨o,eo,_⟩:=T.obj _ _ st3 b hb
  exact Heap.lt_size eo
 have nstk:∀ b,b≠X.env.locals→b∉X.fs→b∉frs X.stack:=fun b h1 h2 z=>by
  rcases List.mem_cons.mp (I3.stkSub b z) with q|q
  ·exact h1 q
  ·exact h2 q
 have clt:∀ x c,X.env.cells.lookup x=some c→c<s3.heap.objs.size:=fun x c q=>by
  obtain ⟨v,z⟩:=I3.cell x c q
  exact z.lt
 have YI:∀ (h':Heap) (m:Str→Option Value),(∀ b o,s3.heap.get? b=some o→h'.get? b=some o)→h'.Ns s3.heap.objs.size m →
   Inv (compCx X pins N scope s3.heap.objs.size s3 H3 fp) [] (pick ix σ) H3 { s3 with heap:=h',toks:=s3.toks+([]:List (Str×Value)).length }:=by
  intro h' m hk' hn
  refine⟨⟨I3.ok.mod,hk,I3.ok.glob,I3.ok.blt,Nat.le_refl _,fun x y c q1 q2=>I3.ok.inj x y c (clsub x c q1) (clsub y c q2),fun x hx=>clhas x (relabel_not_local hcell hx),fun x c hf _=>absurd hf Bool.false_ne_true,
   I3.ok.hd,I3.ok.frames,.inl rfl,fun b hb=>⟨Nat.ne_of_lt (fpl b hb),fun x c q=>(f3 b hb).2.2.2.2.1 x c (clsub x c q)⟩,I3.bs,Nat.le_trans I3.ok.bsz I3.sz,fun b o e hb=>?_,fun b hb=>nstk b (f3 b hb).2.1 (f3 b hb).2.2.1,I3.stack,I3.stkFree⟩,
   rfl,I3.bare,Un.kept hk',⟨m,hn,fun i x v h1 h2 h3=>?_⟩,fun x c q=>?_,hCfree,fun x c q=>I3.freeC x c (clsub x c q),fun p hp=>?_,I3.hok.kept hk',?_⟩
  ·have q:=(I3.bs b o e).2
   rcases (f3 b hb).2.2.2.1 with z|z
   ·exact I3.ok.noex b o e z
   ·exact absurd (Nat.lt_of_lt_of_le (Heap.lt_size e) (Nat.le_trans I3.ok.bsz z)) (Nat.lt_irrefl _)
  ·obtain ⟨j,e1,e2⟩:=pick_get h2
   obtain ⟨a1,a2,a3,a4⟩:=hix.get h1 e1
   obtain ⟨mX,hnX,hlX⟩:=I3.loc
   obtain ⟨u,ru,l⟩:=hlX j x v a1 e2 a2
   refine⟨u,ru,?_⟩
   rcases l with ⟨l1,_⟩|⟨_,c,lc,z⟩
   ·have l1':X.env.scope.names.lookup x=some .local:=l1
    rw [l1'] at a3
    exact absurd a3 (by decide)
   ·obtain ⟨c',hc'⟩:=clhas x a4
    have ec:=clsub x c' hc'
    rw [lc] at ec
    have ec':c=c':=Option.some.inj ec
    subst ec'
    exact .inr ⟨relabel_free a4,c,hc',z.keeps hk'⟩
  ·obtain ⟨v,z⟩:=I3.cell x c (clsub x c q)
   exact⟨v,z.keeps hk'⟩
  ·have hp':p∈X.pn++pins:=by simpa using hp
   obtain ⟨a1,a2,a3,a4,a5⟩:=I3.pin p hp'
   exact⟨hk' _ _ a1,a2,Nat.ne_of_lt (Heap.lt_size a1),nstk p.1 a3 a4,a5⟩
  ·show (pick ix σ).length=N.length
   unfold pick
   rw [List.length_map]
   exact hix.len
 have fpY:∀ {pl:List (Addr×Obj)} {H':Hp},pl=[]→(∀ b∈fp,H' b=none)→∀ b∈fp,FpOk (compCx X pins N scope s3.heap.objs.size s3 H3 fp) pl H' b:=fun {pl H'} epl hn b hb=>by
  obtain ⟨f0,f1,f2',f3',f4,f5⟩:=f3 b hb
  subst epl
  exact⟨hn b hb,Nat.ne_of_lt (fpl b hb),nstk b f1 f2',.inl hb,fun x c q=>f4 x c (clsub x c q),fun p hp=>f5 p (by simpa using hp)⟩
 have hErr:∀ e s',(∃ pl,(∀ b∈fp,∃ o,(b,o)∈pl)∧XW (compCx X (pins++pl) N scope s3.heap.objs.size s3 H3 fp) (fun C _ H'=>EX C σ H') e s')→notedBy (model X.prog X.w) X.A (compEnvC scope (clOf X.env.cells scope.names []) s3.heap.objs.size X.env)
   (fun e s'=>postX (model X.prog X.w) X.A X.xe (EP X pins σ Q) (.ref acc) (compEnvC scope (clOf X.env.cells scope.names []) s3.heap.objs.size X.env) (.error e) s') e s':=by
  rintro e s' ⟨pl,hpl,a,C,σ',H',rfl,I0,⟨oe,vs,T0,he',hc',hdi,hd,hsz,hh,hHa,⟨h0a,hpa⟩,hT'⟩,hEX⟩
  have h0a':s3.heap.get? a=none:=h0a
  have hT3:∀ T,T0=some T→H' T=none∧s3.heap.get? T=none:=fun T z=>⟨(hT' T z).1,(hT' T z).2.1⟩
  have fr1:X.A.frames=some (X.env::X.outer):=by rw [← hst];exact I3.ok.frames
  have hFF:s'.heap.FunFrames X.base X.stack:=I0.stack
  show wpAny _ _ (noteFrame (.ref a) X.env) _ _ s'
  refine note_one (base:=X.base) (L:=X.env.locals) fr1 (hst ▸ hFF) hfm he' hd hh fun h1 T k1 k2 k3 k4 k5 k6=>?_
  obtain ⟨n1,n2,n3⟩:=I0.recd he' hd
  have n1':a≠s3.heap.objs.size:=n1
  obtain ⟨mC,hnC,_⟩:=I0.loc
  have hnC':s'.heap.Ns s3.heap.objs.size mC:=hnC
  obtain ⟨oC,esC,epC,hoC,rC⟩:=id hnC'
  have tC:∀ T',T0=some T'→T'≠s3.heap.objs.size:=fun T' z=>by
   subst z
   obtain ⟨_,_,oT,ts,q1,q2,_⟩:=hh
   exact (I0.recd q1 q2).1
  have nTC:T≠s3.heap.objs.size:=fun z=>by rw [z,hoC] at k3;cases k3
  obtain ⟨slC,gC⟩:=k2 s3.heap.objs.size oC (Ne.symm n1') (fun z=>tC _ z.symm rfl) hoC
  refine⟨mC,⟨_,esC,epC,gC,rC⟩,fun h2 sb=>?_⟩
  have g5:h2.get? a=some (oe.mapFields (·.setIfInBounds 1 (.ref T))):=(sb.2 a n1').trans k5
  obtain ⟨oT,ts,t1,t2,t3⟩:=k6
  have g6:h2.get? T=some oT:=(sb.2 T nTC).trans t1
  have hd5:=Obj.data_mapFields hd (·.setIfInBounds 1 (Value.ref T))
  have h15:(vs.setIfInBounds 1 (Value.ref T))[1]?=some (.ref T):=by simp [hsz]
  unfold PySem.passOn
  refine wpAny_bind (wpAny_field g5 hd5 h15 ?_)
  rw [if_neg (by simp)]
  show wpAny _ _ (setFlight (.ref a) X.env.frame >>= fun _=>throw _) _ _ _
  rw [hfm]
  refine wpAny_bind (flight_to (s:={ s' with heap:=h2 }) g5 hd5 h15 g6 t2 (Array.getElem?_eq_some_iff.mp t3).1 fun h3 f1 f2=>wpAny_throw (hX _ _ ?_))
  obtain ⟨oT',ts',q1,q2,q3⟩:=f2
  have T2:H' T=none:=I0.hok.free k3
  have fpT:∀ b∈fp,b≠a∧b≠T∧some b≠T0:=fun b hb=>by
   obtain ⟨o,hbo⟩:=hpl b hb
   have hm:(b,o)∈(compCx X (pins++pl) N scope s3.heap.objs.size s3 H3 fp).pn:=by
    show (b,o)∈X.pn++(pins++pl)
    exact List.mem_append_right _ (List.mem_append_right _ hbo)
   have z:=(I0.pin (b,o) (List.mem_append_left _ hm)).1
   exact⟨hpa (b,o) hm,fun e=>(by rw [show (b,o).1=b from rfl,e,k3] at z;cases z),fun e=>(hT' b e.symm).2.2 (b,o) hm rfl⟩
  have T3:s3.heap.get? T=none:=by
   cases q:s3.heap.get? T with
   | none=>rfl
   | some o =>
    by_cases hx:T∈fp
    ·exact absurd rfl (fpT T hx).2.1
    ·obtain ⟨o',z⟩:=I0.base.there T o q hx
     rw [k3] at z;cases z
  have ne:∀ b o,s3.heap.get? b=some o→b≠a∧some b≠T0∧b≠s3.heap.objs.size∧b≠T:=fun b o q=>⟨fun z=>(by rw [z,h0a'] at q;cases q),fun z=>(by rw [(hT3 b z.symm).2] at q;cases q),Nat.ne_of_lt (Heap.lt_size q),fun z=>(by rw [z,T3] at q;cases q)⟩
  have u3:Un (frs X.stack) fp H3 H' s3.heap h3:=by
   refine⟨fun b o q n hb hx=>?_,fun b o q n hb hx=>?_,fun b o q n hx=>I0.base.free b o q n hx,fun b o q hx=>?_,I0.base.tups,I0.base.frzs,I0.base.tbls⟩
   ·obtain ⟨e1,e2,e3,e4⟩:=ne b o q
    exact f1 b o e4 ((sb.2 b e3).trans (k1 b o e1 e2 (hst ▸ hb) (I0.base.keep b o q n hb hx)))
   ·obtain ⟨e1,e2,e3,e4⟩:=ne b o q
    obtain ⟨sl,q1⟩:=I0.base.slot b o q n hb hx
    obtain ⟨sl',q2⟩:=k2 b _ e1 e2 q1
    exact⟨sl',f1 b _ e4 ((sb.2 b e3).trans q2)⟩
   ·obtain ⟨e1,e2,e3,e4⟩:=ne b o q
    obtain ⟨o',q1⟩:=I0.base.there b o q hx
    obtain ⟨sl',q2⟩:=k2 b _ e1 e2 q1
    exact⟨_,f1 b _ e4 ((sb.2 b e3).trans q2)⟩
  have hok3:HOk X.prog X.w H' h3:=I0.hok.off (ch:=a::s3.heap.objs.size::(T0.toList++frs X.stack)) (fun b hb=>by
   simp only [List.mem_cons,List.mem_append] at hb
   rcases hb with rfl|rfl|hb|hb
   ·exact hHa
   ·exact I0.free
   ·cases T0 with
    | none=>simp at hb
    | some T1 =>
     simp only [Option.toList_some,List.mem_singleton] at hb
     rw [hb];exact (hT3 T1 rfl).1
   ·exact I0.stkFree b hb) fun b o hb q=>by
    simp only [List.mem_cons,List.mem_append,not_or] at hb
    have nT:b≠T:=fun z=>by rw [z,k3] at q;cases q
    exact f1 b o nT ((sb.2 b hb.2.1).trans (k1 b o hb.1 (fun z=>hb.2.2.1 (by rw [← z];simp)) (hst ▸ hb.2.2.2) q))
  have IX:Inv X pins σ H' { s' with heap:=h3 }:=I3.call' (ch:=fp) I0.os u3 hok3 I0.bare fun b hb=>by
   obtain ⟨f0,f1',f2',f3',f4,f5⟩:=f3 b hb
   exact⟨f3',f1',f4,f5⟩
  have nw:∀ b,s3.heap.get? b=none→X.s₀.heap.get? b=none:=fun b z=>by
   cases q:X.s₀.heap.get? b with
   | none=>rfl
   | some o =>
    obtain ⟨o',q1⟩:=I3.base.there b o q (by rw [hex];simp)
    rw [z] at q1;cases q1
  have np:∀ b,s3.heap.get? b=none→∀ p∈X.pn,p.1≠b:=fun b z p hp q=>by
   have:=(I3.pin p (List.mem_append_left _ hp)).1
   rw [q,z] at this;cases this
  have g7:h3.get? a=some (oe.mapFields (·.setIfInBounds 1 (.ref T))):=f1 a _ (Ne.symm k4) g5
  exact⟨a,C,σ,H',rfl,(IX.pins_of fun p hp=>absurd hp (by simp)).wish _,⟨_,_,T,oT',ts',g7,(Obj.cls_mapFields _ _).trans hc',(mapFields_dict _ _).trans hdi,hd5,by simpa using hsz,h15,k4,q1,q2,q3,hHa,⟨nw a h0a',fun p hp=>np a h0a' p hp⟩,T2,nw T T3,fun p hp=>np T T3 p hp⟩,hEX⟩
 have loop:∀ s4:Shared,(∃ m,s4={ s3 with heap:=h₁,toks:=s3.toks+([]:List (Str×Value)).length }∧h₁.Ns s3.heap.objs.size m) →
   codeAny (model X.prog X.w) X.A (.compLoop (.ListComp elt [⟨tg,iter,ifs,0⟩] scope pos) 0 (.ref it) (.ref acc) (compEnvC scope (clOf X.env.cells scope.names []) s3.heap.objs.size X.env))
    (postX (model X.prog X.w) X.A X.xe (EP X pins σ Q) (.ref acc) (compEnvC scope (clOf X.env.cells scope.names []) s3.heap.objs.size X.env)) s4:=by
  rintro s4 ⟨m4,rfl,hn4⟩
  refine comp_loop (E:=fun e s'=>∃ pl,(∀ b∈fp,∃ o,(b,o)∈pl)∧XW (compCx X (pins++pl) N scope s3.heap.objs.size s3 H3 fp) (fun C _ H'=>EX C σ H') e s') hErr
   (fun n s'=>∃ i σ' ys H',Inv (compCx X pins N scope s3.heap.objs.size s3 H3 fp) [] σ' H' s'∧tn i s'.heap∧(∀ b∈fp,H' b=none)∧W i n σ' ys H') ?_ m0
   ⟨0,pick ix σ,[],H3,YI h₁ m4 old hn4,T.keep _ _ _ st3 fun b _ o q=>old b o q,fun b hb=>(f3 b hb).1,w0⟩
  rintro n s5 ⟨i,σ5,ys,H5,I5,st5,fr5,w5⟩
  obtain ⟨hl5,hstep⟩:=turn i n σ5 ys H5 w5
  rcases hstep with ⟨stop,q⟩|⟨go,m',hm',step⟩
  ·refine thn (T.done (compCx X pins N scope s3.heap.objs.size s3 H3 fp) rfl rfl rfl hc i [] s5 σ5 H5 _ I5 (fpY rfl fr5) st5 stop) fun r s6 ⟨hr,I6⟩=>?_
   subst hr
   obtain ⟨m6,hn6,_⟩:=I6.loc
   refine⟨m6,hn6,fun h' sb=>?_⟩
   refine⟨.ref acc,H5,I3.call' (ch:=fp) I6.os (I6.base.letGo (Nat.le_refl _) sb) (I6.hok.letGo I6.free sb) I6.bare fun b hb=>?_,rfl,q⟩
   obtain ⟨f0,f1,f2',f3',f4,f5⟩:=f3 b hb
   exact⟨f3',f1,f4,f5⟩
  ·refine thn (T.item (compCx X pins N scope s3.heap.objs.size s3 H3 fp) rfl rfl rfl hc i [] s5 σ5 H5 _ I5 (fpY rfl fr5) st5 go) fun r s6 ⟨u,hr,h6⟩=>?_
   subst hr
   refine thn h6 fun _ s7 ⟨x,H7,I7,r7,y7,st7,fr7⟩=>?_
   have I7':=I7.pinned (fpY rfl fr7) (T.obj _ _ st7)
   refine thnF (hg pins s3.heap.objs.size s3 H3 fp _ s7 σ5 H7 x u _ I7' r7 (step x H7 y7)) fun _ s8 ⟨σ8,H8,I8,q8⟩=>?_
   refine thnF (wp_tests (ht pins s3.heap.objs.size s3 H3 fp) I8 q8) fun b s9 ⟨H9,I9,q9⟩=>?_
   have back:∀ {σz:St} {Hz:Hp} {sz:Shared} {yz:List V},Inv (compCx X pins N scope s3.heap.objs.size s3 H3 fp) ([]++pinsAt fp s7.heap) σz Hz sz→W (i+1) m' σz yz Hz →
     ∃ m,m<n∧∃ i σ' ys H',Inv (compCx X pins N scope s3.heap.objs.size s3 H3 fp) [] σ' H' sz∧tn i sz.heap∧(∀ b∈fp,H' b=none)∧W i m σ' ys H':=fun {σz Hz sz yz} Iz wz=>by
    refine⟨m',hm',i+1,σz,yz,Hz,Iz.unpinned,T.keep _ _ _ st7 fun b hb o e=>(Iz.pin (b,o) (List.mem_append_right _ (List.mem_append_right _ (mem_pinsAt hb e)))).1,fun b hb=>?_,wz⟩
    obtain ⟨o,e,d⟩:=T.obj _ _ st7 b hb
    exact (Iz.pin (b,o) (List.mem_append_right _ (List.mem_append_right _ (mem_pinsAt hb e)))).2.1
   cases b with
   | false=>exact back I9 q9
   | true =>
    have cov:∀ b∈fp,∃ o,(b,o)∈[]++pinsAt fp s7.heap:=fun b hb=>by
     obtain ⟨o,e,d⟩:=T.obj _ _ st7 b hb
     exact⟨o,List.mem_append_right _ (mem_pinsAt hb e)⟩
    refine wpAny_mono (he (pins++([]++pinsAt fp s7.heap)) s3.heap.objs.size s3 H3 fp (fun C _ H'=>EX C σ H') (fun b hb=>(cov b hb).imp fun _ z=>List.mem_append_right _ z) [] s9 σ8 H9 _ ((compPins I9).wish _) q9) (fun v s10 ⟨y,H10,I10',r10,hl10,hz10,w10⟩=>?_) fun e s' z=>⟨_,cov,z⟩
    have I10:=compUnp (Inv.unwish I10')
    refine thnF (mt_append _ s10 σ8 H10 (.ref acc) [y] (.ref acc) [v] (fun _ H'=>H'=upd H10 acc (.lst (ys++[y]))) I10 rfl (.cons r10 .nil) ⟨acc,ys,y,rfl,rfl,hl10,hz10,rfl⟩) fun _ s11 ⟨_,H11,I11,_,e11⟩=>?_
    subst e11
    exact back I11 w10
 have hn4:∃ m,h₁.Ns s3.heap.objs.size m:=⟨_,hns₁⟩
 obtain ⟨m4,hn4⟩:=hn4
 have L:=loop _ ⟨m4,rfl,hn4⟩
 exact codeAny_compStart_list L (T.self _ 0 _ _ _ (T.keep _ _ _ st3 fun b _ o q=>old b o q) L)
theorem r_compX {ix:List (Option Nat)} {wi:TI} {g:TG} {tt:TT} {te:EXT→TE} {σ:St} {H:Hp} {Q:VK} (h:tComp ix wi g tt (te fun C _ H'=>EX C σ H') σ H Q):tCompX EX ix wi g tt te σ H Q:=h
theorem pcallXc {k:Nat} {x:Str} {ps:List Str} {sp:Sp} {p pos:Pos} {e:Expr} {es:List Expr} {t:TA} (O:OkX X.prog X.w X.K X.mg X.base k x ps sp) (hr:Room k X.A) (hX:∀ e s',XW X EX e s'→X.xe e s') (hex:∀ b∈X.ex,∃ o,(b,o)∈X.pn) (ha:PA X (e::es) t) (hg:Gl X x:=by rfl)
  (hdb:(x == ("__debug__":Str))=false:=by decide) (he:starEach (e::es) X.env=(false,eval e X.env)::starEach es X.env:=by rfl) (hpl:(backTo pos (starEach es X.env)).any (·.1)=false:=by rfl) :
  PE X (.Call (.Name x p) (e::es) [] pos) (tCallX sp EX t):=by
 obtain ⟨f,fd,F,hm,hk,hb⟩:=O
 intro pins s σ H Q I h
 refine wpAny_Call_Name_kw (ld_glob I hg hm ?_ hdb)
 refine PySem.W.callWith_K (h₀:=X.base) I.ok.mod.kin hk (thn (ha pos pins s σ H _ I h) fun us s1 ⟨vs,H1,I1,r,q⟩=>⟨I1.kIn,?_⟩) he hpl
 have r2:Vals (vs++[]) (us++[]):=r.append .nil
 have hl:(us++[]).length=ps.length:=by rw [← r2.length,List.append_nil];exact F.len _ _ _ _ q
 rw [List.append_nil] at r2
 refine wpAny_call (codeAny_mono (F.run X.A X.stack s1 H1 ⟨us,[]⟩ (us++[]) vs Q _ hr I1.env0 (hb s1 us I1.kIn hl) r2 q) fun r s' hq=>?_)
 cases r with
 | error e =>
  obtain ⟨a,C,H',rfl,ho,hg',un,hok,⟨oe,vs',T0,e1,e2,e3,e4,e5,e6,e7,e8,e9⟩,c,ec,hE⟩:=hq
  cases ec
  have I2:Inv X pins σ H' s':=I1.call' (ch:=[]) ho un hok hg' fun b z=>absurd z (by simp)
  have nw:∀ b,s1.heap.get? b=none→X.s₀.heap.get? b=none:=fun b z=>by
   cases q:X.s₀.heap.get? b with
   | none=>rfl
   | some o =>
    obtain ⟨o',q1⟩:=I1.base.there b o q (fun hx=>by
     obtain ⟨o2,hm2⟩:=hex b hx
     have z2:=(I1.pin (b,o2) (List.mem_append_left _ hm2)).1
     rw [show (b,o2).1=b from rfl,z] at z2;cases z2)
    rw [z] at q1;cases q1
  have np:∀ b,s1.heap.get? b=none→∀ p∈X.pn,p.1≠b:=fun b z p hp q=>by
   have:=(I1.pin p (List.mem_append_left _ hp)).1
   rw [q,z] at this;cases this
  exact hX _ _ ⟨a,C,σ,H',rfl,(I2.pins_of fun p hp=>absurd hp (by simp)).wish _,⟨oe,vs',T0,e1,e2,e3,e4,e5,e6,e7,⟨nw a e8.1,fun p hp=>np a e8.1 p hp⟩,fun T z=>⟨(e9 T z).1,nw T (e9 T z).2.1,fun p hp=>np T (e9 T z).2.1 p hp⟩⟩,hE⟩
 | ok fl =>
  cases fl with
  | ret u=>exact I1.after hq
  | next=>exact False.elim hq
  | brk=>exact False.elim hq
  | cont=>exact False.elim hq
end
end L2
namespace Srt
open PySem PySem.W PyProof.Rows
section
variable {n:Nat} {key:Nat→Int}
noncomputable def ky (key:Nat→Int) (p:Array Nat) (i:Nat):Int:=key (p.getD i 0)
end
end Srt
namespace L2
open PySem PySem.Spec PySem.W PyProof.Rows
noncomputable def lk (r:List Int):Int:=r.foldl (fun k a=>k*4000001+a) 0
end L2
set_option maxRecDepth 100000
set_option maxRecDepth 100000
set_option maxRecDepth 100000
set_option maxRecDepth 100000
set_option maxRecDepth 100000
set_option maxRecDepth 100000
set_option maxRecDepth 100000
set_option maxRecDepth 100000
set_option maxRecDepth 100000
set_option maxRecDepth 100000
set_option maxRecDepth 100000
namespace L2
namespace Mat
noncomputable def up (ts:List Nat) (a:Int) (u:Nat→Int):Nat→Int:=fun x=>if x∈ts then u x+a else u x
section
variable {n:Nat} {W:Nat→Nat→Int} {u v:Nat→Int} {g c:Nat→Option Nat} {first:Nat} {ts:List Nat} {os:List (Nat×Nat)}
noncomputable def st (f:Nat→Option Nat) (i:Nat) (x:Option Nat):Nat→Option Nat:=fun k=>if k=i then x else f k
end
end Mat
end L2
set_option maxRecDepth 100000
set_option maxRecDepth 100000
set_option maxRecDepth 100000
namespace L2
open PySem PySem.Spec PyProof.Rows
inductive PlL (K:PySem.W.Frag) (H:Hp):List V→List (Nat×List Int)→Prop where
 | nil:PlL K H [] []
 | cons {q a:Addr} {p:Nat} {r:List Int} {xs:List V} {ps:List (Nat×List Int)} (h:SqT K H q [.int (p:Int),.ref a]) (hr:SqT K H a (r.map V.int)) (t:PlL K H xs ps):PlL K H (.ref q::xs) ((p,r)::ps)
end L2
namespace L2
open PySem PySem.Spec PyProof.Rows
inductive AsL (K:PySem.W.Frag) (H:Hp):List V→List (List Int×Bool)→Prop where
 | nil:AsL K H [] []
 | cons {q a:Addr} {b:Bool} {r:List Int} {xs:List V} {ps:List (List Int×Bool)} (h:SqT K H q [.ref a,.bl b]) (hr:SqT K H a (r.map V.int)) (t:AsL K H xs ps):AsL K H (.ref q::xs) ((r,b)::ps)
end L2
namespace L2
open PySem PySem.Spec PyProof.Rows
noncomputable def del (H:Hp) (c:Addr):Hp:=fun b=>if b=c then none else H b
theorem del_same {H:Hp} {c:Addr}:del H c c=none:=by unfold del;rw [if_pos rfl]
theorem del_ne {H:Hp} {c b:Addr} (h:b≠c):del H c b=H b:=by unfold del;rw [if_neg h]
noncomputable def cellO (c:Addr) (v:V) (ob:Obj):HO:=.ext fun h=>h.get? c=some ob∧∃ u,RelV v u∧ob.data=.cell (some u)
theorem Same.del {H H':Hp} {c:Addr} {o:HO} (h:H c=some o) (s:Same (L2.del H c) H'):Same H (upd H' c o):=fun b u e=>by
 by_cases z:b=c
 ·subst z
  rw [h] at e
  cases e
  exact upd_same
 ·rw [upd_ne z]
  exact s b u (by rw [del_ne z];exact e)
theorem Same.lent {H H':Hp} {c:Addr} {o:HO} (h:H c=none) (s:Same (upd H c o) H'):Same H (L2.del H' c):=fun b u e=>by
 have z:b≠c:=fun z=>by rw [z,h] at e;cases e
 rw [del_ne z]
 exact s b u (by rw [upd_ne z];exact e)
section
variable {P:Program} {w:World}
theorem HOk.lend {H:Hp} {h:Heap} {c:Addr} {v:V} {ob:Obj} (k:HOk P w H h) (n:H c=none) (e:h.get? c=some ob) (hv:∃ u,RelV v u∧ob.data=.cell (some u)):HOk P w (upd H c (cellO c v ob)) h:=fun b o q=>by
 by_cases z:b=c
 ·subst z
  rw [upd_same] at q
  cases q
  exact⟨⟨e,hv⟩,⟨_,e⟩,fun h1 h2 x y=>⟨y _ x.1,x.2⟩⟩
 ·rw [upd_ne z] at q
  refine (k b o q).stay (fun d u _ y=>y) (fun d y=>?_) fun d xs y=>?_
  ·rw [upd_ne (fun z=>by rw [z,n] at y;cases y)];exact y
  ·rw [upd_ne (fun z=>by rw [z,n] at y;cases y)];exact y
theorem HOk.back {H:Hp} {h:Heap} {c:Addr} {φ:Heap→Prop} (k:HOk P w H h) (e:H c=some (.ext φ)):HOk P w (L2.del H c) h:=fun b o q=>by
 have z:b≠c:=fun z=>by rw [z,del_same] at q;cases q
 rw [del_ne z] at q
 refine (k b o q).stay (fun d u _ y=>y) (fun d y=>?_) fun d xs y=>?_
 ·rw [del_ne (fun z=>by rw [z,e] at y;cases y)];exact y
 ·rw [del_ne (fun z=>by rw [z,e] at y;cases y)];exact y
theorem Un.back {fs:List Addr} {H H':Hp} {h h':Heap} {c:Addr} {v:V} {ob:Obj} (u:Un fs [] (upd H c (cellO c v ob)) H' h h') (n:H c=none) (e:h.get? c=some ob) (e':H' c=some (cellO c v ob)) (k:HOk P w H' h'):Un fs [] H (L2.del H' c) h h':=by
 have hc:h'.get? c=some ob:=(k c _ e').1.1
 have up:∀ {b:Addr},b≠c→upd H c (cellO c v ob) b=H b:=fun z=>upd_ne z
 have no:∀ {b:Addr} {o:HO},H b=some o→b≠c:=fun q z=>by rw [z,n] at q;cases q
 refine⟨fun b o q m hb hx=>?_,fun b o q m hb hx=>?_,fun b o q m hx=>?_,fun b o q hx=>u.there b o q hx,fun b xs q=>?_,fun b o x q=>?_,fun b ps q=>?_⟩
 ·by_cases z:b=c
  ·subst z;rw [e] at q;cases q;exact hc
  ·exact u.keep b o q (by rw [up z];exact m) hb hx
 ·by_cases z:b=c
  ·subst z;rw [e] at q;cases q;exact⟨ob.slots,hc⟩
  ·exact u.slot b o q (by rw [up z];exact m) hb hx
 ·by_cases z:b=c
  ·subst z;exact del_same
  ·rw [del_ne z];exact u.free b o q (by rw [up z];exact m) hx
 ·rw [del_ne (no q)];exact u.tups b xs (by rw [up (no q)];exact q)
 ·rw [del_ne (no q)];exact u.frzs b o x (by rw [up (no q)];exact q)
 ·rw [del_ne (no q)];exact u.tbls b ps (by rw [up (no q)];exact q)
end
section
variable {X:Cx} {pins:List (Addr×Obj)} {σ:St} {H:Hp} {s s':Shared}
theorem Inv.lent {y:Str} {c:Addr} {v:V} {u:Value} (I:Inv X pins σ H s) (hc:X.env.cells.lookup y=some c) (hf:X.fn y=true) (hu:s.heap.IsCell c (some u)) (r:RelV v u) :
  ∃ ob,s.heap.get? c=some ob∧H c=none∧Env0 X.prog X.w X.K X.mg X.base X.A X.stack s (upd H c (cellO c v ob)):=by
 obtain ⟨ob,e,d⟩:=hu
 have n:=I.freeC y c hc
 have big:=I.ok.cab y c hf hc
 have E:=I.env0
 refine⟨ob,e,n,E.frames,E.mod,fun b o q=>?_,E.bsz,E.funs,fun b hb=>?_,E.hok.lend n e ⟨u,r,d⟩,E.bare⟩
 ·have z:b≠c:=fun z=>by
   have h1:=Heap.lt_size q
   have h2:=I.ok.bsz
   rw [z] at h1
   exact absurd h1 (Nat.not_lt.mpr (Nat.le_trans h2 big))
  rw [upd_ne z]
  exact E.bs b o q
 ·have z:b≠c:=fun z=>by
   subst z
   rcases List.mem_cons.mp (I.stkSub b hb) with r1|r1
   ·obtain ⟨m,⟨o,es,ep,ho,r2⟩,_⟩:=I.loc
    rw [← r1,e] at ho
    cases ho
    have:=r2.1
    rw [d] at this
    cases this
   ·have h1:=(I.ok.funs.mem r1).2
    obtain ⟨o1,q1,_⟩:=h1
    exact absurd (Heap.lt_size q1) (Nat.not_lt.mpr big)
  rw [upd_ne z]
  exact E.frf b hb
theorem CX1.back {outer:List Env} {E:XK} {e:Value} {c:Addr} {v:V} {ob:Obj} {P:Program} {w:World} (n:H c=none) (q:s.heap.get? c=some ob) (h:CX1 P w outer (upd H c (cellO c v ob)) s (fun D o H'=>H' c=some (cellO c v ob)∧E D o (L2.del H' c)) e s'):CX1 P w outer H s E e s':=by
 obtain ⟨a,C,H',rfl,os,bare,un,hok,⟨oe,vs,T0,k1,k2,k3,k4,k5,k6,k7,k8,k9⟩,e1,e2⟩:=h
 have dn:∀ {b:Addr},H' b=none→L2.del H' c b=none:=fun {b} m=>by
  by_cases z:b=c
  ·rw [z];exact del_same
  ·rw [del_ne z];exact m
 exact⟨a,C,L2.del H' c,rfl,os,bare,un.back n q e1 hok,hok.back e1,⟨oe,vs,T0,k1,k2,k3,k4,k5,k6,dn k7,k8,fun T z=>⟨dn (k9 T z).1,(k9 T z).2⟩⟩,e2⟩
theorem run_fnC {CX:CXT} {k:Nat} {f:Addr} {fd:FuncData} {ps:List Str} {sp:Sp} {Q:VK} {us:List Value} {vs:List V} {y:Str} {c:Addr} {v:V} {u:Value} {E':Obj→XK} (F:FnOk X.prog X.w X.K X.mg X.base CX k f fd ps sp) (hr:Room k X.A) (hb:Binds X.K fd ps [])
  (I:Inv X pins σ H s) (r:Vals vs us) (hc:X.env.cells.lookup y=some c) (hf:X.fn y=true) (hu:s.heap.IsCell c (some u)) (rv:RelV v u)
  (hx:∀ ob,H c=none→s.heap.get? c=some ob→∀ e s',CX X.stack (upd H c (cellO c v ob)) s (E' ob) e s'→X.xe e s')
  (h:∀ ob,sp vs (upd H c (cellO c v ob)) (fun r H'=>H' c=some (cellO c v ob)∧Q r (L2.del H' c)) (E' ob)):wpAny (model X.prog X.w) X.A (call (.ref f) us) (EP X pins σ Q) X.xe s:=by
 obtain ⟨ob,e,n,E0⟩:=I.lent hc hf hu rv
 have hl:(us++[]).length=ps.length:=by rw [List.append_nil,← r.length];exact F.len _ _ _ _ (h ob)
 have hbd:=hb s us I.kIn hl
 rw [List.append_nil] at hbd
 refine wpAny_call (codeAny_mono (F.run X.A X.stack s _ ⟨us,[]⟩ us vs _ (E' ob) hr E0 hbd r (h ob)) fun r s' hq=>?_)
 cases r with
 | error e1=>exact hx ob n e e1 s' hq
 | ok fl =>
  cases fl with
  | ret u1 =>
   obtain ⟨v',H',os,bare,un,hok,rv',q1,q2⟩:=hq
   exact I.after ⟨v',L2.del H' c,os,bare,un.back n e q1 hok,hok.back q1,rv',q2⟩
  | next=>exact False.elim hq
  | brk=>exact False.elim hq
  | cont=>exact False.elim hq
theorem Un.lend {fs:List Addr} {H H':Hp} {h h':Heap} {c:Addr} {v:V} {ob:Obj} (u:Un fs [] (L2.del H c) H' h h') (e:H c=some (cellO c v ob)):Un fs [] H (upd H' c (cellO c v ob)) h h':=by
 have no:∀ {b:Addr},H b=none→b≠c:=fun m z=>by rw [z,e] at m;cases m
 refine⟨fun b o q m hb hx=>u.keep b o q (by rw [del_ne (no m)];exact m) hb hx,fun b o q m hb hx=>u.slot b o q (by rw [del_ne (no m)];exact m) hb hx,fun b o q m hx=>?_,fun b o q hx=>u.there b o q hx,fun b xs q=>?_,fun b o x q=>?_,fun b ps q=>?_⟩
 ·rw [upd_ne (no m)];exact u.free b o q (by rw [del_ne (no m)];exact m) hx
 ·have z:b≠c:=fun z=>by rw [z,e] at q;cases q
  rw [upd_ne z];exact u.tups b xs (by rw [del_ne z];exact q)
 ·have z:b≠c:=fun z=>by rw [z,e] at q;cases q
  rw [upd_ne z];exact u.frzs b o x (by rw [del_ne z];exact q)
 ·have z:b≠c:=fun z=>by rw [z,e] at q;cases q
  rw [upd_ne z];exact u.tbls b ps (by rw [del_ne z];exact q)
end
end L2
set_option maxRecDepth 100000
namespace L2
open PySem PySem.Spec PyProof.Rows PySem.W
section
variable {X:Cx} {pins:List (Addr×Obj)} {σ:St} {H:Hp} {s s':Shared}
noncomputable abbrev lamCxH (X:Cx) (A:Around) (N:List Str) (qual:Str) (scope:Scope) (f:Addr) (cd:Value) (cl:List (Str×Addr)) (s:Shared) (H:Hp) (xe:Value→Shared→Prop):Cx :=
 { X with A:=A.deeper (PySem.W.envX qual scope s.heap.objs.size f cd cl),N:=N,s₀:=s,H₀:=H,env:=PySem.W.envX qual scope s.heap.objs.size f cd cl,outer:=X.stack,stack:=PySem.W.envX qual scope s.heap.objs.size f cd cl::X.stack,ex:=[],fn:=fun _=>false,calm:=true,pn:=[],xe:=xe }
theorem lam_callH {A:Around} {f c' cS:Addr} {qual p y:Str} {params:Arguments} {body:Expr} {scope:Scope} {cl:List (Str×Addr)} {pm ctv:Value} {x v:V} {u:Value} {ob:Obj} {te:TE} {Q:VK}
  (I:Inv X pins σ H s) (hd:A.handled=none) (hfrm:A.frames=some X.stack) (hroom:A.depth<recursionLimit)
  (ho:s.heap.get? f=some (kla_obj "<lambda>" qual params body scope cl pm c' ctv)) (hcd:s.heap.CodeRec (.ref c') qual)
  (hbind:bindArgs (kla_fn "<lambda>" qual params body scope cl pm (.ref c') ctv) ⟨[u],[]⟩=pure [(p,u)])
  (hloc:scope.names.lookup p=some .local) (hco:scope.isCoroutine=false) (hgen:scope.isGenerator=false) (hk:scope.kind=.function) (hcell:∀ y∈scope.names,y.2≠.cell)
  (hfree:∀ z,scope.names.lookup z=some .free→z=y) (hcl:∀ z c,cl.lookup z=some c→z=y∧c=cS) (hhas:cl.lookup y=some cS) (hyf:scope.names.lookup y=some .free) (hcS:H cS=some (cellO cS v ob))
  (he:PE (lamCxH X A [p,y] qual scope f (.ref c') cl s (L2.del H cS) fun _ _=>False) body te) (r:RelV x u) (h:te [some x,some v] (L2.del H cS) fun z H2=>H2 cS=none→Q z (upd H2 cS (cellO cS v ob))) :
  wpAny (model X.prog X.w) A (call (.ref f) [u]) (EP X pins σ Q) (fun _ _=>False) s:=by
 obtain ⟨⟨hob,uv,ruv,hdv⟩,_,_⟩:=I.hok cS _ hcS
 have ncl:∀ b,H b=none→b≠cS:=fun b m z=>by rw [z,hcS] at m;cases m
 refine wpAny_call (codeAny_mono (show codeAny _ _ _ (CR CX0 X.stack X.prog X.w H s Q E0) s from ?_) fun r s' hq=>?_)
 ·refine kla_callFunE hroom ho rfl hco hgen rfl hcd ?_
  rw [hbind]
  refine wpAny_pure (wpAny_newFunctionEnv hcell (fun y hy=>by rw [List.mem_singleton.mp hy];exact hloc) (fun h₁ hns hsb=>⟨I.nolimit.fresh _ hsb,?_⟩) hk)
  show codeAny _ _ (.expr body (envX qual scope s.heap.objs.size f (.ref c') cl)) _ _
  have old:∀ b o,s.heap.get? b=some o→h₁.get? b=some o:=fun b o e=>hsb.extBut b o (Nat.ne_of_lt (Heap.lt_size e)) (Heap.get?_push_of_some _ e)
  have hokd:HOk X.prog X.w (L2.del H cS) s.heap:=I.hok.back hcS
  have dn:∀ {b:Addr},H b=none→L2.del H cS b=none:=fun {b} m=>by rw [del_ne (ncl b m)];exact m
  have J:Inv (lamCxH X A [p,y] qual scope f (.ref c') cl s (L2.del H cS) fun _ _=>False) [] [some x,some v] (L2.del H cS) { s with heap:=h₁,toks:=s.toks+[(p,u)].length }:=by
   refine⟨⟨I.ok.mod,hk,rfl,rfl,Nat.le_refl _,fun a b c q1 q2=>by rw [(hcl a c q1).1,(hcl b c q2).1],fun z hz=>?_,fun x c hf _=>absurd hf Bool.false_ne_true,fun _=>hd,Around.frames_deeper hfrm,.inr ⟨rfl,rfl⟩,fun b hb=>(nomatch hb),fun b o q=>⟨(I.bs b o q).1,dn (I.bs b o q).2⟩,Nat.le_trans I.ok.bsz I.sz,fun b _ _ hb=>(nomatch hb),fun b hb=>(nomatch hb),I.stack,fun b hb=>dn (I.stkFree b hb)⟩,
    rfl,I.bare,Un.kept old,⟨_,hns,fun i z w h1 h2 h3=>?_⟩,fun z c q=>?_,hokd.fresh (Nat.le_refl _),fun z c q=>by rw [(hcl z c q).2];exact del_same,fun p hp=>(nomatch hp),hokd.kept old,rfl⟩
   ·rcases hz with hz|hz
    ·exact absurd rfl (hcell _ (PySem.mem_of_lookup hz))
    ·exact⟨cS,by rw [hfree z hz];exact hhas⟩
   ·match i with
    | 0 =>
     have e1:p=z:=by simpa using h1
     have e2:x=w:=by simpa using h2
     subst e1
     subst e2
     exact⟨u,r,.inl ⟨hloc,by simp⟩⟩
    | 1 =>
     have e1:y=z:=by simpa using h1
     have e2:v=w:=by simpa using h2
     subst e1
     subst e2
     exact⟨uv,ruv,.inr ⟨.inr hyf,cS,hhas,⟨ob,old _ _ hob,hdv⟩⟩⟩
    | i+2=>simp at h1
   ·rw [(hcl z c q).2]
    exact⟨_,⟨ob,old _ _ hob,hdv⟩⟩
  refine kla_codeExpr (wpAny_mono (he [] _ _ (L2.del H cS) _ J h) (fun z s' hv=>?_) fun _ _ no=>no.elim)
  obtain ⟨z',H',J',rv,q⟩:=hv
  have un:Un (frs X.stack) [] (L2.del H cS) H' s.heap s'.heap:=J'.base
  have nfr:cS∉frs X.stack:=fun hb=>by have:=I.stkFree cS hb;rw [hcS] at this;cases this
  have hc1:s'.heap.get? cS=some ob:=un.keep cS ob hob del_same nfr (by simp)
  have hn1:H' cS=none:=un.free cS ob hob del_same (by simp)
  exact⟨z',_,J'.os,J'.bare,un.lend hcS,HOk.lend J'.hok hn1 hc1 ⟨uv,ruv,hdv⟩,rv,q hn1⟩
 ·cases r with
  | error e=>exact hq
  | ok fl =>
   cases fl with
   | ret u=>exact I.after hq
   | next=>exact False.elim hq
   | brk=>exact False.elim hq
   | cont=>exact False.elim hq
end
end L2
set_option maxRecDepth 100000
namespace L2
open PySem PySem.Spec PyProof.Rows PySem.W
section
variable {X:Cx} {pins:List (Addr×Obj)} {σ:St} {H:Hp} {s s':Shared}
theorem CX1.lend {outer:List Env} {E:XK} {e:Value} {c:Addr} {v:V} {ob:Obj} {P:Program} {w:World} (hc:H c=some (cellO c v ob)) (q:s.heap.get? c=some ob) (hv:∃ u,RelV v u∧ob.data=.cell (some u)) (nf:c∉frs outer)
  (h:CX1 P w outer (L2.del H c) s (fun D o H'=>H' c=none→E D o (upd H' c (cellO c v ob))) e s'):CX1 P w outer H s E e s':=by
 obtain ⟨a,C,H',rfl,os,bare,un,hok,⟨oe,vs,T0,k1,k2,k3,k4,k5,k6,k7,k8,k9⟩,e2⟩:=h
 have hc1:s'.heap.get? c=some ob:=un.keep c ob q del_same nf (by simp)
 have hn1:H' c=none:=un.free c ob q del_same (by simp)
 have up:∀ {b:Addr},s.heap.get? b=none→H' b=none→upd H' c (cellO c v ob) b=none:=fun {b} m m2=>by
  rw [upd_ne (fun z=>by rw [z,q] at m;cases m)]
  exact m2
 exact⟨a,C,upd H' c (cellO c v ob),rfl,os,bare,un.lend hc,HOk.lend hok hn1 hc1 hv,⟨oe,vs,T0,k1,k2,k3,k4,k5,k6,up k8.1 k7,k8,fun T z=>⟨up (k9 T z).2.1 (k9 T z).1,(k9 T z).2⟩⟩,e2 hn1⟩
theorem leavesH {A:Around} {N:List Str} {qual:Str} {scope:Scope} {f:Addr} {cd:Value} {cl:List (Str×Addr)} {xe:Value→Shared→Prop} {E:XK} {e:Value}
  (h:XW (lamCxH X A N qual scope f cd cl s H xe) (fun C _ H'=>E (.ref C) none H') e s') :
  wpAny (model X.prog X.w) (A.deeper (envX qual scope s.heap.objs.size f cd cl)) (leaving (envX qual scope s.heap.objs.size f cd cl) e) (fun _ s''=>CX1 X.prog X.w X.stack H s E e s'') (fun e' s''=>CX1 X.prog X.w X.stack H s E e' s'') s':=by
 obtain ⟨a,C,σ',H',rfl,I,⟨oe,vs,T0,he,hc,hdi,hd,hsz,hh,hHa,⟨h0a,_⟩,hT⟩,hE⟩:=h
 have h0a':s.heap.get? a=none:=h0a
 have hT':∀ T,T0=some T→H' T=none∧s.heap.get? T=none:=fun T z=>⟨(hT T z).1,(hT T z).2.1⟩
 unfold leaving
 refine wpAny_bind (note_core (L:=s.heap.objs.size) I.ok.frames I.stack rfl he hd hh fun h' T k1 k2 k3 k4 k5 k6=>?_)
 have ne:∀ b o,s.heap.get? b=some o→b≠a∧some b≠T0∧b≠s.heap.objs.size:=fun b o q=>⟨fun z=>(by rw [z,h0a'] at q;cases q),fun z=>(by rw [(hT' b z.symm).2] at q;cases q),Nat.ne_of_lt (Heap.lt_size q)⟩
 have nfr:∀ b o,s.heap.get? b=some o→b∉frs X.stack→b∉frs (envX qual scope s.heap.objs.size f cd cl::X.stack):=fun b o q hb z=>by
  rcases List.mem_cons.mp (I.stkSub b z) with r|r
  ·exact (ne b o q).2.2 r
  ·exact hb r
 have off:Off (a::(T0.toList++frs (envX qual scope s.heap.objs.size f cd cl::X.stack))) s'.heap h':=fun b o hb q=>by
  simp only [List.mem_cons,List.mem_append,not_or] at hb
  exact k1 b o hb.1 (fun z=>hb.2.1 (by rw [← z];simp)) hb.2.2 q
 refine⟨a,C,H',rfl,I.os,I.bare,⟨fun b o q n hb hx=>?_,fun b o q n hb hx=>?_,fun b o q n hx=>I.base.free b o q n hx,fun b o q hx=>?_,I.base.tups,I.base.frzs,I.base.tbls⟩,I.hok.off (fun b hb=>?_) off,?_,hE⟩
 ·exact k1 b o (ne b o q).1 (ne b o q).2.1 (nfr b o q hb) (I.base.keep b o q n hb hx)
 ·obtain ⟨sl,q1⟩:=I.base.slot b o q n hb hx
  obtain ⟨sl',q2⟩:=k2 b _ (ne b o q).1 (ne b o q).2.1 q1
  exact⟨sl',q2⟩
 ·obtain ⟨o',q1⟩:=I.base.there b o q hx
  obtain ⟨sl',q2⟩:=k2 b _ (ne b o q).1 (ne b o q).2.1 q1
  exact⟨_,q2⟩
 ·simp only [List.mem_cons,List.mem_append] at hb
  rcases hb with rfl|hb|hb
  ·exact hHa
  ·cases T0 with
   | none=>simp at hb
   | some T1 =>
    simp only [Option.toList_some,List.mem_singleton] at hb
    rw [hb];exact (hT' T1 rfl).1
  ·exact I.stkFree b hb
 ·refine⟨_,_,some T,k5,(Obj.cls_mapFields _ _).trans hc,(mapFields_dict _ _).trans hdi,Obj.data_mapFields hd _,by simpa using hsz,⟨by simp [hsz],k4,k6⟩,hHa,⟨h0a',fun _ z=>nomatch z⟩,fun T' e=>?_⟩
  cases e
  refine⟨I.hok.free k3,?_,fun _ z=>nomatch z⟩
  cases q:s.heap.get? T with
  | none=>rfl
  | some o =>
   obtain ⟨o',q1⟩:=I.base.there T o q (by show T∉([]:List Addr);simp)
   rw [k3] at q1;cases q1
theorem PE.xe {X:Cx} {E:Value→Shared→Prop} {e:Expr} {t:TE} (h:PE (X.wish E) e t) (k:∀ e s,E e s→X.xe e s):PE X e t:=fun pins s σ H Q I hw =>
 wpAny_mono (h pins s σ H Q (I.wish _) hw) (fun _ _ ⟨v,H',J,r,q⟩=>⟨v,H',J.unwish,r,q⟩) k
theorem lam_callHX {A:Around} {f c' cS:Addr} {qual p y:Str} {params:Arguments} {body:Expr} {scope:Scope} {cl:List (Str×Addr)} {pm ctv:Value} {x v:V} {u:Value} {ob:Obj} {te:TE} {Q:VK} {E:XK}
  (I:Inv X pins σ H s) (hd:A.handled=none) (hfrm:A.frames=some X.stack) (hroom:A.depth<recursionLimit)
  (ho:s.heap.get? f=some (kla_obj "<lambda>" qual params body scope cl pm c' ctv)) (hcd:s.heap.CodeRec (.ref c') qual)
  (hbind:bindArgs (kla_fn "<lambda>" qual params body scope cl pm (.ref c') ctv) ⟨[u],[]⟩=pure [(p,u)])
  (hloc:scope.names.lookup p=some .local) (hco:scope.isCoroutine=false) (hgen:scope.isGenerator=false) (hk:scope.kind=.function) (hcell:∀ y∈scope.names,y.2≠.cell)
  (hfree:∀ z,scope.names.lookup z=some .free→z=y) (hcl:∀ z c,cl.lookup z=some c→z=y∧c=cS) (hhas:cl.lookup y=some cS) (hyf:scope.names.lookup y=some .free) (hcS:H cS=some (cellO cS v ob))
  (he:PE ((lamCxH X A [p,y] qual scope f (.ref c') cl s (L2.del H cS) fun e s'=>wpAny (model X.prog X.w) (A.deeper (envX qual scope s.heap.objs.size f (.ref c') cl)) (leaving (envX qual scope s.heap.objs.size f (.ref c') cl) e) (fun _ s''=>CX1 X.prog X.w X.stack H s E e s'') (fun e' s''=>CX1 X.prog X.w X.stack H s E e' s'') s').wish
   (XW (lamCxH X A [p,y] qual scope f (.ref c') cl s (L2.del H cS) fun e s'=>wpAny (model X.prog X.w) (A.deeper (envX qual scope s.heap.objs.size f (.ref c') cl)) (leaving (envX qual scope s.heap.objs.size f (.ref c') cl) e) (fun _ s''=>CX1 X.prog X.w X.stack H s E e s'') (fun e' s''=>CX1 X.prog X.w X.stack H s E e' s'') s') fun C _ H'=>H' cS=none→E (.ref C) none (upd H' cS (cellO cS v ob)))) body te)
  (hx:∀ e s',CX1 X.prog X.w X.stack H s E e s'→X.xe e s')
  (r:RelV x u) (h:te [some x,some v] (L2.del H cS) fun z H2=>H2 cS=none→Q z (upd H2 cS (cellO cS v ob))) :
  wpAny (model X.prog X.w) A (call (.ref f) [u]) (EP X pins σ Q) X.xe s:=by
 obtain ⟨⟨hob,uv,ruv,hdv⟩,_,_⟩:=I.hok cS _ hcS
 have nfr:cS∉frs X.stack:=fun hb=>by have:=I.stkFree cS hb;rw [hcS] at this;cases this
 have he':=he.xe fun e s1 z=>wpAny_mono (leavesH (E:=fun D o H'=>H' cS=none→E D o (upd H' cS (cellO cS v ob))) z) (fun _ _ q=>CX1.lend hcS hob ⟨uv,ruv,hdv⟩ nfr q) fun _ _ q=>CX1.lend hcS hob ⟨uv,ruv,hdv⟩ nfr q
 have ncl:∀ b,H b=none→b≠cS:=fun b m z=>by rw [z,hcS] at m;cases m
 refine wpAny_call (codeAny_mono (show codeAny _ _ _ (CR (CX1 X.prog X.w) X.stack X.prog X.w H s Q E) s from ?_) fun r s' hq=>?_)
 ·refine kla_callFunE hroom ho rfl hco hgen rfl hcd ?_
  rw [hbind]
  refine wpAny_pure (wpAny_newFunctionEnv hcell (fun y hy=>by rw [List.mem_singleton.mp hy];exact hloc) (fun h₁ hns hsb=>⟨I.nolimit.fresh _ hsb,?_⟩) hk)
  show codeAny _ _ (.expr body (envX qual scope s.heap.objs.size f (.ref c') cl)) _ _
  have old:∀ b o,s.heap.get? b=some o→h₁.get? b=some o:=fun b o e=>hsb.extBut b o (Nat.ne_of_lt (Heap.lt_size e)) (Heap.get?_push_of_some _ e)
  have hokd:HOk X.prog X.w (L2.del H cS) s.heap:=I.hok.back hcS
  have dn:∀ {b:Addr},H b=none→L2.del H cS b=none:=fun {b} m=>by rw [del_ne (ncl b m)];exact m
  have J:Inv (lamCxH X A [p,y] qual scope f (.ref c') cl s (L2.del H cS) fun e s'=>wpAny (model X.prog X.w) (A.deeper (envX qual scope s.heap.objs.size f (.ref c') cl)) (leaving (envX qual scope s.heap.objs.size f (.ref c') cl) e) (fun _ s''=>CX1 X.prog X.w X.stack H s E e s'') (fun e' s''=>CX1 X.prog X.w X.stack H s E e' s'') s') [] [some x,some v] (L2.del H cS) { s with heap:=h₁,toks:=s.toks+[(p,u)].length }:=by
   refine⟨⟨I.ok.mod,hk,rfl,rfl,Nat.le_refl _,fun a b c q1 q2=>by rw [(hcl a c q1).1,(hcl b c q2).1],fun z hz=>?_,fun x c hf _=>absurd hf Bool.false_ne_true,fun _=>hd,Around.frames_deeper hfrm,.inr ⟨rfl,rfl⟩,fun b hb=>(nomatch hb),fun b o q=>⟨(I.bs b o q).1,dn (I.bs b o q).2⟩,Nat.le_trans I.ok.bsz I.sz,fun b _ _ hb=>(nomatch hb),fun b hb=>(nomatch hb),I.stack,fun b hb=>dn (I.stkFree b hb)⟩,
    rfl,I.bare,Un.kept old,⟨_,hns,fun i z w h1 h2 h3=>?_⟩,fun z c q=>?_,hokd.fresh (Nat.le_refl _),fun z c q=>by rw [(hcl z c q).2];exact del_same,fun p hp=>(nomatch hp),hokd.kept old,rfl⟩
   ·rcases hz with hz|hz
    ·exact absurd rfl (hcell _ (PySem.mem_of_lookup hz))
    ·exact⟨cS,by rw [hfree z hz];exact hhas⟩
   ·match i with
    | 0 =>
     have e1:p=z:=by simpa using h1
     have e2:x=w:=by simpa using h2
     subst e1
     subst e2
     exact⟨u,r,.inl ⟨hloc,by simp⟩⟩
    | 1 =>
     have e1:y=z:=by simpa using h1
     have e2:v=w:=by simpa using h2
     subst e1
     subst e2
     exact⟨uv,ruv,.inr ⟨.inr hyf,cS,hhas,⟨ob,old _ _ hob,hdv⟩⟩⟩
    | i+2=>simp at h1
   ·rw [(hcl z c q).2]
    exact⟨_,⟨ob,old _ _ hob,hdv⟩⟩
  refine kla_codeExpr (wpAny_mono (he' [] _ _ (L2.del H cS) _ J h) (fun z s' hv=>?_) fun _ _ z=>z)
  obtain ⟨z',H',J',rv,q⟩:=hv
  have un:Un (frs X.stack) [] (L2.del H cS) H' s.heap s'.heap:=J'.base
  have hc1:s'.heap.get? cS=some ob:=un.keep cS ob hob del_same nfr (by simp)
  have hn1:H' cS=none:=un.free cS ob hob del_same (by simp)
  exact⟨z',_,J'.os,J'.bare,un.lend hcS,HOk.lend J'.hok hn1 hc1 ⟨uv,ruv,hdv⟩,rv,q hn1⟩
 ·cases r with
  | error e=>exact hx e s' hq
  | ok fl =>
   cases fl with
   | ret u=>exact I.after hq
   | next=>exact False.elim hq
   | brk=>exact False.elim hq
   | cont=>exact False.elim hq
end
end L2
set_option maxRecDepth 100000
namespace L2
open PySem PySem.Spec PyProof.Rows PySem.W
noncomputable def LamAt (H:Hp) (f cS:Addr) (v:V) (ob:Obj) (q y:Str) (params:Arguments) (body:Expr) (scope:Scope):Prop:=∃ c' cl,H f=some (lamO f c' q params body scope cl)∧H c'=some (codeO c' q)∧(∀ z c,cl.lookup z=some c→z=y∧c=cS)∧cl.lookup y=some cS∧H cS=some (cellO cS v ob)
theorem LamAt.same {H H':Hp} {f cS:Addr} {v:V} {ob:Obj} {q y:Str} {params:Arguments} {body:Expr} {scope:Scope} (h:LamAt H f cS v ob q y params body scope) (s:Same H H'):LamAt H' f cS v ob q y params body scope:=by
 obtain ⟨c',cl,h1,h2,h3,h4,h5⟩:=h
 exact⟨c',cl,s _ _ h1,s _ _ h2,h3,h4,s _ _ h5⟩
noncomputable def tCallL (q y:Str) (params:Arguments) (body:Expr) (scope:Scope) (te:TE) (i:Nat) (t:TE):TE:=fun σ H Q=>∃ f,σ[i]?=some (some (.ref f))∧FnO H f∧t σ H fun x H1=>∃ cS v ob,LamAt H1 f cS v ob q y params body scope∧te [some x,some v] (L2.del H1 cS) fun z H2=>H2 cS=none→Q z (upd H2 cS (cellO cS v ob))
where FnO (H:Hp) (f:Addr):Prop:=∃ c' q params body scope cl,H f=some (lamO f c' q params body scope cl)
section
variable {X:Cx} {k:Nat}
theorem lam_fnAt {P:Program} {w:World} {H:Hp} {h:Heap} {f c':Addr} {q:Str} {params:Arguments} {body:Expr} {scope:Scope} {cl:List (Str×Addr)} (k:HOk P w H h) (e:H f=some (lamO f c' q params body scope cl)):FnAt f h:=by
 obtain ⟨⟨pm,ctv,z⟩,_⟩:=k f _ e
 exact⟨_,_,_,_,z⟩
theorem pe_callL {x p y q:Str} {i:Nat} {p1 pos:Pos} {e:Expr} {t te:TE} {params:Arguments} {body:Expr} {scope:Scope} (hr:Room k X.A) (hN:X.N[i]?=some x) (hv:Vis X.env.scope x) (ha:PE X e t) (hxe:∀ e s,False→X.xe e s)
  (hbind:∀ (cl:List (Str×Addr)) (pm ctv:Value) (c':Addr) (u:Value),bindArgs (kla_fn "<lambda>" q params body scope cl pm (.ref c') ctv) ⟨[u],[]⟩=pure [(p,u)])
  (hloc:scope.names.lookup p=some .local) (hco:scope.isCoroutine=false) (hgen:scope.isGenerator=false) (hk:scope.kind=.function) (hcell:∀ y∈scope.names,y.2≠.cell)
  (hfree:∀ z,scope.names.lookup z=some .free→z=y) (hyf:scope.names.lookup y=some .free)
  (he:∀ f c' cl s H,PE (lamCxH X X.A [p,y] q scope f (.ref c') cl s H fun _ _=>False) body te)
  (hdb:(x == ("__debug__":Str))=false:=by decide) (hcd:(x == ("__classdict__":Str))=false:=by decide)
  (hst:starEach [e] X.env=(false,eval e X.env)::starEach [] X.env:=by rfl) (hpl:(backTo pos (starEach [] X.env)).any (·.1)=false:=by rfl) :
  PE X (.Call (.Name x p1) [e] [] pos) (tCallL q y params body scope te i t):=by
 intro pins s σ H Q I ⟨f,hσ,⟨c0,q0,ps0,b0,s0,cl0,hf0⟩,h⟩
 refine wpAny_Call_Name_kw ?_
 refine thn (pe_var (pos:=p1) hN hv hdb hcd pins s σ H (fun v H'=>v=.ref f∧H'=H) I ⟨.ref f,hσ,rfl,rfl⟩) fun u s1 ⟨v,H',I1,r1,e1,e2⟩=>?_
 subst e1
 subst e2
 obtain rfl:u=.ref f:=r1
 have hpa:PA X [e] (tCons t tNil):=pa_cons ha pa_nil hst
 refine callWith_F (first:=[]) (lam_fnAt I1.hok hf0) (thn (hpa pos pins s1 σ _ (fun vs H1=>match vs with|[x]=>∃ cS v ob,LamAt H1 f cS v ob q y params body scope∧te [some x,some v] (L2.del H1 cS) fun z H2=>H2 cS=none→Q z (upd H2 cS (cellO cS v ob))|_=>False) I1 h) fun us s2 ⟨vs,H2,I2,r2,hq⟩=>?_) hst hpl
 cases r2 with
 | nil=>exact (show False from hq).elim
 | cons ru2 rb =>
  cases rb with
  | cons _ _=>exact (show False from hq).elim
  | nil =>
   obtain ⟨cS,v,ob,⟨c',cl,l1,l2,l3,l4,l5⟩,q2⟩:=(show ∃ cS v ob,LamAt H2 f cS v ob q y params body scope∧te [some _,some v] (L2.del H2 cS) fun z H2=>H2 cS=none→Q z (upd H2 cS (cellO cS v ob)) from hq)
   refine⟨lam_fnAt I2.hok l1,?_⟩
   obtain ⟨⟨pm,ctv,hob⟩,_⟩:=I2.hok f _ l1
   obtain ⟨hcr,_⟩:=I2.hok c' _ l2
   exact wpAny_mono (lam_callH I2 hr.hd I2.ok.frames hr.depth hob hcr (hbind cl pm ctv c' _) hloc hco hgen hk hcell hfree l3 l4 hyf l5 (he f c' cl s2 _) ru2 q2) (fun _ _ z=>z) hxe
end
end L2
set_option maxRecDepth 100000
namespace L2
open PySem PySem.Spec PyProof.Rows PySem.W
noncomputable def tLamE (P:Addr) (lp:Pos) (q:Str) (params:Arguments) (body:Expr) (scope:Scope) (cells:List (Str×Addr)):TE:=fun _ H Q=>TabH P lp q H∧∀ f c' H',SameT P H H'→TabH P lp q H'→H' f=some (lamO f c' q params body scope (clOf cells scope.names []))→H' c'=some (codeO c' q)→Q (.ref f) H'
noncomputable def tCallCX (cells:List (Str×Addr)) (y:Str) (j:Nat) (sp:Sp) (EX:EXT) (t:TA):TE:=fun σ H Q=>t σ H fun vs H1=>∃ v,σ[j]?=some (some v)∧∀ c ob,cells.lookup y=some c→H1 c=none→sp vs (upd H1 c (cellO c v ob)) (fun r H'=>H' c=some (cellO c v ob)∧Q r (L2.del H' c)) (fun D _ H'=>H' c=some (cellO c v ob)∧∃ a,D=.ref a∧EX a σ (L2.del H' c))
noncomputable def tCallLX (q y:Str) (params:Arguments) (body:Expr) (scope:Scope) (te:EXT→TE) (i:Nat) (EX:EXT) (t:TE):TE:=fun σ H Q=>∃ f,σ[i]?=some (some (.ref f))∧tCallL.FnO H f∧t σ H fun x H1=>∃ cS v ob,LamAt H1 f cS v ob q y params body scope∧te (fun C _ H2=>H2 cS=none→∃ a,Value.ref C=.ref a∧EX a σ (upd H2 cS (cellO cS v ob))) [some x,some v] (L2.del H1 cS) fun z H2=>H2 cS=none→Q z (upd H2 cS (cellO cS v ob))
section
variable {X:Cx} {k:Nat} {x y:Str} {ps:List Str} {sp:Sp} {p pos:Pos} {e:Expr} {es:List Expr} {t:TA} {j:Nat} {EX:EXT}
theorem pe_lamE {P c:Addr} {lp:Pos} {q:Str} {params:Arguments} {body:Expr} {scope:Scope} (hq:X.env.qual ++ "<lambda>"=q) (hcode:X.env.code=.ref c) (C:CodeHd X.base c P) (hB:X.base.BuiltinsAt X.mg P) (hdef:defaultsOf params X.env=([],[]))
  (hfr0:(scope.names.all fun y=>!(y.2 == NameKind.free) || (X.env.cells.lookup y.1).isSome)=true):PE X (.Lambda params body scope lp) (tLamE P lp q params body scope X.env.cells):=by
 subst hq
 exact fun pins s σ H Q I h=>lam_make I h.1 hcode C hB hdef hfr0 h.2
theorem xw_of {pins:List (Addr×Obj)} {σ:St} {H1:Hp} {s1 s':Shared} {e1:Value} (I1:Inv X pins σ H1 s1) (hex:X.ex=[]) (hq:CX1 X.prog X.w X.stack H1 s1 (fun C _ H2=>∃ c,C=.ref c∧EX c σ H2) e1 s'):XW X EX e1 s':=by
 obtain ⟨a,C,H',rfl,ho,hg',un,hok,⟨oe,vs',T0,e1,e2,e3,e4,e5,e6,e7,e8,e9⟩,c,ec,hE⟩:=hq
 cases ec
 have I2:Inv X pins σ H' s':=I1.call' (ch:=[]) ho un hok hg' fun b z=>absurd z (by simp)
 have nw:∀ b,s1.heap.get? b=none→X.s₀.heap.get? b=none:=fun b z=>by
  cases q:X.s₀.heap.get? b with
  | none=>rfl
  | some o =>
   obtain ⟨o',q1⟩:=I1.base.there b o q (by rw [hex];simp)
   rw [z] at q1;cases q1
 have np:∀ b,s1.heap.get? b=none→∀ p∈X.pn,p.1≠b:=fun b z p hp q=>by
  have:=(I1.pin p (List.mem_append_left _ hp)).1
  rw [q,z] at this;cases this
 exact⟨a,C,σ,H',rfl,(I2.pins_of fun p hp=>absurd hp (by simp)).wish _,⟨oe,vs',T0,e1,e2,e3,e4,e5,e6,e7,⟨nw a e8.1,fun p hp=>np a e8.1 p hp⟩,fun T z=>⟨(e9 T z).1,nw T (e9 T z).2.1,fun p hp=>np T (e9 T z).2.1 p hp⟩⟩,hE⟩
theorem pcallCX (O:OkX X.prog X.w X.K X.mg X.base k x ps sp) (hr:Room k X.A) (hX:∀ e s',XW X EX e s'→X.xe e s') (hex:X.ex=[]) (ha:PA X (e::es) t) (hN:X.N[j]?=some y) (hv:Vis X.env.scope y) (hky:X.env.kindOf y=some .cell) (hfn:X.fn y=true) (hg:Gl X x:=by rfl)
  (hdb:(x == ("__debug__":Str))=false:=by decide) (he:starEach (e::es) X.env=(false,eval e X.env)::starEach es X.env:=by rfl) (hpl:(backTo pos (starEach es X.env)).any (·.1)=false:=by rfl) :
  PE X (.Call (.Name x p) (e::es) [] pos) (tCallCX X.env.cells y j sp EX t):=by
 obtain ⟨f,fd,F,hm,hk,hb⟩:=O
 intro pins s σ H Q I h
 refine wpAny_Call_Name_kw (ld_glob I hg hm ?_ hdb)
 refine PySem.W.callWith_K (h₀:=X.base) I.ok.mod.kin hk (thn (ha pos pins s σ H _ I h) fun us s1 ⟨vs,H1,I1,r,v,hσ,q⟩=>⟨I1.kIn,?_⟩) he hpl
 obtain ⟨m,hn,hl⟩:=I1.loc
 obtain ⟨u,ru,l⟩:=hl j y v hN hσ hv
 rcases l with ⟨l1,_⟩|⟨_,c,hc,hcell⟩
 ·rw [hky] at l1;cases l1
 ·refine run_fnC (E':=fun ob D _ H'=>H' c=some (cellO c v ob)∧∃ a,D=.ref a∧EX a σ (L2.del H' c)) F hr hb I1 r hc hfn hcell ru (fun ob n e e' s' z=>hX _ _ (xw_of I1 hex (CX1.back (E:=fun D _ H'=>∃ a,D=.ref a∧EX a σ H') n e z))) fun ob=>q c ob hc (I1.freeC y c hc)
theorem pe_callLX {x p y q:Str} {i:Nat} {p1 pos:Pos} {e:Expr} {t:TE} {te:EXT→TE} {params:Arguments} {body:Expr} {scope:Scope} (hr:Room k X.A) (hX:∀ e s',XW X EX e s'→X.xe e s') (hex:X.ex=[]) (hN:X.N[i]?=some x) (hv:Vis X.env.scope x) (ha:PE X e t)
  (hbind:∀ (cl:List (Str×Addr)) (pm ctv:Value) (c':Addr) (u:Value),bindArgs (kla_fn "<lambda>" q params body scope cl pm (.ref c') ctv) ⟨[u],[]⟩=pure [(p,u)])
  (hloc:scope.names.lookup p=some .local) (hco:scope.isCoroutine=false) (hgen:scope.isGenerator=false) (hk:scope.kind=.function) (hcell:∀ y∈scope.names,y.2≠.cell)
  (hfree:∀ z,scope.names.lookup z=some .free→z=y) (hyf:scope.names.lookup y=some .free)
  (he:∀ (EXl:EXT) f c' cl s H xe,PE ((lamCxH X X.A [p,y] q scope f (.ref c') cl s H xe).wish (XW (lamCxH X X.A [p,y] q scope f (.ref c') cl s H xe) EXl)) body (te EXl))
  (hdb:(x == ("__debug__":Str))=false:=by decide) (hcd:(x == ("__classdict__":Str))=false:=by decide)
  (hst:starEach [e] X.env=(false,eval e X.env)::starEach [] X.env:=by rfl) (hpl:(backTo pos (starEach [] X.env)).any (·.1)=false:=by rfl) :
  PE X (.Call (.Name x p1) [e] [] pos) (tCallLX q y params body scope te i EX t):=by
 intro pins s σ H Q I ⟨f,hσ,⟨c0,q0,ps0,b0,s0,cl0,hf0⟩,h⟩
 refine wpAny_Call_Name_kw ?_
 refine thn (pe_var (pos:=p1) hN hv hdb hcd pins s σ H (fun v H'=>v=.ref f∧H'=H) I ⟨.ref f,hσ,rfl,rfl⟩) fun u s1 ⟨v,H',I1,r1,e1,e2⟩=>?_
 subst e1
 subst e2
 obtain rfl:u=.ref f:=r1
 have hpa:PA X [e] (tCons t tNil):=pa_cons ha pa_nil hst
 refine callWith_F (first:=[]) (lam_fnAt I1.hok hf0) (thn (hpa pos pins s1 σ _ (fun vs H1=>match vs with|[x]=>∃ cS v ob,LamAt H1 f cS v ob q y params body scope∧te (fun C _ H2=>H2 cS=none→∃ a,Value.ref C=.ref a∧EX a σ (upd H2 cS (cellO cS v ob))) [some x,some v] (L2.del H1 cS) fun z H2=>H2 cS=none→Q z (upd H2 cS (cellO cS v ob))|_=>False) I1 h) fun us s2 ⟨vs,H2,I2,r2,hq⟩=>?_) hst hpl
 cases r2 with
 | nil=>exact (show False from hq).elim
 | cons ru2 rb =>
  cases rb with
  | cons _ _=>exact (show False from hq).elim
  | nil =>
   obtain ⟨cS,v,ob,⟨c',cl,l1,l2,l3,l4,l5⟩,q2⟩:=(show ∃ cS v ob,LamAt H2 f cS v ob q y params body scope∧te (fun C _ H2=>H2 cS=none→∃ a,Value.ref C=.ref a∧EX a σ (upd H2 cS (cellO cS v ob))) [some _,some v] (L2.del H2 cS) fun z H2=>H2 cS=none→Q z (upd H2 cS (cellO cS v ob)) from hq)
   refine⟨lam_fnAt I2.hok l1,?_⟩
   obtain ⟨⟨pm,ctv,hob⟩,_⟩:=I2.hok f _ l1
   obtain ⟨hcr,_⟩:=I2.hok c' _ l2
   exact lam_callHX (E:=fun D _ H'=>∃ a,D=.ref a∧EX a σ H') I2 hr.hd I2.ok.frames hr.depth hob hcr (hbind cl pm ctv c' _) hloc hco hgen hk hcell hfree l3 l4 hyf l5 (he _ f c' cl s2 _ _) (fun e1 s' z=>hX _ _ (xw_of I2 hex z)) ru2 q2
end
section
variable {Pr:Program} {w:World} {K:PySem.W.Frag} {mg:Str→Option Value} {base:Heap}
theorem DefT.okX {x:Str} {st:Stmt} {N ps:List Str} {k:Nat} {sp:Sp} {c:Addr} (D:DefT K mg x st ps c) (S:FnScope N ps (defScope st)) (len:∀ vs H Q E,sp vs H Q E→vs.length=ps.length)
  (hbody:∀ (f:Addr) (A:Around) (outer:List Env) (s:Shared) (H:Hp) (vs:List V) (Q:VK) (E:XK),Room k (A.deeper (envOfC x (defScope st) s.heap.objs.size f (.ref c)))→sp vs H Q E →
   ∃ t,PSs ((cxOf (CX1 Pr w) Pr w K mg base N x (defScope st) f (.ref c) A outer s H E).wish (XW (cxOf (CX1 Pr w) Pr w K mg base N x (defScope st) f (.ref c) A outer s H E) fun C _ H'=>E (.ref C) none H')) (defBody st) t∧t { nx:=fun _ H'=>Q .non H',rt:=Q } (start N vs) H):OkX Pr w K mg base (k+1) x ps sp:=by
 obtain ⟨f,fd,oc,od,kV,doc,pm,an,ct,osl,rfl,lk,hcd,hkp,hm,hb⟩:=D
 refine⟨f,_,fn_of lk hcd S len fun A outer s H vs Q E hr hsp=>?_,hm,hkp,hb⟩
 obtain ⟨t,h,q⟩:=hbody f A outer s H vs Q E hr hsp
 exact⟨t,h.xe fun e s z=>leaves z,q⟩
end
end L2
namespace L2
open PySem PySem.Spec PyProof.Rows PySem.W
noncomputable def retE:Stmt→Expr
 | .Return (some e) _=>e
 | _=>.Name "" ⟨0,0,0,0⟩
noncomputable def cArg (i:Nat):Expr→Expr
 | .Call _ as _ _=>as.getD i (.Name "" ⟨0,0,0,0⟩)
 | e=>e
noncomputable def lamP:Expr→Arguments
 | .Lambda p _ _ _=>p
 | _=>⟨[],[],none,[],[],none,[]⟩
noncomputable def lamB:Expr→Expr
 | .Lambda _ b _ _=>b
 | e=>e
noncomputable def lamS:Expr→Scope
 | .Lambda _ _ s _=>s
 | _=>⟨.function,[],false,false,[]⟩
noncomputable def lamL:Expr→Pos
 | .Lambda _ _ _ l=>l
 | _=>⟨0,0,0,0⟩
theorem lam_free1 {y:Str}:∀ {l:List (Str×NameKind)},(l.all fun p=>!(p.2 == NameKind.free) || p.1 == y)=true→∀ z,l.lookup z=some .free→z=y
 | [],_,_,h=>by simp at h
 | (a,b)::l,h,z,e=>by
  rw [List.all_cons,Bool.and_eq_true] at h
  rw [List.lookup_cons] at e
  by_cases c:z == a
  ·rw [c] at e
   have eb:b=.free:=Option.some.inj e
   have:=h.1
   rw [eb] at this
   have ha:a=y:=by simpa using this
   rw [← ha]
   exact eq_of_beq c
  ·rw [Bool.not_eq_true] at c
   rw [c] at e
   exact lam_free1 h.2 z e
end L2
namespace L2
open PySem PySem.Spec PyProof.Rows PySem.W
noncomputable def iEith (t t':TI):TI:=fun σ H R=>t σ H R∨t' σ H R
theorem pi_eith {X:Cx} {tg it:Expr} {t t':TI} (h:PI X tg it t) (h':PI X tg it t'):PI X tg it (iEith t t'):=fun pins s σ H R I z=>z.elim (h pins s σ H R I) (h' pins s σ H R I)
theorem i_left {σ:St} {H:Hp} {R:It→Hp→Prop} {t t':TI} (h:t σ H R):iEith t t' σ H R:=.inl h
theorem i_right {σ:St} {H:Hp} {R:It→Hp→Prop} {t t':TI} (h:t' σ H R):iEith t t' σ H R:=.inr h
theorem f_invZ3 {K:PySem.W.Frag} {D:Ends} {σ:St} {H:Hp} {k1 k2 k3:Bool} {a b c:Addr} {xs ys zs:List V} {m n o:Nat} {tb:TS} (hlen:xs.length=ys.length) (hlen2:xs.length=zs.length) (Pv:Nat→St→Hp→Prop) (h0:Pv 0 σ H) (ha:∀ i σ H2,Pv i σ H2→Sq k1 K H2 a xs∧Sq k2 K H2 b ys∧Sq k3 K H2 c zs)
  (hs:∀ (i:Nat) x y z σ H2 H3,xs[i]?=some x→ys[i]?=some y→zs[i]?=some z→Pv i σ H2→Same H2 H3→tb { D with nx:=Pv (i+1),ct:=Pv (i+1),bk:=D.nx } (((σ.set m (some x)).set n (some y)).set o (some z)) H3)
  (hd:∀ σ H2,Pv xs.length σ H2→D.nx σ H2):ForGoal (gTup K 3 (gCons (gName m) (gCons (gName n) (gCons (gName o) gNil)))) tb D (Itz3 K k1 k2 k3 a b c) σ H:=by
 refine f_inv xs.length Pv h0 (fun i σ H2 hi p=>?_) (fun σ H2 p=>⟨_,(ha _ σ H2 p).1,Nat.le_refl _⟩) (fun i x σ H2 H3 hi p hy=>?_) hd
 ·obtain ⟨a1,a2,a3⟩:=ha i σ H2 p
  exact⟨_,_,_,xs[i],ys[i]'(hlen ▸ hi),zs[i]'(hlen2 ▸ hi),a1,a2,a3,List.getElem?_eq_getElem hi,List.getElem?_eq_getElem (hlen ▸ hi),List.getElem?_eq_getElem (hlen2 ▸ hi)⟩
 ·obtain ⟨a1,a2,a3⟩:=ha i σ H2 p
  obtain ⟨q,x',y',z',rfl,hq,e1,e2,e3,rfl⟩:=hy
  refine⟨q,_,rfl,SqT.of upd_same,rfl,_,_,rfl,_,_,rfl,_,_,rfl,rfl,?_⟩
  exact hs i x' y' z' σ _ _ (e1 _ a1) (e2 _ a2) (e3 _ a3) p (Same.upd_new hq)
end L2
set_option maxRecDepth 100000
namespace L2
open PySem PySem.Spec PyProof.Rows PySem.W
noncomputable abbrev TabR:=Addr×Pos×Str
noncomputable def SameS (Ts:List TabR) (H H':Hp):Prop:=∀ b o,(∀ t∈Ts,b≠t.1)→H b=some o→H' b=some o
noncomputable def TabsH (Ts:List TabR) (H:Hp):Prop:=(Ts.map (·.1)).Nodup∧∀ t∈Ts,TabH t.1 t.2.1 t.2.2 H
section
variable {Ts:List TabR} {H H' H1 H2:Hp} {K:PySem.W.Frag} {a l:Addr} {xs:List V}
theorem SameS.refl:SameS Ts H H:=fun _ _ _ e=>e
theorem SameS.trans (s:SameS Ts H H1) (u:SameS Ts H1 H2):SameS Ts H H2:=fun x o n e=>u x o n (s x o n e)
theorem SameS.of (s:Same H H1):SameS Ts H H1:=fun x o _ e=>s x o e
theorem SameT.s {t:TabR} (s:SameT t.1 H H1) (h:t∈Ts):SameS Ts H H1:=fun b o n e=>s b o (n t h) e
theorem TabsH.same (t:TabsH Ts H) (s:Same H H'):TabsH Ts H':=⟨t.1,fun x hx=>(t.2 x hx).same s⟩
theorem TabsH.no {b:Addr} {o:HO} (t:TabsH Ts H) (e:H b=some o) (h:∀ ps,o≠.tbl ps):∀ x∈Ts,b≠x.1:=fun x hx z=>by
 obtain ⟨ps,hp⟩:=(t.2 x hx).at
 rw [← z,e] at hp
 cases hp
 exact h ps rfl
theorem SameS.get {b:Addr} {o:HO} (s:SameS Ts H H') (t:TabsH Ts H) (e:H b=some o) (h:∀ ps,o≠.tbl ps):H' b=some o:=s b o (t.no e h) e
theorem SameS.at (s:SameS Ts H H') (t:TabsH Ts H) (h:SqT K H a xs):SqT K H' a xs :=
 h.imp (fun z=>z.imp (fun e=>s.get t e fun _ w=>nomatch w) fun ⟨o,e⟩=>⟨o,s.get t e fun _ w=>nomatch w⟩) id
theorem SameS.lst (s:SameS Ts H H') (t:TabsH Ts H) (h:H a=some (.lst xs)):H' a=some (.lst xs):=s.get t h fun _ w=>nomatch w
theorem SameS.tup (s:SameS Ts H H') (t:TabsH Ts H) (h:H a=some (.tup xs)):H' a=some (.tup xs):=s.get t h fun _ w=>nomatch w
theorem SameS.ext {φ:Heap→Prop} (s:SameS Ts H H') (t:TabsH Ts H) (h:H a=some (.ext φ)):H' a=some (.ext φ):=s.get t h fun _ w=>nomatch w
theorem SameS.new (s:SameS Ts H H') (t:TabsH Ts H') (n:H' a=none):H a=none:=by
 match e:H a with
 | none=>rfl
 | some o =>
  by_cases z:∀ x∈Ts,a≠x.1
  ·rw [s a o z e] at n
   cases n
  ·exfalso
   apply z
   intro x hx w
   obtain ⟨ps,hp⟩:=(t.2 x hx).at
   rw [w,hp] at n
   cases n
theorem nodup_fst:∀ {Ts:List TabR} {x t:TabR},(Ts.map (·.1)).Nodup→x∈Ts→t∈Ts→x.1=t.1→x=t
 | y::Ts,x,t,h,hx,ht,e=>by
  rw [List.map_cons,List.nodup_cons] at h
  rcases List.mem_cons.mp hx with rfl|hx'
  ·rcases List.mem_cons.mp ht with rfl|ht'
   ·rfl
   ·exact absurd (List.mem_map_of_mem (f:=fun y:TabR=>y.1) ht') (fun w=>h.1 (by rw [e];exact w))
  ·rcases List.mem_cons.mp ht with rfl|ht'
   ·exact absurd (List.mem_map_of_mem (f:=fun y:TabR=>y.1) hx') (fun w=>h.1 (by rw [← e];exact w))
   ·exact nodup_fst h.2 hx' ht' e
theorem TabsH.step {t:TabR} (T:TabsH Ts H) (ht:t∈Ts) (s:SameT t.1 H H') (n:TabH t.1 t.2.1 t.2.2 H'):TabsH Ts H':=by
 refine⟨T.1,fun x hx=>?_⟩
 by_cases z:x.1=t.1
 ·rw [nodup_fst T.1 hx ht z]
  exact n
 ·obtain ⟨ps,h1,h2,h3⟩:=T.2 x hx
  obtain ⟨pt,ht'⟩:=(T.2 t ht).at
  exact⟨ps,s _ _ z h1,h2,h3.imp id fun ⟨c,e,y⟩=>⟨c,e,s _ _ (fun w=>by rw [w,ht'] at y;cases y) y⟩⟩
theorem code_no_cell {c c':Addr} {q:Str} {v:V} {ob:Obj}:codeO c' q≠cellO c v ob:=fun e=>by
 obtain ⟨o,ho⟩:∃ o:Obj,o=⟨.none,none,.fields #[.none,.str q default],#[]⟩:=⟨_,rfl⟩
 have hx:∀ b o',(Heap.mk (Array.replicate (c'+1) o) default).get? b=some o'→o'=o:=fun b o' z=>by
  unfold Heap.get? at z
  by_cases hb:b<c'+1
  ·rw [show (Heap.mk (Array.replicate (c'+1) o) default).objs[b]?=some o by simp [hb]] at z
   subst ho
   cases z
   rfl
  ·rw [show (Heap.mk (Array.replicate (c'+1) o) default).objs[b]?=none by simp [hb]] at z
   cases z
 have hg:(Heap.mk (Array.replicate (c'+1) o) default).get? c'=some o:=by
  unfold Heap.get?
  rw [show (Heap.mk (Array.replicate (c'+1) o) default).objs[c']?=some o by simp]
  subst ho
  rfl
 have e1:=congrFun (HO.ext.inj e) (Heap.mk (Array.replicate (c'+1) o) default)
 have e2:(Heap.mk (Array.replicate (c'+1) o) default).CodeRec (.ref c') q:=⟨c',o,_,default,rfl,hg,by rw [ho],rfl⟩
 rw [e1] at e2
 obtain ⟨z,u,_,d⟩:=e2
 rw [hx _ _ z,ho] at d
 cases d
theorem tabH_del {P c:Addr} {lp:Pos} {q:Str} {v:V} {ob:Obj} (t:TabH P lp q H) (e:H c=some (cellO c v ob)):TabH P lp q (L2.del H c):=by
 obtain ⟨ps,h1,h2,h3⟩:=t
 refine⟨ps,by rw [del_ne (fun z=>by rw [z,e] at h1;cases h1)];exact h1,h2,h3.imp id fun ⟨d,z,y⟩=>⟨d,z,?_⟩⟩
 by_cases w:d=c
 ·subst w
  rw [e] at y
  exact absurd (Option.some.inj y).symm code_no_cell
 ·rw [del_ne w]
  exact y
theorem TabsH.del {c:Addr} {v:V} {ob:Obj} (t:TabsH Ts H) (e:H c=some (cellO c v ob)):TabsH Ts (L2.del H c):=⟨t.1,fun x hx=>tabH_del (t.2 x hx) e⟩
theorem SameS.del {c:Addr} {v:V} {ob:Obj} (e:H c=some (cellO c v ob)) (s:SameS Ts (L2.del H c) H'):SameS Ts H (upd H' c (cellO c v ob)):=fun b o n q=>by
 by_cases z:b=c
 ·subst z
  rw [e] at q
  cases q
  exact upd_same
 ·rw [upd_ne z]
  exact s b o n (by rw [del_ne z];exact q)
theorem TabsH.back {c:Addr} {o:HO} (t:TabsH Ts H) (n:H c=none):TabsH Ts (upd H c o):=t.same (Same.upd_new n)
end
noncomputable def spLawTs (Ts:PySem.W.Frag→List TabR) (K:PySem.W.Frag):Sp:=fun vs H Q _=>∃ (a:Addr) (ns:List Int),vs=[.ref a]∧SqL K H a (ns.map V.int)∧ns.length≤63∧TabsH (Ts K) H∧∀ H',Q (.bl true) H'
noncomputable def tabF (tf:PySem.W.Frag→Option (Addr×Addr)) (K:PySem.W.Frag):Addr:=((tf K).getD (0,0)).2
theorem tabF_of {tf:PySem.W.Frag→Option (Addr×Addr)} {K:PySem.W.Frag} {c P:Addr} (h:tf K=some (c,P)):tabF tf K=P:=by unfold tabF;rw [h];rfl
theorem walk_of2 {l:PySem.W.OpenLaw} {k:Nat} {pq:Program} {loose:List Str} {XP:(Str→Option Value)→Heap→Prop} {YP:World→Heap→Prop} {d:DefRec} {K:Params→PySem.W.Frag} {x:Str} {c1 P1 c2 P2:Addr} (t1:PySem.W.Frag→Option (Addr×Addr)) (lp1:Pos) (q1:Str) (t2:PySem.W.Frag→Option (Addr×Addr)) (lp2:Pos) (q2:Str)
  (hn:l.most=some 63) (hdf:d.params.defaults=[]) (hr:Room k callerA)
  (hY:∀ (w:World) (h:Heap),YP w h→(K w.params).In h∧h.get? P1=some (tabObj #[])∧h.get? P2=some (tabObj #[])) (ht1:∀ w:World,t1 (K w.params)=some (c1,P1)) (ht2:∀ w:World,t2 (K w.params)=some (c2,P2)) (hh1:∀ w:World,codeHdIn (K w.params) c1 P1=true) (hh2:∀ w:World,codeHdIn (K w.params) c2 P2=true) (hk1:∀ w:World,(K w.params).lookup P1=none) (hk2:∀ w:World,(K w.params).lookup P2=none)
  (hd:[P1,P2].Nodup)
  (F:∀ (w:World) (mg:Str→Option Value) (fa:Addr) (h:Heap),(K w.params).In h→h.Ns mainGlobals mg→mg d.name=some (.ref fa)→t1 (K w.params)=some (c1,P1)→t2 (K w.params)=some (c2,P2) →
   ∃ fd:FuncData,(∀ (s:Shared) (u:Value),BindsTo s fd ⟨[u],[]⟩ [(x,u)]) ∧
    ∀ base:Heap,(K w.params).In base→base.Ns mainGlobals mg→CodeHd base c1 P1→base.BuiltinsAt mg P1→CodeHd base c2 P2→base.BuiltinsAt mg P2→FnOk l.prog w (K w.params) mg base CX0 k fa fd [x] (spLawTs (fun K=>[(tabF t1 K,lp1,q1),(tabF t2 K,lp2,q2)]) (K w.params))) :
  PySem.W.WalkO pq loose XP YP l.row.toRowW d [] (fun f vs=>PySem.call f vs):=by
 refine Att.attach_call hn hdf fun w s₀ s₁ mg mb fa o pm cd doc a vs ns G Y ho hd' hcd hmg hobj hints hlen hg=>?_
 obtain ⟨KX,hP1,hP2⟩:=hY w _ Y
 obtain ⟨fd,hb,hF⟩:=F w mg fa _ KX G.T.g hmg (ht1 w) (ht2 w)
 have m1:(c1,P1)∈[(c1,P1),(c2,P2)]:=.head _
 have m2:(c2,P2)∈[(c1,P1),(c2,P2)]:=.tail _ (.head _)
 refine law_callT (tabs:=[(c1,P1),(c2,P2)]) (fun t h1=>?_) (fun t h1=>?_) G.T.bmain KX G.T.g G.T.b G.T.builtins G.T.nolimit hg hobj hints (Nat.le_trans hlen (by decide)) hr (fun base b1 b2 b3=>hF base b1 b2 (b3 _ m1).1 (b3 _ m1).2 (b3 _ m2).1 (b3 _ m2).2) hb (fun H hO hS=>⟨a,ns,rfl,hS,hlen,⟨?_,fun t h1=>?_⟩,fun _=>rfl⟩) fun H e s' z=>z
 ·rcases List.mem_cons.mp h1 with rfl|h1
  ·exact⟨codeHd_of_K KX (hh1 w),hP1⟩
  ·rw [List.mem_singleton.mp h1]
   exact⟨codeHd_of_K KX (hh2 w),hP2⟩
 ·rcases List.mem_cons.mp h1 with rfl|h1
  ·exact hk1 w
  ·rw [List.mem_singleton.mp h1]
   exact hk2 w
 ·show [tabF t1 (K w.params),tabF t2 (K w.params)].Nodup
  rw [tabF_of (ht1 w),tabF_of (ht2 w)]
  exact hd
 ·rcases List.mem_cons.mp h1 with rfl|h1
  ·show TabH (tabF t1 (K w.params)) lp1 q1 H
   rw [tabF_of (ht1 w)]
   exact⟨#[],hO _ m1,trivial,.inl rfl⟩
  ·rw [List.mem_singleton.mp h1]
   show TabH (tabF t2 (K w.params)) lp2 q2 H
   rw [tabF_of (ht2 w)]
   exact⟨#[],hO _ m2,trivial,.inl rfl⟩
end L2
set_option maxRecDepth 100000
namespace L2
open PySem PySem.Spec PyProof.Rows PySem.W
theorem fn_ofK {CX:CXT} {P:Program} {w:World} {K:PySem.W.Frag} {mg:Str→Option Value} {base:Heap} {k:Nat} {f:Addr} {name qual:Str} {params:Arguments} {e:Expr} {pos:Pos} {scope:Scope} {dV kV doc pm cdv ct oc:Value} {an od:Option Addr}
  {osl:Array (Option Value)} {N ps:List Str} {sp:Sp} {y:Str} {j:Nat} (lk:K.lookup f=some ⟨oc,od,.func (PySem.W.fnOf name qual params [.Return (some e) pos] scope dV kV doc pm an cdv ct),osl⟩) (hcd:PySem.W.codeIn K cdv qual=true) (S:FnScope N ps scope)
  (len:∀ vs H Q E,sp vs H Q E→vs.length=ps.length) (hN:N[j]?=some y) (hky:scope.names.lookup y=some .cell)
  (hbody:∀ (A:Around) (outer:List Env) (s:Shared) (H:Hp) (vs:List V) (Q:VK) (E:XK),Room k (A.deeper (envOfC qual scope s.heap.objs.size f cdv))→sp vs H Q E →
   ∃ (t:TE) (v:V),PE (cxOf CX P w K mg base N qual scope f cdv A outer s H E) e t∧(start N vs)[j]?=some (some v)∧t (start N vs) H fun r H'=>∀ c ob,(cxOf CX P w K mg base N qual scope f cdv A outer s H E).env.cells.lookup y=some c→H' c=none→Q r (upd H' c (cellO c v ob))) :
  FnOk P w K mg base CX (k+1) f (PySem.W.fnOf name qual params [.Return (some e) pos] scope dV kV doc pm an cdv ct) ps sp:=by
 refine⟨len,fun A outer s H args us vs Q E hr e0 hb r hsp=>?_⟩
 have hl:=len _ _ _ _ hsp
 have KX:K.In s.heap:=e0.mod.kin.keeps fun b o e=>(e0.bs b o e).1
 have lim:s.heap.NoLimit:=e0.mod.nolimit.keeps fun b o e=>(e0.bs b o e).1
 have hkind:∀ y∈ps.zip us,scope.names.lookup y.1=some .local∨(scope.names.lookup y.1=some .cell∧((cellsFrom (s.heap.objs.size+1) scope.names []).lookup y.1).isSome=true):=fun ⟨n,v⟩ hy=>by
  rcases S.par n (List.of_mem_zip hy).1 with q|q
  ·exact .inl q
  ·exact .inr ⟨q,PySem.W.cellsFrom_some _ _ _ (.inl q)⟩
 refine codeAny_call_function hr.depth (KX _ _ lk) rfl S.co S.gen rfl (PySem.W.codeRec_of KX hcd) (hb _ _ _ _ ?_)
 refine wpAny_newFunctionEnv_cells S.kind hkind fun env he s1 x=>?_
 subst he
 refine⟨lim.keeps x.toInCall.keep,codeAny_func ?_⟩
 obtain ⟨t,v,ht,hv,hq⟩:=hbody A outer s H vs Q E (hr.deeper _) hsp
 have I:Inv (cxOf CX P w K mg base N qual scope f cdv A outer s H E) [] (start N vs) H s1:=inv_start S hr.hd e0 hl r x
 refine wpAny_execs_cons (thn (wpAny_Return_some (thn (ht [] s1 (start N vs) H _ I hq) fun u s2 ⟨v',H',J,rv,q⟩=>?_)) fun fl s2 z=>z)
 obtain ⟨m,hn,hl'⟩:=J.loc
 obtain ⟨u',ru,l⟩:=hl' j y v hN hv (.inr (.inl hky))
 rcases l with ⟨l1,_⟩|⟨_,c,hc,ob,hob,hd⟩
 ·rw [show (cxOf CX P w K mg base N qual scope f cdv A outer s H E).env.kindOf y=some .cell from hky] at l1
  cases l1
 ·have n:=J.freeC y c hc
  have big:s.heap.objs.size≤c:=J.ok.cab y c rfl hc
  have n0:H c=none:=e0.hok.fresh big
  have B:=J.base
  have no:∀ {b:Addr} {o:HO},H b=some o→b≠c:=fun q z=>by rw [z,n0] at q;cases q
  refine⟨v',upd H' c (cellO c v ob),J.os,J.bare,⟨B.keep,B.slot,fun b o z1 z2 z3=>?_,B.there,fun b xs z=>?_,fun b o z1 z=>?_,fun b ps z=>?_⟩,J.hok.lend n hob ⟨u',ru,hd⟩,rv,q c ob hc n⟩
  ·rw [upd_ne (Nat.ne_of_lt (Nat.lt_of_lt_of_le (Heap.lt_size z1) big))]
   exact B.free b o z1 z2 z3
  ·rw [upd_ne (no z)];exact B.tups b xs z
  ·rw [upd_ne (no z)];exact B.frzs b o z1 z
  ·rw [upd_ne (no z)];exact B.tbls b ps z
section
variable {Pr:Program} {w:World} {K:PySem.W.Frag} {mg:Str→Option Value} {base:Heap}
theorem DefT.okK {x:Str} {st:Stmt} {N ps:List Str} {k:Nat} {sp:Sp} {c:Addr} (y:Str) (j:Nat) (e:Expr) (pos:Pos) (D:DefT K mg x st ps c) (hst:defBody st=[.Return (some e) pos]) (S:FnScope N ps (defScope st)) (hN:N[j]?=some y) (hky:(defScope st).names.lookup y=some .cell) (len:∀ vs H Q E,sp vs H Q E→vs.length=ps.length)
  (hbody:∀ (f:Addr) (A:Around) (outer:List Env) (s:Shared) (H:Hp) (vs:List V) (Q:VK) (E:XK),Room k (A.deeper (envOfC x (defScope st) s.heap.objs.size f (.ref c)))→sp vs H Q E →
   ∃ (t:TE) (v:V),PE (cxOf CX0 Pr w K mg base N x (defScope st) f (.ref c) A outer s H E) e t∧(start N vs)[j]?=some (some v)∧t (start N vs) H fun r H'=>∀ d ob,(cxOf CX0 Pr w K mg base N x (defScope st) f (.ref c) A outer s H E).env.cells.lookup y=some d→H' d=none→Q r (upd H' d (cellO d v ob))):Ok Pr w K mg base (k+1) x ps sp:=by
 obtain ⟨f,fd,oc,od,kV,doc,pm,an,ct,osl,rfl,lk,hcd,hkp,hm,hb⟩:=D
 rw [hst] at lk hb
 exact⟨f,_,fn_ofK lk hcd S len hN hky fun A outer s H vs Q E hr hsp=>hbody f A outer s H vs Q E hr hsp,hm,hkp,hb⟩
end
end L2

theorem PySem.W.Fast.tw12839020067697450146 : True := trivial
theorem PySem.W.Fast.tw11840451227910967301 : True := trivial
theorem PySem.W.Fast.tw9128221106008846285 : True := trivial
theorem PySem.W.Fast.tw5739575787807867015 : True := trivial
theorem PySem.W.Fast.tw12888699928097644026 : True := trivial
theorem PySem.W.Fast.tw5841337302610510777 : True := trivial
theorem PySem.W.Fast.tw10977341453152373232 : True := trivial
theorem PySem.W.Fast.tw6511108423656878588 : True := trivial
theorem PySem.W.Fast.tw12886164007679426941 : True := trivial
theorem PySem.W.Fast.tw7518307407622620568 : True := trivial
theorem PySem.W.Fast.tw8230320482886783806 : True := trivial
theorem PySem.W.Fast.tw5684322270102623387 : True := trivial
theorem PySem.W.Fast.tw5438294733457928114 : True := trivial
theorem PySem.W.Fast.tw16940674022320843533 : True := trivial
theorem PySem.W.Fast.tw12585377276276319617 : True := trivial
theorem PySem.W.Fast.tw18140924971394312817 : True := trivial
theorem PySem.W.Fast.tw16164143525233938123 : True := trivial
theorem PySem.W.Fast.tw1445880285178169193 : True := trivial
theorem PySem.W.Fast.tw2175213137580241952 : True := trivial
theorem PySem.W.Fast.tw9625818747426595903 : True := trivial
theorem PySem.W.Fast.tw11447977048391264915 : True := trivial
theorem PySem.W.Fast.tw15876421501508399322 : True := trivial
theorem PySem.W.Fast.tw16192551593567936224 : True := trivial
theorem PySem.W.Fast.tw4721003718284516817 : True := trivial
theorem PySem.W.Fast.tw5597944971330803200 : True := trivial
theorem PySem.W.Fast.tw4927891086756246021 : True := trivial
theorem PySem.W.Fast.tw692239558659219136 : True := trivial
theorem PySem.W.Fast.tw2856507822304378751 : True := trivial
theorem PySem.W.Fast.tw9919342841863123500 : True := trivial
theorem PySem.W.Fast.tw4923032104860446737 : True := trivial
theorem PySem.W.Fast.tw8235111964876599065 : True := trivial
theorem PySem.W.Fast.tw3112997816340750798 : True := trivial
theorem PySem.W.Fast.tw2703823392902704661 : True := trivial
theorem PySem.W.Fast.tw12297706254861836004 : True := trivial
theorem PySem.W.Fast.tw11118334987287895838 : True := trivial
theorem PySem.W.Fast.tw11111173637047841010 : True := trivial
theorem PySem.W.Fast.tw17171356700522679216 : True := trivial
theorem PySem.W.Fast.tw3451232531101565342 : True := trivial
theorem PySem.W.Fast.tw10173460418814355793 : True := trivial
theorem PySem.W.Fast.tw7958161529289811494 : True := trivial
theorem PySem.W.Fast.tw6867358021112511524 : True := trivial
theorem PySem.W.Fast.tw18225182342480251457 : True := trivial
theorem PySem.W.Fast.tw12702058262053530705 : True := trivial
theorem PySem.W.Fast.tw2539980038403509709 : True := trivial
theorem PySem.W.Fast.tw9548589859296009199 : True := trivial
theorem PySem.W.Fast.tw11281917414629087745 : True := trivial
theorem PySem.W.Fast.tw11774023723690711775 : True := trivial
theorem PySem.W.Fast.tw2470685710666248976 : True := trivial
theorem PySem.W.Fast.tw6010028048160056023 : True := trivial
theorem PySem.W.Fast.tw8427197887108876629 : True := trivial
theorem PySem.W.Fast.tw7638498642528614793 : True := trivial
theorem PySem.W.Fast.tw9065375391237463662 : True := trivial
theorem PySem.W.Fast.tw8985399626536176706 : True := trivial
theorem PySem.W.Fast.tw13636494489420277087 : True := trivial
theorem PySem.W.Fast.tw13694576111570950714 : True := trivial
theorem PySem.W.Fast.tw12885706899965439548 : True := trivial
namespace Law
open PySem L2
noncomputable def top (i:Nat):Stmt:=PySem.Challenge.pw_tuningyard_k68_movers.main.body.getD i (.Pass ⟨0,0,0,0⟩)
noncomputable abbrev s_is_whole:Stmt:=top 6
noncomputable abbrev s_is_row:Stmt:=top 7
noncomputable abbrev s_is_tone:Stmt:=top 8
noncomputable abbrev s_tone_of:Stmt:=top 9
noncomputable abbrev s_times:Stmt:=top 10
noncomputable abbrev s_note_changed:Stmt:=top 12
noncomputable abbrev s_bar_changed:Stmt:=top 13
noncomputable abbrev s_changed:Stmt:=top 14
noncomputable abbrev s_moved:Stmt:=top 15
noncomputable abbrev s_mover:Stmt:=top 16
noncomputable abbrev s_law_cell_at:Stmt:=top 18
noncomputable abbrev s_law_lowest:Stmt:=top 19
noncomputable abbrev s_law_mixed:Stmt:=top 20
noncomputable abbrev s_law_alike:Stmt:=top 21
noncomputable abbrev s_law_name_row:Stmt:=top 22
noncomputable abbrev s_law_pieces:Stmt:=top 23
noncomputable abbrev s_law_tune:Stmt:=top 24
noncomputable abbrev s_law_copy:Stmt:=top 25
noncomputable abbrev s_law_put:Stmt:=top 26
noncomputable abbrev s_law_fits:Stmt:=top 27
noncomputable abbrev s_law_span:Stmt:=top 28
noncomputable abbrev s_law_told:Stmt:=top 29
noncomputable abbrev s_law:Stmt:=top 30
@[elab_as_elim] theorem of_len1 {α : Type} {P : List α → Prop} (us : List α) (hl : us.length = 1) (h : ∀ a0 : α, P [a0]) : P us :=
 match us,hl with|[a0],_=>h a0
@[elab_as_elim] theorem of_len2 {α : Type} {P : List α → Prop} (us : List α) (hl : us.length = 2) (h : ∀ a0 a1 : α, P [a0, a1]) : P us :=
 match us,hl with|[a0,a1],_=>h a0 a1
@[elab_as_elim] theorem of_len3 {α : Type} {P : List α → Prop} (us : List α) (hl : us.length = 3) (h : ∀ a0 a1 a2 : α, P [a0, a1, a2]) : P us :=
 match us,hl with|[a0,a1,a2],_=>h a0 a1 a2
noncomputable def Kn (K:PySem.W.Frag) (H:Hp) (v:V):Prop:=(∃ i,v=.int i)∨(∃ b,v=.bl b)∨v=.non∨(∃ s,v=.str s)∨(∃ a xs,v=.ref a∧SqL K H a xs)∨(∃ a xs,v=.ref a∧SqT K H a xs)
theorem Kn.same {K:PySem.W.Frag} {H H':Hp} {v:V} (h:Kn K H v) (s:Same H H'):Kn K H' v:=by
 rcases h with h|h|h|h|⟨a,xs,h,z⟩|⟨a,xs,h,z⟩
 ·exact .inl h
 ·exact .inr (.inl h)
 ·exact .inr (.inr (.inl h))
 ·exact .inr (.inr (.inr (.inl h)))
 ·exact .inr (.inr (.inr (.inr (.inl ⟨a,xs,h,s.seq z⟩))))
 ·exact .inr (.inr (.inr (.inr (.inr ⟨a,xs,h,s.at z⟩))))
noncomputable def wh:V→Bool
 | .int _=>true
 | _=>false
noncomputable def NT (K:PySem.W.Frag) (H:Hp) (v:V):Prop:=(∃ i,v=.int i)∨v=.non∨(∃ s,v=.str s)∨(∃ a xs,v=.ref a∧SqL K H a xs)
noncomputable def Odd (K:PySem.W.Frag) (H:Hp) (v:V):Prop:=(∃ (a:Addr) (xs:List V),v=.ref a∧SqT K H a xs∧xs.length≤1000∧(∀ x∈xs,Kn K H x)∧(decide (xs.length=5) && xs.all wh)=false)∨NT K H v
noncomputable def fits (x0 x1 x2 x3 x4:Int):Bool:=[decide ((if x0<0 then -x0 else x0)≤700),decide ((if x1<0 then -x1 else x1)≤60),decide ((if x2<0 then -x2 else x2)≤60),decide ((if x3<0 then -x3 else x3)≤60),decide ((if x4<0 then -x4 else x4)≤60)].all id
theorem logN {n:Nat} (h0:0<n) (h:n<2 ^ 9000):(n:Int).natAbs.log2<9000:=by
 have e:(n:Int).natAbs=n:=rfl
 rw [e]
 exact (Nat.log2_lt (by lia)).mpr h
theorem gcd_le {t b:Nat} (h:0<b):Nat.gcd t b≤b:=Nat.le_of_dvd h (Nat.gcd_dvd_right t b)
noncomputable def nameL (t0 t1 t2 t3 t4:Int):List Nat :=
 ([70,67,71,68,65,69,66]:List Nat).getD ((t1 - t4 - 2*t3+4*t2+1) % 7).toNat 0::(Nam.seg 35 98 ((t1 - t4 - 2*t3+4*t2+1) / 7)++(Nam.seg 43 45 (-t2)++(Nam.seg 62 60 (-t3)++(Nam.seg 94 118 t4++(46::(PySem.Str.ofString (toString (t0+5*t4+6*t3 - 4*t2+11*((t1 - t4 - 2*t3+4*t2+1) / 7) - ([2,0,-1,-3,-4,-6,-7]:List Int).getD ((t1 - t4 - 2*t3+4*t2+1) % 7).toNat 0))).cps.toList)))))
theorem fits_tb {t0 t1 t2 t3 t4:Int} (h:(-700≤t0∧t0≤700)∧(-60≤t1∧t1≤60)∧(-60≤t2∧t2≤60)∧(-60≤t3∧t3≤60)∧(-60≤t4∧t4≤60)):fits t0 t1 t2 t3 t4=true:=by
 unfold fits
 rw [decide_eq_true (show (if t0<0 then -t0 else t0)≤700 by split <;> lia),decide_eq_true (show (if t1<0 then -t1 else t1)≤60 by split <;> lia),decide_eq_true (show (if t2<0 then -t2 else t2)≤60 by split <;> lia),decide_eq_true (show (if t3<0 then -t3 else t3)≤60 by split <;> lia),decide_eq_true (show (if t4<0 then -t4 else t4)≤60 by split <;> lia)]
 rfl
noncomputable abbrev lmE:Expr:=cArg 1 (retE ((defBody s_moved).getD 0 (.Pass ⟨0,0,0,0⟩)))
noncomputable abbrev lmL:Pos:=lamL lmE
noncomputable abbrev mvE:Expr:=retE ((defBody s_mover).getD 0 (.Pass ⟨0,0,0,0⟩))
noncomputable abbrev mvL:Pos:=lamL mvE
noncomputable abbrev TsK (K:PySem.W.Frag):List TabR:=[(tabP K "moved",lmL,"moved.<locals>.<lambda>"),(tabP K "mover",mvL,"mover.<locals>.<lambda>")]
noncomputable abbrev TabK (K:PySem.W.Frag) (H:Hp):Prop:=TabsH (TsK K) H
noncomputable abbrev SmT (K:PySem.W.Frag) (H H':Hp):Prop:=SameS (TsK K) H H'
theorem sqT_del {K:PySem.W.Frag} {H:Hp} {c a:Addr} {φ:Heap→Prop} {xs:List V} (h:SqT K H a xs) (e:H c=some (.ext φ)):SqT K (L2.del H c) a xs:=by
 rcases h with (h|⟨o,h⟩)|h
 ·exact .inl (.inl (by rw [del_ne (fun z=>by rw [z,e] at h;cases h)];exact h))
 ·exact .inl (.inr ⟨o,by rw [del_ne (fun z=>by rw [z,e] at h;cases h)];exact h⟩)
 ·exact .inr h
noncomputable abbrev Nt:=Option (List Int)×(Int×Int)
noncomputable def ToneV (K:PySem.W.Frag) (H:Hp) (v:V):Option (List Int)→Prop
 | none=>v=.non
 | some r=>∃ a,v=.ref a∧SqT K H a (r.map V.int)∧r.length=5
theorem ToneV.same {K:PySem.W.Frag} {H H':Hp} {v:V} (s:Same H H'):∀ {o:Option (List Int)},ToneV K H v o→ToneV K H' v o
 | none,h=>h
 | some _,⟨a,h1,h2,h3⟩=>⟨a,h1,s.at h2,h3⟩
noncomputable def NoteAt (K:PySem.W.Frag) (H:Hp) (v:V) (n:Nt):Prop:=∃ a t l,v=.ref a∧SqT K H a [t,.ref l]∧ToneV K H t n.1∧SqT K H l [.int n.2.1,.int n.2.2]
theorem NoteAt.same {K:PySem.W.Frag} {H H':Hp} {v:V} {n:Nt} (h:NoteAt K H v n) (s:Same H H'):NoteAt K H' v n:=by
 obtain ⟨a,t,l,h1,h2,h3,h4⟩:=h
 exact⟨a,t,l,h1,s.at h2,h3.same s,s.at h4⟩
noncomputable def addv (r q:List Int):List Int:=List.zipWith (·+·) r q
noncomputable def fitsL (r:List Int):Bool:=fits (r.getD 0 0) (r.getD 1 0) (r.getD 2 0) (r.getD 3 0) (r.getD 4 0)
noncomputable def mvN (q:List Int) (n:Nt):Nt:=(n.1.map fun r=>addv r q,n.2)
noncomputable def okN (q:List Int) (n:Nt):Bool:=match n.1 with|none=>true|some r=>fitsL (addv r q)
noncomputable abbrev lmQ:Str:="moved.<locals>.<lambda>"
noncomputable abbrev LamM (H:Hp) (f cS b:Addr) (ob:Obj):Prop:=LamAt H f cS (.ref b) ob lmQ "span" (lamP lmE) (lamB lmE) (lamS lmE)
theorem ToneV.off {K:PySem.W.Frag} {H:Hp} {v:V} {l:Addr} {ys zs:List V} (e:H l=some (.lst ys)):∀ {o:Option (List Int)},ToneV K H v o→ToneV K (upd H l (.lst zs)) v o
 | none,h=>h
 | some _,⟨a,h1,h2,h3⟩=>⟨a,h1,upd_sqT h2 e,h3⟩
theorem NoteAt.off {K:PySem.W.Frag} {H:Hp} {v:V} {n:Nt} {l:Addr} {ys zs:List V} (h:NoteAt K H v n) (e:H l=some (.lst ys)):NoteAt K (upd H l (.lst zs)) v n:=by
 obtain ⟨a,t,l,h1,h2,h3,h4⟩:=h
 exact⟨a,t,l,h1,upd_sqT h2 e,h3.off e,upd_sqT h4 e⟩
inductive NotesL (K:PySem.W.Frag) (H:Hp):List V→List Nt→Prop where
 | nil:NotesL K H [] []
 | cons {x:V} {n:Nt} {xs:List V} {ns:List Nt} (h:NoteAt K H x n) (t:NotesL K H xs ns):NotesL K H (x::xs) (n::ns)
theorem NotesL.length {K:PySem.W.Frag} {H:Hp}:∀ {xs:List V} {ns:List Nt},NotesL K H xs ns→ns.length=xs.length
 | _,_,.nil=>rfl
 | _,_,.cons _ t=>by simp [t.length]
theorem NotesL.get {K:PySem.W.Frag} {H:Hp}:∀ {xs:List V} {ns:List Nt} {i:Nat} {x:V},NotesL K H xs ns→xs[i]?=some x→∃ n,NoteAt K H x n∧ns[i]?=some n
 | _,_,i,x,.nil,h=>by simp at h
 | _,_,0,x,.cons h t,e=>by
  rw [List.getElem?_cons_zero] at e
  cases e
  exact⟨_,h,rfl⟩
 | _,_,i+1,x,.cons h t,e=>by
  obtain ⟨n,h1,h2⟩:=t.get (i:=i) (x:=x) (by simpa using e)
  exact⟨n,h1,by simpa using h2⟩
theorem NotesL.same {K:PySem.W.Frag} {H H':Hp} (s:Same H H'):∀ {xs:List V} {ns:List Nt},NotesL K H xs ns→NotesL K H' xs ns
 | _,_,.nil=>.nil
 | _,_,.cons h t=>.cons (h.same s) (t.same s)
theorem NotesL.off {K:PySem.W.Frag} {H:Hp} {l:Addr} {ys zs:List V} (e:H l=some (.lst ys)):∀ {xs:List V} {ns:List Nt},NotesL K H xs ns→NotesL K (upd H l (.lst zs)) xs ns
 | _,_,.nil=>.nil
 | _,_,.cons h t=>.cons (h.off e) (t.off e)
theorem NotesL.snoc {K:PySem.W.Frag} {H:Hp} {x:V} {n:Nt} (h:NoteAt K H x n):∀ {xs:List V} {ns:List Nt},NotesL K H xs ns→NotesL K H (xs++[x]) (ns++[n])
 | _,_,.nil=>.cons h .nil
 | _,_,.cons h1 t=>.cons h1 (t.snoc h)
inductive BarsL (K:PySem.W.Frag) (H:Hp):List V→List (List Nt)→Prop where
 | nil:BarsL K H [] []
 | cons {a:Addr} {ns:List Nt} {zs xs:List V} {bs:List (List Nt)} (h:H a=some (.lst zs)) (hn:NotesL K H zs ns) (t:BarsL K H xs bs):BarsL K H (.ref a::xs) (ns::bs)
theorem BarsL.length {K:PySem.W.Frag} {H:Hp}:∀ {xs:List V} {bs:List (List Nt)},BarsL K H xs bs→bs.length=xs.length
 | _,_,.nil=>rfl
 | _,_,.cons _ _ t=>by simp [t.length]
theorem BarsL.get {K:PySem.W.Frag} {H:Hp}:∀ {xs:List V} {bs:List (List Nt)} {i:Nat} {x:V},BarsL K H xs bs→xs[i]?=some x→∃ (a:Addr) (zs:List V) (ns:List Nt),x=.ref a∧H a=some (.lst zs)∧NotesL K H zs ns∧bs[i]?=some ns
 | _,_,i,x,.nil,h=>by simp at h
 | _,_,0,x,.cons h hn t,e=>by
  rw [List.getElem?_cons_zero] at e
  cases e
  exact⟨_,_,_,rfl,h,hn,rfl⟩
 | _,_,i+1,x,.cons h hn t,e=>by
  obtain ⟨a,zs,ns,h1,h2,h3,h4⟩:=t.get (i:=i) (x:=x) (by simpa using e)
  exact⟨a,zs,ns,h1,h2,h3,by simpa using h4⟩
theorem BarsL.same {K:PySem.W.Frag} {H H':Hp} (s:Same H H'):∀ {xs:List V} {bs:List (List Nt)},BarsL K H xs bs→BarsL K H' xs bs
 | _,_,.nil=>.nil
 | _,_,.cons h hn t=>.cons (s _ _ h) (hn.same s) (t.same s)
theorem BarsL.off {K:PySem.W.Frag} {H:Hp} {l:Addr} {ys zs:List V} (e:H l=some (.lst ys)):∀ {xs:List V} {bs:List (List Nt)},BarsL K H xs bs→V.ref l∉xs→BarsL K (upd H l (.lst zs)) xs bs
 | _,_,.nil,_=>.nil
 | _,_,.cons (a:=a) h hn t,no=>.cons (by rw [upd_ne (fun z=>no (by rw [z];exact .head _))];exact h) (hn.off e) (t.off e fun z=>no (.tail _ z))
theorem BarsL.snoc {K:PySem.W.Frag} {H:Hp} {a:Addr} {zs:List V} {ns:List Nt} (h:H a=some (.lst zs)) (hn:NotesL K H zs ns):∀ {xs:List V} {bs:List (List Nt)},BarsL K H xs bs→BarsL K H (xs++[.ref a]) (bs++[ns])
 | _,_,.nil=>.cons h hn .nil
 | _,_,.cons h1 hn1 t=>.cons h1 hn1 (t.snoc h hn)
noncomputable def TuneAt (K:PySem.W.Frag) (H:Hp) (t m l:Addr) (mt:Int×Int) (xs:List V) (bs:List (List Nt)):Prop:=SqT K H t [.ref m,.ref l]∧SqT K H m [.int mt.1,.int mt.2]∧H l=some (.lst xs)∧BarsL K H xs bs
theorem TuneAt.same {K:PySem.W.Frag} {H H':Hp} {t m l:Addr} {mt:Int×Int} {xs:List V} {bs:List (List Nt)} (h:TuneAt K H t m l mt xs bs) (s:Same H H'):TuneAt K H' t m l mt xs bs:=⟨s.at h.1,s.at h.2.1,s _ _ h.2.2.1,h.2.2.2.same s⟩
theorem ToneV.del {K:PySem.W.Frag} {H:Hp} {v:V} {c:Addr} {φ:Heap→Prop} (e:H c=some (.ext φ)):∀ {o:Option (List Int)},ToneV K H v o→ToneV K (L2.del H c) v o
 | none,h=>h
 | some _,⟨a,h1,h2,h3⟩=>⟨a,h1,sqT_del h2 e,h3⟩
theorem NoteAt.del {K:PySem.W.Frag} {H:Hp} {v:V} {n:Nt} {c:Addr} {φ:Heap→Prop} (h:NoteAt K H v n) (e:H c=some (.ext φ)):NoteAt K (L2.del H c) v n:=by
 obtain ⟨a,t,l,h1,h2,h3,h4⟩:=h
 exact⟨a,t,l,h1,sqT_del h2 e,h3.del e,sqT_del h4 e⟩
theorem NotesL.del {K:PySem.W.Frag} {H:Hp} {c:Addr} {φ:Heap→Prop} (e:H c=some (.ext φ)):∀ {xs:List V} {ns:List Nt},NotesL K H xs ns→NotesL K (L2.del H c) xs ns
 | _,_,.nil=>.nil
 | _,_,.cons h t=>.cons (h.del e) (t.del e)
theorem lst_del {H:Hp} {a c:Addr} {φ:Heap→Prop} {xs:List V} (h:H a=some (.lst xs)) (e:H c=some (.ext φ)):L2.del H c a=some (.lst xs):=by
 rw [del_ne (fun z=>by rw [z,e] at h;cases h)]
 exact h
theorem BarsL.del {K:PySem.W.Frag} {H:Hp} {c:Addr} {φ:Heap→Prop} (e:H c=some (.ext φ)):∀ {xs:List V} {bs:List (List Nt)},BarsL K H xs bs→BarsL K (L2.del H c) xs bs
 | _,_,.nil=>.nil
 | _,_,.cons h hn t=>.cons (lst_del h e) (hn.del e) (t.del e)
theorem TuneAt.del {K:PySem.W.Frag} {H:Hp} {t m l c:Addr} {φ:Heap→Prop} {mt:Int×Int} {xs:List V} {bs:List (List Nt)} (h:TuneAt K H t m l mt xs bs) (e:H c=some (.ext φ)):TuneAt K (L2.del H c) t m l mt xs bs:=⟨sqT_del h.1 e,sqT_del h.2.1 e,lst_del h.2.2.1 e,h.2.2.2.del e⟩
theorem ToneV.keep {K:PySem.W.Frag} {H H':Hp} {v:V} (tb:TabK K H) (s:SmT K H H'):∀ {o:Option (List Int)},ToneV K H v o→ToneV K H' v o
 | none,h=>h
 | some _,⟨a,h1,h2,h3⟩=>⟨a,h1,s.at tb h2,h3⟩
theorem NotesL.keep {K:PySem.W.Frag} {H H':Hp} (tb:TabK K H) (s:SmT K H H'):∀ {xs:List V} {ns:List Nt},NotesL K H xs ns→NotesL K H' xs ns
 | _,_,.nil=>.nil
 | _,_,.cons ⟨a,t,l,h1,h2,h3,h4⟩ tl=>.cons ⟨a,t,l,h1,s.at tb h2,h3.keep tb s,s.at tb h4⟩ (tl.keep tb s)
theorem BarsL.keep {K:PySem.W.Frag} {H H':Hp} (tb:TabK K H) (s:SmT K H H'):∀ {xs:List V} {bs:List (List Nt)},BarsL K H xs bs→BarsL K H' xs bs
 | _,_,.nil=>.nil
 | _,_,.cons h hn t=>.cons (s.lst tb h) (hn.keep tb s) (t.keep tb s)
theorem clOf_key {cells:List (Str×Addr)} {y:Str}:∀ {names:List (Str×NameKind)} {acc:List (Str×Addr)},(names.all fun p=>!(p.2 == NameKind.free) || p.1 == y)=true→(∀ z c,acc.lookup z=some c→z=y)→∀ z c,(clOf cells names acc).lookup z=some c→z=y
 | [],acc,_,h,z,c,e=>h z c e
 | (n,k)::r,acc,ha,h,z,c,e=>by
  rw [List.all_cons,Bool.and_eq_true] at ha
  refine clOf_key (names:=r) ha.2 (fun z c q=>?_) z c e
  by_cases hk:(k == NameKind.free)=true
  ·rw [if_pos hk] at q
   cases hl:cells.lookup n with
   | none=>rw [hl] at q;exact h z c q
   | some c0 =>
    rw [hl] at q
    simp only [List.lookup_cons] at q
    by_cases hz:(z == n)=true
    ·have:=ha.1
     rw [hk] at this
     rw [eq_of_beq hz]
     exact eq_of_beq (by simpa using this)
    ·rw [Bool.not_eq_true] at hz
     rw [hz] at q
     exact h z c q
  ·rw [if_neg hk] at q
   exact h z c q
theorem clOf_one {cells:List (Str×Addr)} {y:Str} {c:Addr} {names:List (Str×NameKind)} (h1:(names.all fun p=>!(p.2 == NameKind.free) || p.1 == y)=true) (h2:(y,NameKind.free)∈names) (h3:cells.lookup y=some c):(∀ z c0,(clOf cells names []).lookup z=some c0→z=y∧c0=c)∧(clOf cells names []).lookup y=some c:=by
 have hs:∀ x c,(clOf cells names []).lookup x=some c→cells.lookup x=some c:=clOf_sub (fun x c q=>by simp at q)
 have hk:∀ z c,(clOf cells names []).lookup z=some c→z=y:=clOf_key h1 (fun z c q=>by simp at q)
 obtain ⟨c1,e1⟩:=Option.isSome_iff_exists.mp (clOf_has (cells:=cells) (names:=names) (acc:=[]) (x:=y) (.inr ⟨h2,by rw [h3];rfl⟩))
 have e2:=hs y c1 e1
 rw [h3] at e2
 cases e2
 refine⟨fun z c0 e=>?_,e1⟩
 have ez:=hk z c0 e
 subst ez
 rw [e1] at e
 cases e
 exact⟨rfl,rfl⟩
noncomputable def Alk (K:PySem.W.Frag):Nat→Hp→V→V→Prop
 | 0,_,_,_=>False
 | n+1,H,x,y=>(x=.non∧y=.non)∨(∃ s:Str,x=.str s∧y=.str s)∨(∃ i:Int,x=.int i∧y=.int i)∨(∃ (a b:Addr) (xs ys:List V),x=.ref a∧y=.ref b∧((SqT K H a xs∧SqT K H b ys)∨(H a=some (.lst xs)∧H b=some (.lst ys)))∧xs.length=ys.length∧xs.length≤1000∧∀ (i:Nat) (x' y':V),xs[i]?=some x'→ys[i]?=some y'→Alk K n H x' y')
theorem Alk.same {K:PySem.W.Frag} {H H':Hp} (s:Same H H'):∀ {n:Nat} {x y:V},Alk K n H x y→Alk K n H' x y
 | n+1,_,_,.inl h=>.inl h
 | n+1,_,_,.inr (.inl h)=>.inr (.inl h)
 | n+1,_,_,.inr (.inr (.inl h))=>.inr (.inr (.inl h))
 | n+1,_,_,.inr (.inr (.inr ⟨a,b,xs,ys,h1,h2,h3,h4,h5,h6⟩))=>.inr (.inr (.inr ⟨a,b,xs,ys,h1,h2,h3.imp (fun z=>⟨s.at z.1,s.at z.2⟩) (fun z=>⟨s _ _ z.1,s _ _ z.2⟩),h4,h5,fun i x' y' e1 e2=>(h6 i x' y' e1 e2).same s⟩))
noncomputable def NamO (z:Str):Option (List Int)→Prop
 | none=>z=PySem.Str.ofString "R"
 | some r=>∃ t0 t1 t2 t3 t4:Int,r=[t0,t1,t2,t3,t4]∧z.cps.toList=nameL t0 t1 t2 t3 t4∧(-100≤t0∧t0≤100)∧(-30≤t1∧t1≤30)∧(-1≤t2∧t2≤1)∧(-1≤t3∧t3≤1)∧(-1≤t4∧t4≤1)
theorem tb_fits {t0 t1 t2 t3 t4:Int} (h:fits t0 t1 t2 t3 t4=true):(-700≤t0∧t0≤700)∧(-60≤t1∧t1≤60)∧(-60≤t2∧t2≤60)∧(-60≤t3∧t3≤60)∧(-60≤t4∧t4≤60):=by
 have ab:∀ (t b:Int),(if t<0 then -t else t)≤b→-b≤t∧t≤b:=fun t b h=>by split at h <;> lia
 unfold fits at h
 simp only [List.all_cons,List.all_nil,id,Bool.and_true,Bool.and_eq_true,decide_eq_true_eq] at h
 exact⟨ab _ _ h.1,ab _ _ h.2.1,ab _ _ h.2.2.1,ab _ _ h.2.2.2.1,ab _ _ h.2.2.2.2⟩
noncomputable def sx (r:Int) (cf:Nat→Int) (st:List Int):Nat→Int
 | 0=>r
 | i+1=>sx r cf st i+cf i*st.getD i 0
noncomputable def lenOk (l:Int×Int):Prop:=∃ t b:Nat,l=((t:Int),(b:Int))∧t≤9999∧b≤9999
noncomputable def okT (n:Nt):Bool:=match n.1 with|none=>true|some r=>fitsL r
theorem okN_T (q:List Int) (n:Nt):okN q n=okT (mvN q n):=by
 obtain ⟨o,l⟩:=n
 cases o <;> rfl
noncomputable def smO:Option (List Int)→Prop
 | none=>True
 | some r=>∃ t0 t1 t2 t3 t4:Int,r=[t0,t1,t2,t3,t4]∧(-100≤t0∧t0≤100)∧(-30≤t1∧t1≤30)∧(-1≤t2∧t2≤1)∧(-1≤t3∧t3≤1)∧(-1≤t4∧t4≤1)
theorem NamO.sm {z:Str}:∀ {o:Option (List Int)},NamO z o→smO o
 | none,_=>trivial
 | some _,⟨t0,t1,t2,t3,t4,h,_,b⟩=>⟨t0,t1,t2,t3,t4,h,b⟩
noncomputable def TunOk (mt:Int×Int) (bs:List (List Nt)):Prop:=1≤bs.length∧bs.length≤12∧(∀ ns∈bs,1≤ns.length∧ns.length≤12∧∀ n∈ns,smO n.1∧lenOk n.2)∧lenOk mt
theorem len_low {t b:Nat} (h1:t≤9999) (h2:b≤9999):lenOk (((t / Nat.gcd t b:Nat):Int),((b / Nat.gcd t b:Nat):Int)):=⟨_,_,rfl,Nat.le_trans (Nat.div_le_self _ _) h1,Nat.le_trans (Nat.div_le_self _ _) h2⟩
theorem fits_bad {r0 r1 r2 r3 r4:Int} {i:Nat} {x b:Int} (h1:([r0,r1,r2,r3,r4]:List Int)[i]?=some x) (h2:([700,60,60,60,60]:List Int)[i]?=some b) (h:b<(if x<0 then -x else x)):fits r0 r1 r2 r3 r4=false:=by
 cases hf:fits r0 r1 r2 r3 r4 with
 | false=>rfl
 | true =>
  exfalso
  have hb:=tb_fits hf
  match i,h1,h2 with
  | 0,h1,h2=>cases h1;cases h2;split at h <;> lia
  | 1,h1,h2=>cases h1;cases h2;split at h <;> lia
  | 2,h1,h2=>cases h1;cases h2;split at h <;> lia
  | 3,h1,h2=>cases h1;cases h2;split at h <;> lia
  | 4,h1,h2=>cases h1;cases h2;split at h <;> lia
  | i+5,h1,_=>simp at h1
theorem fits_good {r0 r1 r2 r3 r4:Int} (h:∀ i<5,∀ x b:Int,([r0,r1,r2,r3,r4]:List Int)[i]?=some x→([700,60,60,60,60]:List Int)[i]?=some b→(if x<0 then -x else x)≤b):fits r0 r1 r2 r3 r4=true:=by
 have h0:=h 0 (by decide) _ _ rfl rfl
 have h1:=h 1 (by decide) _ _ rfl rfl
 have h2:=h 2 (by decide) _ _ rfl rfl
 have h3:=h 3 (by decide) _ _ rfl rfl
 have h4:=h 4 (by decide) _ _ rfl rfl
 unfold fits
 simp only [List.all_cons,List.all_nil,id,Bool.and_true,Bool.and_eq_true,decide_eq_true_eq]
 exact⟨h0,h1,h2,h3,h4⟩
theorem TuneAt.keep {K:PySem.W.Frag} {H H':Hp} {t m l:Addr} {mt:Int×Int} {xs:List V} {bs:List (List Nt)} (h:TuneAt K H t m l mt xs bs) (tb:TabK K H) (s:SmT K H H'):TuneAt K H' t m l mt xs bs:=⟨s.at tb h.1,s.at tb h.2.1,s.lst tb h.2.2.1,h.2.2.2.keep tb s⟩
theorem alk_int {K:PySem.W.Frag} {H:Hp} {n:Nat} (i:Int):Alk K (n+1) H (.int i) (.int i):=.inr (.inr (.inl ⟨i,rfl,rfl⟩))
theorem alk_str {K:PySem.W.Frag} {H:Hp} {n:Nat} (z:Str):Alk K (n+1) H (.str z) (.str z):=.inr (.inl ⟨z,rfl,rfl⟩)
theorem alk_row {K:PySem.W.Frag} {H:Hp} {n:Nat} {a b:Addr} {r:List Int} (h1:SqT K H a (r.map V.int)) (h2:SqT K H b (r.map V.int)) (h:r.length≤1000):Alk K (n+2) H (.ref a) (.ref b) :=
 .inr (.inr (.inr ⟨a,b,_,_,rfl,rfl,.inl ⟨h1,h2⟩,rfl,by rw [List.length_map];exact h,fun i x y e1 e2=>by
  rw [e1] at e2
  cases e2
  obtain ⟨rfl,_⟩:=int_get e1
  exact alk_int _⟩))
theorem alk_two {K:PySem.W.Frag} {H:Hp} {n:Nat} {a b:Addr} {x y x' y':V} (h1:SqT K H a [x,y]) (h2:SqT K H b [x',y']) (h3:Alk K n H x x') (h4:Alk K n H y y'):Alk K (n+1) H (.ref a) (.ref b) :=
 .inr (.inr (.inr ⟨a,b,_,_,rfl,rfl,.inl ⟨h1,h2⟩,rfl,by show 2≤1000;decide,fun i u v e1 e2=>by
  match i,e1,e2 with
  | 0,e1,e2=>cases e1;cases e2;exact h3
  | 1,e1,e2=>cases e1;cases e2;exact h4
  | i+2,e1,_=>simp at e1⟩))
theorem alk_tone {K:PySem.W.Frag} {H:Hp} {n:Nat} {v w:V}:∀ {o:Option (List Int)},ToneV K H v o→ToneV K H w o→Alk K (n+2) H v w
 | none,h1,h2=>.inl ⟨h1,h2⟩
 | some _,⟨a,h1,h2,h3⟩,⟨b,h4,h5,_⟩=>by
  rw [h1,h4]
  exact alk_row h2 h5 (by lia)
theorem alk_note {K:PySem.W.Frag} {H:Hp} {n:Nat} {v w:V} {q:Nt} (h1:NoteAt K H v q) (h2:NoteAt K H w q):Alk K (n+3) H v w:=by
 obtain ⟨a,t,l,rfl,g1,g2,g3⟩:=h1
 obtain ⟨a',t',l',rfl,g4,g5,g6⟩:=h2
 exact alk_two g1 g4 (alk_tone g2 g5) (alk_row (r:=[q.2.1,q.2.2]) g3 g6 (by show 2≤1000;decide))
theorem alk_bar {K:PySem.W.Frag} {H:Hp} {n:Nat} {a b:Addr} {xs ys:List V} {ns:List Nt} (h1:H a=some (.lst xs)) (h2:H b=some (.lst ys)) (g1:NotesL K H xs ns) (g2:NotesL K H ys ns) (h:ns.length≤100):Alk K (n+4) H (.ref a) (.ref b):=by
 have l1:=g1.length
 have l2:=g2.length
 refine .inr (.inr (.inr ⟨a,b,_,_,rfl,rfl,.inr ⟨h1,h2⟩,by lia,by lia,fun i x y e1 e2=>?_⟩))
 obtain ⟨q,q1,q2⟩:=g1.get e1
 obtain ⟨q',q3,q4⟩:=g2.get e2
 rw [q2] at q4
 cases q4
 exact alk_note q1 q3
theorem alk_tune {K:PySem.W.Frag} {H:Hp} {n:Nat} {t m l t' m' l':Addr} {mt:Int×Int} {xs ys:List V} {bs:List (List Nt)} (h1:TuneAt K H t m l mt xs bs) (h2:TuneAt K H t' m' l' mt ys bs) (h:bs.length≤100) (hn:∀ ns∈bs,ns.length≤100):Alk K (n+6) H (.ref t) (.ref t'):=by
 have l1:=h1.2.2.2.length
 have l2:=h2.2.2.2.length
 refine alk_two h1.1 h2.1 (alk_row (r:=[mt.1,mt.2]) h1.2.1 h2.2.1 (by show 2≤1000;decide)) (.inr (.inr (.inr ⟨l,l',_,_,rfl,rfl,.inr ⟨h1.2.2.1,h2.2.2.1⟩,by lia,by lia,fun i x y e1 e2=>?_⟩)))
 obtain ⟨a,zs,ns,rfl,q1,q2,q3⟩:=h1.2.2.2.get e1
 obtain ⟨a',zs',ns',rfl,q4,q5,q6⟩:=h2.2.2.2.get e2
 rw [q3] at q6
 cases q6
 exact alk_bar q1 q4 q2 q5 (hn _ (List.mem_of_getElem? q3))
theorem mv_len {sq:List Int} {bs:List (List Nt)} {b:Nat} (h:∀ ns∈bs,ns.length≤b):∀ ns∈(bs.map fun ns=>ns.map (mvN sq)),ns.length≤b:=fun ns hn=>by
 obtain ⟨q,hq,rfl⟩:=List.mem_map.mp hn
 rw [List.length_map]
 exact h q hq
theorem all_ok {sq:List Int} {bs:List (List Nt)} (h:(bs.all fun ns=>ns.all fun n=>okN sq n)=true):∀ ns∈bs,∀ n∈ns,okN sq n=true:=fun ns h1 n h2=>List.all_eq_true.mp (List.all_eq_true.mp h ns h1) n h2
theorem not_ok {sq:List Int} {bs:List (List Nt)} (h:(bs.all fun ns=>ns.all fun n=>okN sq n)=false):∃ ns∈bs,∃ n∈ns,okN sq n=false:=by
 obtain ⟨ns,h1,h2⟩:=List.all_eq_false.mp h
 rw [Bool.not_eq_true] at h2
 obtain ⟨n,h3,h4⟩:=List.all_eq_false.mp h2
 rw [Bool.not_eq_true] at h4
 exact⟨ns,h1,n,h3,h4⟩
theorem mv_ok {sq:List Int} {bs:List (List Nt)} (h:∀ ns∈bs,∀ n∈ns,okN sq n=true):∀ ns∈(bs.map fun ns=>ns.map (mvN sq)),∀ n∈ns,okT n=true:=fun ns hn n hm=>by
 obtain ⟨q,hq,rfl⟩:=List.mem_map.mp hn
 obtain ⟨x,hx,rfl⟩:=List.mem_map.mp hm
 rw [← okN_T]
 exact h q hq x hx
theorem mv_not {sq:List Int} {bs:List (List Nt)} (h:∃ ns∈bs,∃ n∈ns,okN sq n=false):∃ ns∈(bs.map fun ns=>ns.map (mvN sq)),∃ n∈ns,okT n=false:=by
 obtain ⟨ns,h1,n,h2,h3⟩:=h
 exact⟨_,List.mem_map_of_mem h1,_,List.mem_map_of_mem h2,by rw [← okN_T];exact h3⟩
noncomputable abbrev MovL (H:Hp) (f cS b:Addr) (ob:Obj):Prop:=LamAt H f cS (.ref b) ob "mover.<locals>.<lambda>" "span" (lamP mvE) (lamB mvE) (lamS mvE)
theorem lam_keep {Ts:List TabR} {H H':Hp} {f cS:Addr} {v:V} {ob:Obj} {q y:Str} {params:Arguments} {body:Expr} {scope:Scope} (h:LamAt H f cS v ob q y params body scope) (t:TabsH Ts H) (s:SameS Ts H H'):LamAt H' f cS v ob q y params body scope:=by
 obtain ⟨c',cl,h1,h2,h3,h4,h5⟩:=h
 exact⟨c',cl,s.ext t h1,s.ext t h2,h3,h4,s.ext t h5⟩
theorem near_ok {q:List Int} (lq:q.length=5) (hb:∀ (n:Nat) (x b:Int),q[n]?=some x→([24,8,6,6,6]:List Int)[n]?=some b→-b≤x∧x≤b) {n:Nt} (h:smO n.1):okN q n=true:=by
 obtain ⟨b0,b1,b2,b3,b4,rfl⟩:=Mth.five_of lq
 have h0:=hb 0 _ _ rfl rfl
 have h1:=hb 1 _ _ rfl rfl
 have h2:=hb 2 _ _ rfl rfl
 have h3:=hb 3 _ _ rfl rfl
 have h4:=hb 4 _ _ rfl rfl
 obtain ⟨o,l⟩:=n
 cases o with
 | none=>rfl
 | some r =>
  obtain ⟨t0,t1,t2,t3,t4,rfl,c0,c1,c2,c3,c4⟩:=h
  show fits (t0+b0) (t1+b1) (t2+b2) (t3+b3) (t4+b4)=true
  exact fits_tb ⟨by lia,by lia,by lia,by lia,by lia⟩
theorem near_all {q:List Int} (lq:q.length=5) (hb:∀ (n:Nat) (x b:Int),q[n]?=some x→([24,8,6,6,6]:List Int)[n]?=some b→-b≤x∧x≤b) {mt:Int×Int} {bs:List (List Nt)} (h:TunOk mt bs):∀ ns∈bs,∀ n∈ns,okN q n=true:=fun ns h1 n h2=>near_ok lq hb ((h.2.2.1 ns h1).2.2 n h2).1
theorem mv_two {p q:List Int} (lp:p.length=5) (lq:q.length=5) {n:Nt} (h:smO n.1):mvN q (mvN p n)=mvN (addv p q) n:=by
 obtain ⟨b0,b1,b2,b3,b4,rfl⟩:=Mth.five_of lp
 obtain ⟨c0,c1,c2,c3,c4,rfl⟩:=Mth.five_of lq
 obtain ⟨o,l⟩:=n
 cases o with
 | none=>rfl
 | some r =>
  obtain ⟨t0,t1,t2,t3,t4,rfl,_⟩:=h
  show (some [t0+b0+c0,t1+b1+c1,t2+b2+c2,t3+b3+c3,t4+b4+c4],l)=(some [t0+(b0+c0),t1+(b1+c1),t2+(b2+c2),t3+(b3+c3),t4+(b4+c4)],l)
  rw [Int.add_assoc,Int.add_assoc,Int.add_assoc,Int.add_assoc,Int.add_assoc]
theorem mv_twos {p q:List Int} (lp:p.length=5) (lq:q.length=5) {mt:Int×Int} {bs:List (List Nt)} (h:TunOk mt bs):((bs.map fun ns=>ns.map (mvN p)).map fun ns=>ns.map (mvN q))=bs.map fun ns=>ns.map (mvN (addv p q)):=by
 rw [List.map_map]
 refine List.map_congr_left fun ns hn=>?_
 show (ns.map (mvN p)).map (mvN q)=ns.map (mvN (addv p q))
 rw [List.map_map]
 exact List.map_congr_left fun n hm=>mv_two lp lq ((h.2.2.1 ns hn).2.2 n hm).1
theorem two_ok {p q:List Int} (lp:p.length=5) (lq:q.length=5) {mt:Int×Int} {bs:List (List Nt)} (h:TunOk mt bs) (hk:∀ ns∈bs,∀ n∈ns,okN (addv p q) n=true):∀ ns∈(bs.map fun ns=>ns.map (mvN p)),∀ n∈ns,okN q n=true:=fun ns hn n hm=>by
 obtain ⟨u,hu',rfl⟩:=List.mem_map.mp hn
 obtain ⟨x,hx,rfl⟩:=List.mem_map.mp hm
 rw [okN_T,mv_two lp lq ((h.2.2.1 u hu').2.2 x hx).1,← okN_T]
 exact hk u hu' x hx
noncomputable def bdW (wd:Bool):List Int:=if wd=true then [700,60,60,60,60] else [12,4,3,3,3]
theorem bd_wide {q:List Int} (hb:∀ (n:Nat) (x b:Int),q[n]?=some x→(bdW false)[n]?=some b→-b≤x∧x≤b):∀ (n:Nat) (x b:Int),q[n]?=some x→([24,8,6,6,6]:List Int)[n]?=some b→-b≤x∧x≤b:=fun n x b h1 h2=>by
 match n,h1,h2 with
 | 0,h1,h2=>have:=hb 0 x _ h1 rfl;cases h2;lia
 | 1,h1,h2=>have:=hb 1 x _ h1 rfl;cases h2;lia
 | 2,h1,h2=>have:=hb 2 x _ h1 rfl;cases h2;lia
 | 3,h1,h2=>have:=hb 3 x _ h1 rfl;cases h2;lia
 | 4,h1,h2=>have:=hb 4 x _ h1 rfl;cases h2;lia
 | n+5,_,h2=>simp at h2
theorem bd_add {p q:List Int} (lp:p.length=5) (lq:q.length=5) (h1:∀ (n:Nat) (x b:Int),p[n]?=some x→(bdW false)[n]?=some b→-b≤x∧x≤b) (h2:∀ (n:Nat) (x b:Int),q[n]?=some x→(bdW false)[n]?=some b→-b≤x∧x≤b):∀ (n:Nat) (x b:Int),(addv p q)[n]?=some x→([24,8,6,6,6]:List Int)[n]?=some b→-b≤x∧x≤b:=fun n x b g1 g2=>by
 obtain ⟨b0,b1,b2,b3,b4,rfl⟩:=Mth.five_of lp
 obtain ⟨c0,c1,c2,c3,c4,rfl⟩:=Mth.five_of lq
 match n,g1,g2 with
 | 0,g1,g2=>have z1:=h1 0 _ _ rfl rfl;have z2:=h2 0 _ _ rfl rfl;cases g1;cases g2;show _≤b0+c0∧b0+c0≤_;lia
 | 1,g1,g2=>have z1:=h1 1 _ _ rfl rfl;have z2:=h2 1 _ _ rfl rfl;cases g1;cases g2;show _≤b1+c1∧b1+c1≤_;lia
 | 2,g1,g2=>have z1:=h1 2 _ _ rfl rfl;have z2:=h2 2 _ _ rfl rfl;cases g1;cases g2;show _≤b2+c2∧b2+c2≤_;lia
 | 3,g1,g2=>have z1:=h1 3 _ _ rfl rfl;have z2:=h2 3 _ _ rfl rfl;cases g1;cases g2;show _≤b3+c3∧b3+c3≤_;lia
 | 4,g1,g2=>have z1:=h1 4 _ _ rfl rfl;have z2:=h2 4 _ _ rfl rfl;cases g1;cases g2;show _≤b4+c4∧b4+c4≤_;lia
 | n+5,_,g2=>simp at g2
theorem alk_ref {K:PySem.W.Frag} {H:Hp} {n:Nat} {a b:Addr} {z:Str} (h1:SqT K H a [.str z]) (h2:SqT K H b [.str z]):Alk K (n+2) H (.ref a) (.ref b) :=
 .inr (.inr (.inr ⟨a,b,_,_,rfl,rfl,.inl ⟨h1,h2⟩,rfl,by show 1≤1000;decide,fun i u v e1 e2=>by
  match i,e1,e2 with
  | 0,e1,e2=>cases e1;cases e2;exact alk_str _
  | i+1,e1,_=>simp at e1⟩))
structure Adr where
 a_ONE:Addr
 a_BOUNDS:Addr
 a_YardError:Addr
 a_TooFar:Addr
 c_lam_moved:Addr
 c_lam_mover:Addr
structure Txt (K:PySem.W.Frag) (mg:Str→Option Value) (G:Adr):Prop where
 b_abs:mg "abs"=none
 b_all:mg "all"=none
 b_bool:mg "bool"=none
 b_enumerate:mg "enumerate"=none
 b_int:mg "int"=none
 b_isinstance:mg "isinstance"=none
 b_len:mg "len"=none
 b_list:mg "list"=none
 b_range:mg "range"=none
 b_str:mg "str"=none
 b_tuple:mg "tuple"=none
 b_zip:mg "zip"=none
 g_ONE:mg "ONE"=some (.ref G.a_ONE)
 q_ONE:Fixed K G.a_ONE [.int 0,.int 0,.int 0,.int 0,.int 0]
 g_BOUNDS:mg "BOUNDS"=some (.ref G.a_BOUNDS)
 q_BOUNDS:Fixed K G.a_BOUNDS [.int 700,.int 60,.int 60,.int 60,.int 60]
 g_YardError:mg "YardError"=some (.ref G.a_YardError)
 m_YardError:PySem.W.nsIn K mainGlobals "YardError"=some (some (.ref G.a_YardError))
 h_YardError:HCls K G.a_YardError
 g_TooFar:mg "TooFar"=some (.ref G.a_TooFar)
 m_TooFar:PySem.W.nsIn K mainGlobals "TooFar"=some (some (.ref G.a_TooFar))
 h_TooFar:HCls K G.a_TooFar
 x_TooFar:XCls K G.a_TooFar
 i_TooFar:PySem.W.excIn K G.a_TooFar [.type "ValueError",.type "Exception",.type "BaseException",.type "object"] "ValueError.__new__"=true
 s_TooFar_TooFar:PySem.W.subIn K (.ref G.a_TooFar) (.ref G.a_TooFar)=some true
 s_TooFar_YardError:PySem.W.subIn K (.ref G.a_TooFar) (.ref G.a_YardError)=some true
 v_TooFar_ValueError:PySem.W.subIn K (.ref G.a_TooFar) (.type "ValueError")=some true
noncomputable def sp_is_whole (K:PySem.W.Frag):Sp:=fun vs H Q _=>∃ v,vs=[v]∧Kn K H v∧Q (.bl (wh v)) H
noncomputable def sp_is_row (K:PySem.W.Frag):Sp:=fun vs H Q _=>∃ v,vs=[v]∧((∃ (a:Addr) (xs:List V),v=.ref a∧SqT K H a xs∧xs.length≤1000∧(∀ x∈xs,Kn K H x)∧∀ H',Same H H'→Q (.bl (decide (xs.length=5) && xs.all wh)) H')∨(NT K H v∧Q (.bl false) H))
noncomputable def sp_is_tone (K:PySem.W.Frag):Sp:=fun vs H Q _=>∃ v,vs=[v]∧((∃ (a:Addr) (x0 x1 x2 x3 x4:Int),v=.ref a∧SqT K H a [.int x0,.int x1,.int x2,.int x3,.int x4]∧∀ H',Same H H'→Q (.bl (fits x0 x1 x2 x3 x4)) H')∨(Odd K H v∧∀ H',Same H H'→Q (.bl false) H'))
noncomputable def sp_tone_of (K:PySem.W.Frag):Sp:=fun vs H Q E=>∃ (a:Addr) (x0 x1 x2 x3 x4:Int),vs=[.ref a]∧SqT K H a [.int x0,.int x1,.int x2,.int x3,.int x4]∧(fits x0 x1 x2 x3 x4=false→∀ C H',PySem.W.nsIn K mainGlobals "TooFar"=some (some (.ref C))→Same H H'→E (.ref C) none H')∧(fits x0 x1 x2 x3 x4=true→∀ H',Same H H'→Q (.ref a) H')
noncomputable def sp_times (K:PySem.W.Frag):Sp:=fun vs H Q _=>∃ a b a0 a1 a2 a3 a4 b0 b1 b2 b3 b4,vs=[.ref a,.ref b]∧SqT K H a [.int a0,.int a1,.int a2,.int a3,.int a4]∧SqT K H b [.int b0,.int b1,.int b2,.int b3,.int b4]∧∀ p H',Same H H'→H' p=some (.tup [.int (a0+b0),.int (a1+b1),.int (a2+b2),.int (a3+b3),.int (a4+b4)])→Q (.ref p) H'
noncomputable def sp_note_changed (K:PySem.W.Frag):Sp:=fun vs H Q E=>∃ (a f cS b:Addr) (ob:Obj) (n:Nt) (sq:List Int),vs=[.ref a,.ref f]∧NoteAt K H (.ref a) n∧LamM H f cS b ob∧SqT K H b (sq.map V.int)∧sq.length=5∧(okN sq n=false→∀ C H',PySem.W.nsIn K mainGlobals "TooFar"=some (some (.ref C))→Same H H'→E (.ref C) none H')∧(okN sq n=true→∀ p H',Same H H'→NoteAt K H' (.ref p) (mvN sq n)→Q (.ref p) H')
noncomputable def sp_bar_changed (K:PySem.W.Frag):Sp:=fun vs H Q E=>∃ (a f cS b:Addr) (ob:Obj) (xs:List V) (ns:List Nt) (sq:List Int),vs=[.ref a,.ref f]∧SqL K H a xs∧NotesL K H xs ns∧ns.length≤100∧LamM H f cS b ob∧SqT K H b (sq.map V.int)∧sq.length=5∧((∃ n∈ns,okN sq n=false)→∀ C H',PySem.W.nsIn K mainGlobals "TooFar"=some (some (.ref C))→Same H H'→E (.ref C) none H')∧((∀ n∈ns,okN sq n=true)→∀ l' H' ys,H l'=none→Same H H'→H' l'=some (.lst ys)→NotesL K H' ys (ns.map (mvN sq))→Q (.ref l') H')
noncomputable def sp_changed (K:PySem.W.Frag):Sp:=fun vs H Q E=>∃ (a m l f cS b:Addr) (mt:Int×Int) (ob:Obj) (xs:List V) (bs:List (List Nt)) (sq:List Int),vs=[.ref a,.ref f]∧TuneAt K H a m l mt xs bs∧bs.length≤100∧(∀ ns∈bs,ns.length≤100)∧LamM H f cS b ob∧SqT K H b (sq.map V.int)∧sq.length=5∧((∃ ns∈bs,∃ n∈ns,okN sq n=false)→∀ C H',PySem.W.nsIn K mainGlobals "TooFar"=some (some (.ref C))→Same H H'→E (.ref C) none H')∧((∀ ns∈bs,∀ n∈ns,okN sq n=true)→∀ t' l' H' ys,H l'=none→Same H H'→(∀ x∈ys,∃ b,x=V.ref b∧H b=none)→TuneAt K H' t' m l' mt ys (bs.map fun ns=>ns.map (mvN sq))→Q (.ref t') H')
noncomputable def sp_moved (K:PySem.W.Frag):Sp:=fun vs H Q E=>∃ (a m l b:Addr) (mt:Int×Int) (xs:List V) (bs:List (List Nt)) (sq:List Int),vs=[.ref a,.ref b]∧TuneAt K H a m l mt xs bs∧bs.length≤100∧(∀ ns∈bs,ns.length≤100)∧SqT K H b (sq.map V.int)∧sq.length=5∧TabK K H∧((∃ ns∈bs,∃ n∈ns,okN sq n=false)→∀ C H',PySem.W.nsIn K mainGlobals "TooFar"=some (some (.ref C))→SmT K H H'→TabK K H'→E (.ref C) none H')∧((∀ ns∈bs,∀ n∈ns,okN sq n=true)→∀ t' l' H' ys,H l'=none→SmT K H H'→TabK K H'→(∀ x∈ys,∃ b,x=V.ref b∧H b=none)→TuneAt K H' t' m l' mt ys (bs.map fun ns=>ns.map (mvN sq))→Q (.ref t') H')
noncomputable def sp_mover (K:PySem.W.Frag):Sp:=fun vs H Q E=>∃ (b:Addr) (sq:List Int),vs=[.ref b]∧SqT K H b (sq.map V.int)∧sq.length=5∧TabK K H∧∀ (f cS:Addr) (ob:Obj) H',SmT K H H'→TabK K H'→MovL H' f cS b ob→Q (.ref f) H'
noncomputable def sp_law_cell_at (K:PySem.W.Frag):Sp:=fun vs H Q _=>∃ (a:Addr) (ns:List Int) (k:Int),vs=[.ref a,.int k]∧SqL K H a (ns.map V.int)∧0≤k∧Q (.int (ns.getD k.toNat 0)) H
noncomputable def sp_law_lowest (K:PySem.W.Frag):Sp:=fun vs H Q _=>∃ (t b:Nat),vs=[.int t,.int b]∧0<b∧b<2 ^ 9000∧∀ p H',Same H H'→H' p=some (.tup [.int (t / Nat.gcd t b:Nat),.int (b / Nat.gcd t b:Nat)])→Q (.ref p) H'
noncomputable def sp_law_mixed (K:PySem.W.Frag):Sp:=fun vs H Q _=>∃ (c j:Int),vs=[.int c,.int j]∧(0≤j∧j≤1000)∧∀ m:Int,0≤m→m<999983→Q (.int m) H
noncomputable def sp_law_alike (K:PySem.W.Frag) (n:Nat):Sp:=fun vs H Q _=>∃ (x y:V),vs=[x,y]∧Alk K n H x y∧∀ H',Same H H'→Q (.bl true) H'
theorem sp0_law_alike (K:PySem.W.Frag) {vs:List V} {H:Hp} {Q:VK} {E:XK}:¬ sp_law_alike K 0 vs H Q E:=fun ⟨_,_,_,h,_⟩=>h
noncomputable def sp_law_name_row (K:PySem.W.Frag):Sp:=fun vs H Q _=>∃ (c:Int),vs=[.int c]∧(0≤c∧c≤1000000)∧∀ (p:Addr) H' (z:Str) (v:V) (o:Option (List Int)),Same H H'→H' p=some (.tup [.str z,v])→ToneV K H' v o→NamO z o→Q (.ref p) H'
noncomputable def sp_law_pieces (K:PySem.W.Frag):Sp:=fun vs H Q _=>∃ (c:Int) (n t:Nat),vs=[.int c,.int n,.int t]∧1≤n∧n≤12∧n≤t∧t≤100∧∀ (l:Addr) H' (ps:List Int),H l=none→Same H H'→H' l=some (.lst (ps.map V.int))→ps.length=n→(∀ p∈ps,1≤p∧p≤t)→ps.sum=(t:Int)→Q (.ref l) H'
noncomputable def sp_law_tune (K:PySem.W.Frag):Sp:=fun vs H Q _=>∃ (a:Addr) (ns:List Int) (j:Int),vs=[.ref a,.int j]∧SqL K H a (ns.map V.int)∧0≤j∧j≤100∧∀ (t m l:Addr) H' (mt:Int×Int) (xs:List V) (bs:List (List Nt)),Same H H'→TuneAt K H' t m l mt xs bs→TunOk mt bs→Q (.ref t) H'
noncomputable def sp_law_copy (K:PySem.W.Frag):Sp:=fun vs H Q _=>∃ (a m l:Addr) (mt:Int×Int) (xs:List V) (bs:List (List Nt)),vs=[.ref a]∧TuneAt K H a m l mt xs bs∧bs.length≤12∧∀ (t' l':Addr) H' (ys:List V),H l'=none→Same H H'→TuneAt K H' t' m l' mt ys bs→Q (.ref t') H'
noncomputable def sp_law_put (K:PySem.W.Frag):Sp:=fun vs H Q _=>∃ (a m l b:Addr) (mt:Int×Int) (xs:List V) (bs:List (List Nt)) (sq:List Int),vs=[.ref a,.ref b]∧TuneAt K H a m l mt xs bs∧bs.length≤12∧(∀ ns∈bs,ns.length≤12)∧SqT K H b (sq.map V.int)∧sq.length=5∧∀ (t' l':Addr) H' (ys:List V),H l'=none→Same H H'→TuneAt K H' t' m l' mt ys (bs.map fun ns=>ns.map (mvN sq))→Q (.ref t') H'
noncomputable def sp_law_fits (K:PySem.W.Frag):Sp:=fun vs H Q _=>∃ (a m l:Addr) (mt:Int×Int) (xs:List V) (bs:List (List Nt)),vs=[.ref a]∧TuneAt K H a m l mt xs bs∧bs.length≤12∧(∀ ns∈bs,ns.length≤12)∧((∃ ns∈bs,∃ n∈ns,okT n=false)→∀ H',Same H H'→Q (.bl false) H')∧((∀ ns∈bs,∀ n∈ns,okT n=true)→∀ H',Same H H'→Q (.bl true) H')
noncomputable def sp_law_span (K:PySem.W.Frag):Sp:=fun vs H Q _=>∃ (a:Addr) (ns:List Int) (j:Int) (wd:Bool),vs=[.ref a,.int j,.bl wd]∧SqL K H a (ns.map V.int)∧0≤j∧j≤100∧∀ (p:Addr) H' (sq:List Int),Same H H'→H' p=some (.tup (sq.map V.int))→sq.length=5→(∀ (n:Nat) (x b:Int),sq[n]?=some x→(bdW wd)[n]?=some b→-b≤x∧x≤b)→Q (.ref p) H'
noncomputable def sp_law_told (K:PySem.W.Frag):Sp:=fun vs H Q E=>∃ (f cS b a m l:Addr) (ob:Obj) (mt:Int×Int) (xs:List V) (bs:List (List Nt)) (sq:List Int),vs=[.ref f,.ref a]∧MovL H f cS b ob∧TuneAt K H a m l mt xs bs∧bs.length≤100∧(∀ ns∈bs,ns.length≤100)∧SqT K H b (sq.map V.int)∧sq.length=5∧TabK K H∧((∃ ns∈bs,∃ n∈ns,okN sq n=false)→∀ p H',SmT K H H'→TabK K H'→H' p=some (.tup [.str (PySem.Str.ofString "refused")])→Q (.ref p) H')∧((∀ ns∈bs,∀ n∈ns,okN sq n=true)→∀ t' l' H' ys,SmT K H H'→TabK K H'→TuneAt K H' t' m l' mt ys (bs.map fun ns=>ns.map (mvN sq))→Q (.ref t') H')
section
variable {K:PySem.W.Frag} {H:Hp} {Q:VK} {E:XK}
theorem c_is_whole {v:V} (hv:Kn K H v) (k:Q (.bl (wh v)) H):sp_is_whole K [v] H Q E:=⟨v,rfl,hv,k⟩
theorem c_is_row {v:V} (h:(∃ (a:Addr) (xs:List V),v=.ref a∧SqT K H a xs∧xs.length≤1000∧(∀ x∈xs,Kn K H x)∧∀ H',Same H H'→Q (.bl (decide (xs.length=5) && xs.all wh)) H')∨(NT K H v∧Q (.bl false) H)):sp_is_row K [v] H Q E:=⟨v,rfl,h⟩
theorem c_is_toneR {a:Addr} {x0 x1 x2 x3 x4:Int} (ha:SqT K H a [.int x0,.int x1,.int x2,.int x3,.int x4]) (k:∀ H',Same H H'→Q (.bl (fits x0 x1 x2 x3 x4)) H'):sp_is_tone K [.ref a] H Q E:=⟨_,rfl,.inl ⟨a,x0,x1,x2,x3,x4,rfl,ha,k⟩⟩
theorem c_tone_of {a:Addr} {x0 x1 x2 x3 x4:Int} (ha:SqT K H a [.int x0,.int x1,.int x2,.int x3,.int x4]) (ke:(fits x0 x1 x2 x3 x4=false→∀ C H',PySem.W.nsIn K mainGlobals "TooFar"=some (some (.ref C))→Same H H'→E (.ref C) none H')) (kq:(fits x0 x1 x2 x3 x4=true→∀ H',Same H H'→Q (.ref a) H')):sp_tone_of K [.ref a] H Q E:=⟨a,x0,x1,x2,x3,x4,rfl,ha,ke,kq⟩
theorem c_times {a b:Addr} {a0 a1 a2 a3 a4 b0 b1 b2 b3 b4:Int} (ha:SqT K H a [.int a0,.int a1,.int a2,.int a3,.int a4]) (hb:SqT K H b [.int b0,.int b1,.int b2,.int b3,.int b4]) (k:∀ p H',Same H H'→H' p=some (.tup [.int (a0+b0),.int (a1+b1),.int (a2+b2),.int (a3+b3),.int (a4+b4)])→Q (.ref p) H'):sp_times K [.ref a,.ref b] H Q E:=⟨a,b,a0,a1,a2,a3,a4,b0,b1,b2,b3,b4,rfl,ha,hb,k⟩
theorem c_note_changed {a f cS b:Addr} {ob:Obj} {n:Nt} {sq:List Int} (h:NoteAt K H (.ref a) n∧LamM H f cS b ob∧SqT K H b (sq.map V.int)∧sq.length=5) (k:(okN sq n=false→∀ C H',PySem.W.nsIn K mainGlobals "TooFar"=some (some (.ref C))→Same H H'→E (.ref C) none H')∧(okN sq n=true→∀ p H',Same H H'→NoteAt K H' (.ref p) (mvN sq n)→Q (.ref p) H')):sp_note_changed K [.ref a,.ref f] H Q E:=let ⟨h1,h2,h3,h4⟩:=h;⟨a,f,cS,b,ob,n,sq,rfl,h1,h2,h3,h4,k⟩
theorem c_bar_changed {a f cS b:Addr} {ob:Obj} {xs:List V} {ns:List Nt} {sq:List Int} (h:SqL K H a xs∧NotesL K H xs ns∧ns.length≤100∧LamM H f cS b ob∧SqT K H b (sq.map V.int)∧sq.length=5) (k:((∃ n∈ns,okN sq n=false)→∀ C H',PySem.W.nsIn K mainGlobals "TooFar"=some (some (.ref C))→Same H H'→E (.ref C) none H')∧((∀ n∈ns,okN sq n=true)→∀ l' H' ys,H l'=none→Same H H'→H' l'=some (.lst ys)→NotesL K H' ys (ns.map (mvN sq))→Q (.ref l') H')):sp_bar_changed K [.ref a,.ref f] H Q E:=let ⟨h1,h2,h3,h4,h5,h6⟩:=h;⟨a,f,cS,b,ob,xs,ns,sq,rfl,h1,h2,h3,h4,h5,h6,k⟩
theorem c_changed {a m l f cS b:Addr} {mt:Int×Int} {ob:Obj} {xs:List V} {bs:List (List Nt)} {sq:List Int} (h:TuneAt K H a m l mt xs bs∧bs.length≤100∧(∀ ns∈bs,ns.length≤100)∧LamM H f cS b ob∧SqT K H b (sq.map V.int)∧sq.length=5) (k:((∃ ns∈bs,∃ n∈ns,okN sq n=false)→∀ C H',PySem.W.nsIn K mainGlobals "TooFar"=some (some (.ref C))→Same H H'→E (.ref C) none H')∧((∀ ns∈bs,∀ n∈ns,okN sq n=true)→∀ t' l' H' ys,H l'=none→Same H H'→(∀ x∈ys,∃ b,x=V.ref b∧H b=none)→TuneAt K H' t' m l' mt ys (bs.map fun ns=>ns.map (mvN sq))→Q (.ref t') H')):sp_changed K [.ref a,.ref f] H Q E:=let ⟨h1,h2,h3,h4,h5,h6⟩:=h;⟨a,m,l,f,cS,b,mt,ob,xs,bs,sq,rfl,h1,h2,h3,h4,h5,h6,k⟩
theorem c_moved {a m l b:Addr} {mt:Int×Int} {xs:List V} {bs:List (List Nt)} {sq:List Int} (h:TuneAt K H a m l mt xs bs∧bs.length≤100∧(∀ ns∈bs,ns.length≤100)∧SqT K H b (sq.map V.int)∧sq.length=5∧TabK K H) (k:((∃ ns∈bs,∃ n∈ns,okN sq n=false)→∀ C H',PySem.W.nsIn K mainGlobals "TooFar"=some (some (.ref C))→SmT K H H'→TabK K H'→E (.ref C) none H')∧((∀ ns∈bs,∀ n∈ns,okN sq n=true)→∀ t' l' H' ys,H l'=none→SmT K H H'→TabK K H'→(∀ x∈ys,∃ b,x=V.ref b∧H b=none)→TuneAt K H' t' m l' mt ys (bs.map fun ns=>ns.map (mvN sq))→Q (.ref t') H')):sp_moved K [.ref a,.ref b] H Q E:=let ⟨h1,h2,h3,h4,h5,h6⟩:=h;⟨a,m,l,b,mt,xs,bs,sq,rfl,h1,h2,h3,h4,h5,h6,k⟩
theorem c_mover {b:Addr} {sq:List Int} (h:SqT K H b (sq.map V.int)∧sq.length=5∧TabK K H) (k:∀ (f cS:Addr) (ob:Obj) H',SmT K H H'→TabK K H'→MovL H' f cS b ob→Q (.ref f) H'):sp_mover K [.ref b] H Q E:=⟨b,sq,rfl,h.1,h.2.1,h.2.2,k⟩
theorem c_law_cell_at {a:Addr} {ns:List Int} {j:Int} (ha:SqL K H a (ns.map V.int)) (h0:0≤j) (k:Q (.int (ns.getD j.toNat 0)) H):sp_law_cell_at K [.ref a,.int j] H Q E:=⟨a,ns,j,rfl,ha,h0,k⟩
theorem c_law_lowest {t b:Nat} (h0:0<b) (h9:b<2 ^ 9000) (k:∀ p H',Same H H'→H' p=some (.tup [.int (t / Nat.gcd t b:Nat),.int (b / Nat.gcd t b:Nat)])→Q (.ref p) H'):sp_law_lowest K [.int t,.int b] H Q E:=⟨t,b,rfl,h0,h9,k⟩
theorem c_law_mixed {c j:Int} (hj:0≤j∧j≤1000) (k:∀ m:Int,0≤m→m<999983→Q (.int m) H):sp_law_mixed K [.int c,.int j] H Q E:=⟨c,j,rfl,hj,k⟩
theorem c_law_alike {n:Nat} {x y:V} (h:Alk K n H x y) (k:∀ H',Same H H'→Q (.bl true) H'):sp_law_alike K n [x,y] H Q E:=⟨x,y,rfl,h,k⟩
theorem c_law_name_row {c:Int} (hc:0≤c∧c≤1000000) (k:∀ (p:Addr) H' (z:Str) (v:V) (o:Option (List Int)),Same H H'→H' p=some (.tup [.str z,v])→ToneV K H' v o→NamO z o→Q (.ref p) H'):sp_law_name_row K [.int c] H Q E:=⟨c,rfl,hc,k⟩
theorem c_law_pieces {c:Int} {n t:Nat} (h:1≤n∧n≤12∧n≤t∧t≤100) (k:∀ (l:Addr) H' (ps:List Int),H l=none→Same H H'→H' l=some (.lst (ps.map V.int))→ps.length=n→(∀ p∈ps,1≤p∧p≤t)→ps.sum=(t:Int)→Q (.ref l) H'):sp_law_pieces K [.int c,.int n,.int t] H Q E:=let ⟨h1,h2,h3,h4⟩:=h;⟨c,n,t,rfl,h1,h2,h3,h4,k⟩
theorem c_law_tune {a:Addr} {ns:List Int} {j:Int} (h:SqL K H a (ns.map V.int)∧0≤j∧j≤100) (k:∀ (t m l:Addr) H' (mt:Int×Int) (xs:List V) (bs:List (List Nt)),Same H H'→TuneAt K H' t m l mt xs bs→TunOk mt bs→Q (.ref t) H'):sp_law_tune K [.ref a,.int j] H Q E:=let ⟨h1,h2,h3⟩:=h;⟨a,ns,j,rfl,h1,h2,h3,k⟩
theorem c_law_copy {a m l:Addr} {mt:Int×Int} {xs:List V} {bs:List (List Nt)} (h:TuneAt K H a m l mt xs bs∧bs.length≤12) (k:∀ (t' l':Addr) H' (ys:List V),H l'=none→Same H H'→TuneAt K H' t' m l' mt ys bs→Q (.ref t') H'):sp_law_copy K [.ref a] H Q E:=⟨a,m,l,mt,xs,bs,rfl,h.1,h.2,k⟩
theorem c_law_put {a m l b:Addr} {mt:Int×Int} {xs:List V} {bs:List (List Nt)} {sq:List Int} (h:TuneAt K H a m l mt xs bs∧bs.length≤12∧(∀ ns∈bs,ns.length≤12)∧SqT K H b (sq.map V.int)∧sq.length=5) (k:∀ (t' l':Addr) H' (ys:List V),H l'=none→Same H H'→TuneAt K H' t' m l' mt ys (bs.map fun ns=>ns.map (mvN sq))→Q (.ref t') H'):sp_law_put K [.ref a,.ref b] H Q E:=let ⟨h1,h2,h3,h4,h5⟩:=h;⟨a,m,l,b,mt,xs,bs,sq,rfl,h1,h2,h3,h4,h5,k⟩
theorem c_law_fits {a m l:Addr} {mt:Int×Int} {xs:List V} {bs:List (List Nt)} (h:TuneAt K H a m l mt xs bs∧bs.length≤12∧(∀ ns∈bs,ns.length≤12)) (k:((∃ ns∈bs,∃ n∈ns,okT n=false)→∀ H',Same H H'→Q (.bl false) H')∧((∀ ns∈bs,∀ n∈ns,okT n=true)→∀ H',Same H H'→Q (.bl true) H')):sp_law_fits K [.ref a] H Q E:=⟨a,m,l,mt,xs,bs,rfl,h.1,h.2.1,h.2.2,k⟩
theorem c_law_span {a:Addr} {ns:List Int} {j:Int} {wd:Bool} (h:SqL K H a (ns.map V.int)∧0≤j∧j≤100) (k:∀ (p:Addr) H' (sq:List Int),Same H H'→H' p=some (.tup (sq.map V.int))→sq.length=5→(∀ (n:Nat) (x b:Int),sq[n]?=some x→(bdW wd)[n]?=some b→-b≤x∧x≤b)→Q (.ref p) H'):sp_law_span K [.ref a,.int j,.bl wd] H Q E:=let ⟨h1,h2,h3⟩:=h;⟨a,ns,j,wd,rfl,h1,h2,h3,k⟩
theorem c_law_told {f cS b a m l:Addr} {ob:Obj} {mt:Int×Int} {xs:List V} {bs:List (List Nt)} {sq:List Int} (h:MovL H f cS b ob∧TuneAt K H a m l mt xs bs∧bs.length≤100∧(∀ ns∈bs,ns.length≤100)∧SqT K H b (sq.map V.int)∧sq.length=5∧TabK K H) (k:((∃ ns∈bs,∃ n∈ns,okN sq n=false)→∀ p H',SmT K H H'→TabK K H'→H' p=some (.tup [.str (PySem.Str.ofString "refused")])→Q (.ref p) H')∧((∀ ns∈bs,∀ n∈ns,okN sq n=true)→∀ t' l' H' ys,SmT K H H'→TabK K H'→TuneAt K H' t' m l' mt ys (bs.map fun ns=>ns.map (mvN sq))→Q (.ref t') H')):sp_law_told K [.ref f,.ref a] H Q E:=let ⟨h1,h2,h3,h4,h5,h6,h7⟩:=h;⟨f,cS,b,a,m,l,ob,mt,xs,bs,sq,rfl,h1,h2,h3,h4,h5,h6,h7,k⟩
end
local macro_rules|`(tactic| walk_at "hf") => `(tactic| first|assumption|exact L2.SqT.of (by assumption)|exact L2.SqL.of (by assumption)|exact L2.Fixed.at (by assumption)|((with_reducible apply L2.sqt_sq);(walk_at "hf"))|((with_reducible apply L2.sql_sq);(walk_at "hf"))|((with_reducible apply L2.Same.at);(assumption);(walk_at "hf"))|((with_reducible apply L2.Same.seq);(assumption);(walk_at "hf"))|((with_reducible apply L2.Same.lst);(assumption);(walk_at "hf"))|((with_reducible apply L2.Same.sq);(assumption);(walk_at "hf")))
local macro_rules|`(tactic| walk_at "sm") => `(tactic| first|exact L2.Same.refl _|assumption|((refine L2.Same.trans ?_ (by assumption));walk_at "sm"))
local macro_rules|`(tactic| walk_at "side") => `(tactic| first|(show (0 : Int)<_;first|decide|lia)|exact⟨by decide, by decide⟩|exact⟨by lia, by lia⟩|exact Or.inl ⟨by decide, by decide⟩|exact Or.inr ⟨by decide, by decide⟩|exact Or.inr ⟨by lia, by lia⟩|exact Or.inl ⟨by lia, by lia⟩|exact⟨by decide, by decide, by decide⟩|assumption)
local macro_rules|`(tactic| walk_at "p") => `(tactic| first
 | (with_reducible refine L2.r_seq ?_)|(with_reducible refine L2.r_asg ?_)|(with_reducible refine L2.r_gname ?_)|(with_reducible refine L2.r_ret ?_)|(with_reducible refine L2.r_drop ?_)|(with_reducible refine L2.r_next ?_)
 | ((with_reducible apply L2.r_var);(exact rfl))|(with_reducible refine L2.r_c ?_)|(with_reducible refine L2.r_op ?_)|(with_reducible refine L2.r_un ?_)|(with_reducible refine L2.r_b ?_)|(with_reducible refine L2.r_test ?_)|(with_reducible refine L2.r_isbl ?_)
 | (with_reducible refine L2.r_and ?_)|(with_reducible refine L2.r_or ?_)|(with_reducible refine L2.r_not ?_)|(with_reducible refine L2.r_andV ?_)|(with_reducible refine L2.r_orV ?_)|(with_reducible refine L2.r_notV ?_)|(with_reducible refine L2.r_ife ?_)
 | (with_reducible refine L2.r_I0 ?_)|((with_reducible refine L2.r_I ?_ ?_);(walk_at "side"))|(with_reducible refine L2.r_U ?_)|(with_reducible refine L2.r_eqI ?_)|(with_reducible refine L2.r_neI ?_)|(with_reducible refine L2.r_nil ?_)|(with_reducible refine L2.r_cons ?_)|(with_reducible refine L2.r_tup ?_)|(with_reducible refine L2.r_lst ?_)|((with_reducible refine L2.r_newT ?_ ?_);(first|exact Nat.le_of_ble_eq_true rfl|(focus (simp;done))|(focus (simp;lia)));intro p_ H_ s_ m_)|((with_reducible refine L2.r_newL ?_ ?_);(first|exact Nat.le_of_ble_eq_true rfl|(focus (simp;done))|(focus (simp;lia)));intro p_ H_ n_ s_ m_)
 | (with_reducible refine L2.r_cb ?_)|(with_reducible refine L2.r_call0 ?_)|(with_reducible refine L2.r_comp ?_)|(with_reducible refine L2.r_sl ?_)|(with_reducible refine L2.r_nopart ?_)|(with_reducible refine L2.r_part ?_)|(with_reducible refine L2.r_isint ?_)|(with_reducible refine L2.r_bm ?_)|(with_reducible refine L2.r_for ?_)|(with_reducible refine L2.r_ilist ?_)|(with_reducible refine L2.r_itup ?_)|(with_reducible refine L2.r_irng ?_)|(with_reducible refine L2.r_izip ?_)
 | ((with_reducible apply L2.r_isl);(walk_at "hf"))|((with_reducible apply L2.r_ist);(walk_at "hf"))|((with_reducible refine L2.r_isr ?_ ?_ ?_);(first|decide|lia);(first|decide|lia))|((with_reducible apply L2.r_isz);(walk_at "hf");(walk_at "hf"))
 | ((with_reducible apply L2.r_lenT);(walk_at "hf"))|((with_reducible apply L2.r_lenL);(walk_at "hf"))
 | ((with_reducible apply L2.r_tupleL);(walk_at "hf");intro p_ H_ s_ m_)|((with_reducible apply L2.r_listL);(walk_at "hf");intro p_ H_ n_ s_ m_)|(with_reducible refine L2.r_abs ?_)|((with_reducible apply L2.r_isiT);(walk_at "hf");(first|exact L2.kit_same _ _|exact rfl))|((with_reducible apply L2.r_isiL);(walk_at "hf");(first|exact L2.kit_same _ _|exact rfl))|((with_reducible apply L2.r_isiI);(first|exact L2.kit_same _ _|exact rfl))|((with_reducible apply L2.r_isiB);(first|exact L2.kit_same _ _|exact rfl))
 | ((with_reducible refine L2.r_typed ?_ ?_);(first|exact rfl|exact Or.inl ⟨rfl,_,by walk_at "hf"⟩))
 | ((with_reducible apply L2.r_cat);(walk_at "hf");(walk_at "hf");(first|exact Nat.le_of_ble_eq_true rfl|(focus (simp;done))|(focus (simp;lia)));intro p_ H_ n_ s_ m_)
 | ((with_reducible apply L2.r_slT1);(walk_at "hf");intro p_ H_ s_ m_)
 | ((with_reducible apply L2.r_catT);(walk_at "hf");(walk_at "hf");(exact List.cons_ne_nil _ _);(exact List.cons_ne_nil _ _);(first|exact Nat.le_of_ble_eq_true rfl|(focus (simp;done))|(focus (simp;lia)));intro p_ H_ s_ m_)
 | (with_reducible refine L2.r_izip3 ?_)|((with_reducible apply L2.r_isz3);(walk_at "hf");(walk_at "hf");(walk_at "hf"))|((with_reducible apply L2.r_isiN);(exact rfl))|((with_reducible apply L2.r_isiS);(exact rfl))|(with_reducible refine L2.r_callX ?_)|(with_reducible refine L2.r_raise ?_)|(with_reducible refine L2.r_tryN ?_)|(with_reducible refine L2.r_par ?_)|(with_reducible refine L2.r_two ?_)
 | (with_reducible refine L2.r_ienum ?_)|((with_reducible apply L2.r_isn);(walk_at "hf")))
local macro_rules|`(tactic| walk_at "q") => `(tactic| first|(walk_at "p")|(with_reducible refine L2.r_ifs ?_))
local macro_rules|`(tactic| walk_at "x") => `(tactic| first|((with_reducible apply L2.r_ixT);(walk_at "hf");(exact rfl))|((with_reducible apply L2.r_ixL);(walk_at "hf");(exact rfl)))
local macro_rules|`(tactic| walk_at "r") => `(tactic| first|(walk_at "q")|(walk_at "x"))
local macro_rules|`(tactic| walk_at "v") => `(tactic| repeat walk_at "q")
local macro_rules|`(tactic| walk_at "j") => `(tactic| repeat (first|(walk_at "p")|(walk_at "x")))
local macro_rules|`(tactic| walk_at "sz") => `(tactic| first|exact L2.small2000 (by lia)|decide|exact L2.small2000 (by simp only [PySem.strLen_append];lia)|assumption)
local macro_rules|`(tactic| walk_at "p") => `(tactic| first|((with_reducible refine L2.r_lstC ?_ ?_);(exact Nat.le_of_ble_eq_true rfl);intro p_ H_ n_ s_ m_)|((with_reducible refine L2.r_addS ?_ ?_);(walk_at "sz"))|(with_reducible refine L2.r_eqS ?_) )
local macro_rules|`(tactic| walk_at "p") => `(tactic| ((with_reducible apply c_times);(walk_at "hf");(walk_at "hf");intro p_ H_ s_ m_))
local macro_rules|`(tactic| walk_at "p") => `(tactic| ((with_reducible apply c_law_cell_at);(walk_at "hf");(first|decide|lia)))
local macro_rules|`(tactic| walk_at "w") => `(tactic| repeat walk_at "r")
section
variable {P:Program} {w:World} {K:PySem.W.Frag} {mg:Str→Option Value} {base:Heap} {G:Adr}
theorem sc_is_whole:FnScope ["thing"] ["thing"] (defScope s_is_whole):=⟨rfl,rfl,rfl,by decide +kernel,rfl,by decide +kernel,by decide +kernel⟩
theorem ok_is_whole (D:Def K mg "is_whole" s_is_whole ["thing"]) (T:Txt K mg G):Ok P w K mg base 1 "is_whole" ["thing"] (sp_is_whole K):=by
 have S:=sc_is_whole
 refine D.ok S (fun vs H Q E h=>?_) (fun f cdv A outer s H vs Q E hr h=>?_)
 ·obtain ⟨v,rfl,hv,k⟩:=h;rfl
 ·obtain ⟨v,rfl,hv,k⟩:=h
  have hu:=hu_of hr
  have q_ONE:=T.q_ONE
  have q_BOUNDS:=T.q_BOUNDS
  refine⟨_,(pss_one (ps_ret (pe_and (pe_callB (kN_isinst K rfl) rfl T.b_isinstance PyProof.Rows.boot_isinstance (pa_cons (pv 0) (pa_cons (pe_bltn (v:=V.ty "int") rfl T.b_int PyProof.Rows.boot_int rfl) pa_nil))) (pe_one (pe_not (pe_callB (kN_isinst K rfl) rfl T.b_isinstance PyProof.Rows.boot_isinstance (pa_cons (pv 0) (pa_cons (pe_bltn (v:=V.ty "bool") rfl T.b_bool PyProof.Rows.boot_bool rfl) pa_nil)))))))),?_⟩
  rcases hv with ⟨i,rfl⟩|⟨b,rfl⟩|rfl|⟨s,rfl⟩|⟨a,xs,rfl,hs⟩|⟨a,xs,rfl,hs⟩
  ·walk_at "w"
   refine iteT ?_
   walk_at "w"
   exact k
  ·walk_at "w"
   refine iteT ?_
   walk_at "w"
   exact k
  all_goals
   walk_at "w"
   refine iteF ?_
   walk_at "w"
   exact k
theorem sc_is_row:FnScope ["thing"] ["thing"] (defScope s_is_row):=⟨rfl,rfl,rfl,by decide +kernel,rfl,by decide +kernel,by decide +kernel⟩
structure Os_is_row (P:Program) (w:World) (K:PySem.W.Frag) (mg:Str→Option Value) (base:Heap) (G:Adr):Prop where
 is_whole:Ok P w K mg base 1 "is_whole" ["thing"] (sp_is_whole K)
theorem ok_is_row (D:Def K mg "is_row" s_is_row ["thing"]) (T:Txt K mg G) (O:Os_is_row P w K mg base G):Ok P w K mg base 2 "is_row" ["thing"] (sp_is_row K):=by
 have S:=sc_is_row
 refine D.ok S (fun vs H Q E h=>?_) (fun f cdv A outer s H vs Q E hr h=>?_)
 ·obtain ⟨v,rfl,h⟩:=h;rfl
 ·obtain ⟨v,rfl,h⟩:=h
  have hu:=hu_of hr
  have q_ONE:=T.q_ONE
  have q_BOUNDS:=T.q_BOUNDS
  refine⟨_,(pss_cons (ps_if (PW.pt (pw_or (pt_not (pt_val (pe_callB (kN_isinst K rfl) rfl T.b_isinstance PyProof.Rows.boot_isinstance (pa_cons (pv 0) (pa_cons (pe_bltn (v:=V.ty "tuple") rfl T.b_tuple PyProof.Rows.boot_tuple rfl) pa_nil))))) (pw_or1 (pt_cmpR op_ne (pe_callB (kN_len K rfl) rfl T.b_len PySem.boot_len (pa_cons (pv 0) pa_nil)) (pe_callB (kN_len K rfl) rfl T.b_len PySem.boot_len (pa_cons (pe_glob (v:=V.ref G.a_ONE) rfl T.g_ONE rfl) pa_nil)) (nomark _))))) (pss_one (ps_ret pe_bl)) pss_nil) (pss_one (ps_ret (pe_callB (kN_all K rfl rfl) rfl T.b_all PyProof.Rows.boot_all (pa_cons (pe_comp (N:=["number"]) (ix:=[none]) rfl (kpi_tup K rfl (pv 0)) (fun _ _ _ _ _=>(pg_name (i:=0) (show List.Nodup (["number"]:List Str) by decide +kernel) rfl (Or.inl rfl))) (fun _ _ _ _ _=>rfl) (fun _ _ _ _ _=>(pcall O.is_whole (hr.mono (by decide)) (pa_cons (pv 0) pa_nil))) rfl (by decide +kernel) (by decide +kernel) rfl True.intro) pa_nil))))),?_⟩
  rcases h with ⟨a,xs,rfl,hs,hl,hk,k⟩|⟨hv,k⟩
  ·walk_at "w"
   refine iteF ?_
   walk_at "w"
   refine if_both (fun h1=>?_) (fun h1=>?_)
   ·have h1':xs.length≠5:=fun z=>by rw [z] at h1;simp at h1
    walk_at "w"
    rw [decide_eq_false h1'] at k
    exact k _ (Same.refl _)
   have h1':xs.length=5:=by simp at h1;lia
   walk_at "w"
   refine rd_mapRowV (fun x=>.bl (wh x)) [] rfl hs hl (fun x H' Qc hx s kc=>?_) (fun l H1 hl1 s1 m1=>?_)
   ·walk_at "w"
    refine c_is_whole ((hk x hx).same s) ?_
    walk_at "w"
    exact kc _ (Same.refl _)
   walk_at "w"
   refine r_all (bs:=xs.map wh) (SqL.of (by rw [m1,List.map_map];rfl)) ?_
   walk_at "w"
   rw [decide_eq_true h1',Bool.true_and] at k
   have e:(xs.map wh).all id=xs.all wh:=by rw [List.all_map];rfl
   rw [e]
   exact k _ s1
  ·rcases hv with ⟨i,rfl⟩|rfl|⟨s,rfl⟩|⟨a,xs,rfl,hs⟩
   all_goals
    walk_at "w"
    refine iteT ?_
    walk_at "w"
    exact k
theorem sc_is_tone:FnScope ["thing"] ["thing"] (defScope s_is_tone):=⟨rfl,rfl,rfl,by decide +kernel,rfl,by decide +kernel,by decide +kernel⟩
structure Os_is_tone (P:Program) (w:World) (K:PySem.W.Frag) (mg:Str→Option Value) (base:Heap) (G:Adr):Prop where
 is_row:Ok P w K mg base 2 "is_row" ["thing"] (sp_is_row K)
theorem ok_is_tone (D:Def K mg "is_tone" s_is_tone ["thing"]) (T:Txt K mg G) (O:Os_is_tone P w K mg base G):Ok P w K mg base 3 "is_tone" ["thing"] (sp_is_tone K):=by
 have S:=sc_is_tone
 refine D.ok S (fun vs H Q E h=>?_) (fun f cdv A outer s H vs Q E hr h=>?_)
 ·obtain ⟨v,rfl,h⟩:=h;rfl
 ·obtain ⟨v,rfl,h⟩:=h
  have hu:=hu_of hr
  have q_ONE:=T.q_ONE
  have q_BOUNDS:=T.q_BOUNDS
  refine⟨_,(pss_cons (ps_if (pt_not (pt_val (pcall O.is_row (hr.mono (by decide)) (pa_cons (pv 0) pa_nil)))) (pss_one (ps_ret pe_bl)) pss_nil) (pss_one (ps_ret (pe_callB (kN_all K rfl rfl) rfl T.b_all PyProof.Rows.boot_all (pa_cons (pe_comp (N:=["number","bound"]) (ix:=[none,none]) rfl (kpi_zip2 K rfl true true rfl T.b_zip (pa_cons (pv 0) (pa_cons (pe_glob (v:=V.ref G.a_BOUNDS) rfl T.g_BOUNDS rfl) pa_nil))) (fun _ _ _ _ _=>(kpg_tup (n:=2) K rfl rfl (pgs_cons (pg_name (i:=0) (show List.Nodup (["number","bound"]:List Str) by decide +kernel) rfl (Or.inl rfl)) (pgs_cons (pg_name (i:=1) (show List.Nodup (["number","bound"]:List Str) by decide +kernel) rfl (Or.inl rfl)) pgs_nil)))) (fun _ _ _ _ _=>rfl) (fun _ _ _ _ _=>(pe_cmpR op_le (pe_callB callN_abs rfl T.b_abs PyProof.Rows.boot_abs (pa_cons (pv 0) pa_nil)) (pv 1) (nomark _))) rfl (by decide +kernel) (by decide +kernel) rfl True.intro) pa_nil))))),?_⟩
  rcases h with ⟨a,x0,x1,x2,x3,x4,rfl,hs,k⟩|⟨ho,k⟩
  ·walk_at "w"
   refine c_is_row (.inl ⟨a,_,rfl,hs,(by show 5≤1000;decide),fun x hx=>?_,fun H1 s1=>?_⟩)
   ·simp only [List.mem_cons,List.not_mem_nil,or_false] at hx
    rcases hx with rfl|rfl|rfl|rfl|rfl <;> exact .inl ⟨_,rfl⟩
   walk_at "w"
   refine iteF ?_
   walk_at "w"
   refine rd_compZ (k1:=true) (k2:=true) [] (fun i=>.bl (decide ((if ([x0,x1,x2,x3,x4]:List Int).getD i 0<0 then -([x0,x1,x2,x3,x4]:List Int).getD i 0 else ([x0,x1,x2,x3,x4]:List Int).getD i 0)≤([700,60,60,60,60]:List Int).getD i 0))) rfl (by walk_at "hf") (by walk_at "hf") (by rfl) (by show 5≤1000000;decide) (fun i x y H' Qc ex ey hs kc=>?_) (fun l H2 hl s2 m2=>?_)
   ·have hi:i<5:=(List.getElem?_eq_some_iff.mp ex).1
    match i,hi with
    | 0,_|1,_|2,_|3,_|4,_ =>
     cases ex
     cases ey
     walk_at "w"
     exact kc _ (Same.refl _)
   walk_at "w"
   refine r_all (bs:=[decide ((if x0<0 then -x0 else x0)≤700),decide ((if x1<0 then -x1 else x1)≤60),decide ((if x2<0 then -x2 else x2)≤60),decide ((if x3<0 then -x3 else x3)≤60),decide ((if x4<0 then -x4 else x4)≤60)]) (SqL.of m2) ?_
   walk_at "w"
   exact k _ (by walk_at "sm")
  ·rcases ho with ⟨a,xs,rfl,hs,hl,hk,hf⟩|hn
   ·walk_at "w"
    refine c_is_row (.inl ⟨a,xs,rfl,hs,hl,hk,fun H1 s1=>?_⟩)
    rw [hf]
    walk_at "w"
    refine iteT ?_
    walk_at "w"
    exact k _ s1
   ·walk_at "w"
    refine c_is_row (.inr ⟨hn,?_⟩)
    walk_at "w"
    refine iteT ?_
    walk_at "w"
    exact k _ (Same.refl _)
theorem sc_tone_of:FnScope ["row"] ["row"] (defScope s_tone_of):=⟨rfl,rfl,rfl,by decide +kernel,rfl,by decide +kernel,by decide +kernel⟩
structure Os_tone_of (P:Program) (w:World) (K:PySem.W.Frag) (mg:Str→Option Value) (base:Heap) (G:Adr):Prop where
 is_tone:Ok P w K mg base 3 "is_tone" ["thing"] (sp_is_tone K)
theorem ok_tone_of (D:Def K mg "tone_of" s_tone_of ["row"]) (T:Txt K mg G) (O:Os_tone_of P w K mg base G):OkX P w K mg base 4 "tone_of" ["row"] (sp_tone_of K):=by
 have S:=sc_tone_of
 refine D.okX S (fun vs H Q E h=>?_) (fun f cdv A outer s H vs Q E hr h=>?_)
 ·obtain ⟨a,x0,x1,x2,x3,x4,rfl,ha,ke,kq⟩:=h;rfl
 ·obtain ⟨a,x0,x1,x2,x3,x4,rfl,ha,ke,kq⟩:=h
  have hu:=hu_of hr
  have q_ONE:=T.q_ONE
  have q_BOUNDS:=T.q_BOUNDS
  refine⟨_,(pss_cons (ps_if (pt_not (pt_val (pcall O.is_tone (hr.mono (by decide)) (pa_cons (pv 0) pa_nil)))) (pss_one (ps_raise T.i_TooFar PySem.F.excBase_ValueError (by decide +kernel) PySem.F.excBase_ValueError rfl (fun _ _ z=>z) rfl rfl T.g_TooFar (pa_cons pe_str pa_nil))) pss_nil) (pss_one (ps_ret (pv 0)))),?_⟩
  walk_at "w"
  refine c_is_toneR (by walk_at "hf") fun H1 s1=>?_
  walk_at "w"
  refine if_both (fun h1=>?_) (fun h1=>?_)
  ·walk_at "w"
   exact⟨by decide,ke (by simpa using h1) _ _ T.m_TooFar (by walk_at "sm")⟩
  walk_at "w"
  exact kq (by simpa using h1) _ (by walk_at "sm")
theorem sc_times:FnScope ["one","other"] ["one","other"] (defScope s_times):=⟨rfl,rfl,rfl,by decide +kernel,rfl,by decide +kernel,by decide +kernel⟩
theorem ok_times (D:Def K mg "times" s_times ["one","other"]) (T:Txt K mg G):Ok P w K mg base 1 "times" ["one","other"] (sp_times K):=by
 have S:=sc_times
 refine D.ok S (fun vs H Q E h=>?_) (fun f cdv A outer s H vs Q E hr h=>?_)
 ·obtain ⟨a,b,a0,a1,a2,a3,a4,b0,b1,b2,b3,b4,rfl,ha,hb,k⟩:=h;rfl
 ·obtain ⟨a,b,a0,a1,a2,a3,a4,b0,b1,b2,b3,b4,rfl,ha,hb,k⟩:=h
  have hu:=hu_of hr
  have q_ONE:=T.q_ONE
  have q_BOUNDS:=T.q_BOUNDS
  refine⟨_,(pss_one (ps_ret (pe_callTy (kN_tuple K rfl) rfl T.b_tuple PyProof.Rows.boot_tuple (pa_cons (pe_comp (N:=["number","added"]) (ix:=[none,none]) rfl (kpi_zip2 K rfl true true rfl T.b_zip (pa_cons (pv 0) (pa_cons (pv 1) pa_nil))) (fun _ _ _ _ _=>(kpg_tup (n:=2) K rfl rfl (pgs_cons (pg_name (i:=0) (show List.Nodup (["number","added"]:List Str) by decide +kernel) rfl (Or.inl rfl)) (pgs_cons (pg_name (i:=1) (show List.Nodup (["number","added"]:List Str) by decide +kernel) rfl (Or.inl rfl)) pgs_nil)))) (fun _ _ _ _ _=>rfl) (fun _ _ _ _ _=>(pe_op op_add (pv 0) (pv 1))) rfl (by decide +kernel) (by decide +kernel) rfl True.intro) pa_nil)))),?_⟩
  refine⟨_,rfl,_,rfl,a,b,rfl,⟨_,ha⟩,⟨_,hb⟩,rd_zipRows (r:=[a0,a1,a2,a3,a4]) (q:=[b0,b1,b2,b3,b4]) (·+·) rfl ha hb rfl (by show 5≤1000;decide) fun l H' hl hs hl'=>?_⟩
  exact r_tupleL (SqL.of hl') fun p H2 s2 m=>k p H2 (hs.trans s2) m
theorem sc_note_changed:FnScope ["note","change"] ["note","change"] (defScope s_note_changed):=⟨rfl,rfl,rfl,by decide +kernel,rfl,by decide +kernel,by decide +kernel⟩
structure Os_note_changed (P:Program) (w:World) (K:PySem.W.Frag) (mg:Str→Option Value) (base:Heap) (G:Adr):Prop where
 tone_of:OkX P w K mg base 4 "tone_of" ["row"] (sp_tone_of K)
 times:Ok P w K mg base 1 "times" ["one","other"] (sp_times K)
set_option maxHeartbeats 4000000 in
theorem ok_note_changed (D:Def K mg "note_changed" s_note_changed ["note","change"]) (T:Txt K mg G) (O:Os_note_changed P w K mg base G):OkX P w K mg base 7 "note_changed" ["note","change"] (sp_note_changed K):=by
 have S:=sc_note_changed
 refine D.okX S (fun vs H Q E h=>?_) (fun f cdv A outer s H vs Q E hr h=>?_)
 ·obtain ⟨a,f,cS,b,ob,n,sq,rfl,⟨a',t,l,ea,ha,ht,hl⟩,hLam,hb,lq,kE,kQ⟩:=h;rfl
 ·obtain ⟨a,f,cS,b,ob,n,sq,rfl,⟨a',t,l,ea,ha,ht,hl⟩,hLam,hb,lq,kE,kQ⟩:=h
  have hu:=hu_of hr
  have q_ONE:=T.q_ONE
  have q_BOUNDS:=T.q_BOUNDS
  refine⟨_,(pss_one (ps_ret (pe_tup (pa_cons (pe_ifExp (pt_cmpR op_isN (pe_ix (kx_seq K rfl) (pv 0) pe_int (fun _ _=>rfl)) pe_non (nomark _)) pe_non (pe_callLX (k:=5) (i:=1) (p:="tone") (y:="span") (q:="moved.<locals>.<lambda>") (params:=lamP lmE) (body:=lamB lmE) (scope:=lamS lmE) (hr.mono (by decide)) (fun _ _ z=>z) rfl rfl (Or.inl rfl) (pe_ix (kx_seq K rfl) (pv 0) pe_int (fun _ _=>rfl)) (fun _ _ _ _ _=>rfl) rfl rfl rfl rfl (by decide +kernel) (lam_free1 rfl) rfl (fun _ _ _ _ _ _ _=>(pcallX O.tone_of (((hr.mono (show 4+1≤_ by decide)).deeper _).mono (by decide)) (fun _ _ z=>z) rfl (pa_cons (pcall O.times (((hr.mono (show 4+1≤_ by decide)).deeper _).mono (by decide)) (pa_cons (pv 0) (pa_cons (pv 1) pa_nil))) pa_nil))))) (pa_cons (pe_ix (kx_seq K rfl) (pv 0) pe_int (fun _ _=>rfl)) pa_nil))))),?_⟩
  obtain rfl:a=a':=by cases ea;rfl
  obtain ⟨n1,nt,nb⟩:=n
  obtain ⟨b0,b1,b2,b3,b4,rfl⟩:=Mth.five_of lq
  walk_at "w"
  cases n1 with
  | none =>
   obtain rfl:t=.non:=ht
   refine⟨rfl,?_⟩
   walk_at "w"
   refine if_tt rfl ?_
   walk_at "w"
   rename_i p1 H1 s1 m1
   exact kQ rfl p1 H1 s1 ⟨p1,.non,l,rfl,SqT.of m1,rfl,s1.at hl⟩
  | some r =>
   obtain ⟨ar,rfl,har,l5⟩:=ht
   obtain ⟨r0,r1,r2,r3,r4,rfl⟩:=Mth.five_of l5
   refine⟨rfl,?_⟩
   walk_at "w"
   refine if_ff rfl ?_
   obtain ⟨c',cl,l1,l2,l3,l4,hcS⟩:=id hLam
   refine⟨f,rfl,⟨_,_,_,_,_,_,l1⟩,?_⟩
   walk_at "w"
   refine⟨cS,.ref b,ob,hLam,?_⟩
   have har':SqT K (L2.del H cS) ar [.int r0,.int r1,.int r2,.int r3,.int r4]:=sqT_del har hcS
   have hb':SqT K (L2.del H cS) b [.int b0,.int b1,.int b2,.int b3,.int b4]:=sqT_del hb hcS
   walk_at "w"
   rename_i p2 H2 s2 m2
   refine c_tone_of (SqT.of m2) (fun hf C H3 hC s3=>⟨C,rfl,fun _=>⟨C,rfl,?_⟩⟩) (fun hf H3 s3 hn3=>?_)
   ·exact kE hf C _ hC (Same.del hcS (s2.trans s3))
   ·have sH:=Same.del hcS (s2.trans s3)
    have m3:SqT K (upd H3 cS (cellO cS (.ref b) ob)) p2 [.int (r0+b0),.int (r1+b1),.int (r2+b2),.int (r3+b3),.int (r4+b4)]:=by
     have e3:=s3 _ _ m2
     exact SqT.of (by rw [upd_ne (fun z=>by rw [z,hn3] at e3;cases e3)];exact e3)
    have ha3:=sH.at ha
    have hl3:=sH.at hl
    generalize upd H3 cS (cellO cS (.ref b) ob)=H4 at sH m3 ha3 hl3 ⊢
    walk_at "w"
    rename_i p5 H5 s5 m5
    exact kQ hf p5 H5 (sH.trans s5) ⟨p5,.ref p2,l,rfl,SqT.of m5,⟨p2,rfl,s5.at m3,rfl⟩,s5.at hl3⟩
theorem sc_bar_changed:FnScope ["bar","change"] ["bar","change"] (defScope s_bar_changed):=⟨rfl,rfl,rfl,by decide +kernel,rfl,by decide +kernel,by decide +kernel⟩
structure Os_bar_changed (P:Program) (w:World) (K:PySem.W.Frag) (mg:Str→Option Value) (base:Heap) (G:Adr):Prop where
 note_changed:OkX P w K mg base 7 "note_changed" ["note","change"] (sp_note_changed K)
set_option maxHeartbeats 4000000 in
theorem ok_bar_changed (D:Def K mg "bar_changed" s_bar_changed ["bar","change"]) (T:Txt K mg G) (O:Os_bar_changed P w K mg base G):OkX P w K mg base 8 "bar_changed" ["bar","change"] (sp_bar_changed K):=by
 have S:=sc_bar_changed
 refine D.okP S (fun vs H Q E h=>?_) (fun f cdv A outer s H vs Q E hr h=>?_)
 ·obtain ⟨a,f,cS,b,ob,xs,ns,sq,rfl,ha,hn,h100,hLam,hb,lq,kE,kQ⟩:=h;rfl
 ·obtain ⟨a,f,cS,b,ob,xs,ns,sq,rfl,ha,hn,h100,hLam,hb,lq,kE,kQ⟩:=h
  have hu:=hu_of hr
  have q_ONE:=T.q_ONE
  have q_BOUNDS:=T.q_BOUNDS
  refine⟨_,(pss_one (ps_ret (pe_compX (N:=["note","change"]) (ix:=[none,some 1]) rfl rfl rfl (fun _ _ z=>.inr z) rfl (kpi_list K rfl (pv 0)) (fun _ _ _ _ _=>(pg_name (i:=0) (show List.Nodup (["note","change"]:List Str) by decide +kernel) rfl (Or.inl rfl))) (fun _ _ _ _ _=>rfl) (fun _ _ _ _ _ _ hz=>(pcallXc O.note_changed (hr.mono (by decide)) (fun _ _ z=>z) (fun b hb=>(hz b hb).imp fun _ z=>List.mem_append_right _ z) (pa_cons (pv 0) (pa_cons (pv 1) pa_nil)))) rfl (by decide +kernel) (by decide +kernel) rfl ⟨⟨rfl,Or.inr (Or.inl rfl),rfl,rfl⟩,True.intro⟩))),?_⟩
  have lx:=hn.length
  walk_at "w"
  refine r_compX ?_
  walk_at "w"
  refine comp_gen 1 [some (.ref f)] ns.length (fun l i ys H'=>NotesL K H' ys ((ns.take i).map (mvN sq))∧∀ n∈ns.take i,okN sq n=true) rfl (fun l H' _ _ _=>⟨.nil,by simp⟩) (fun l i ys H' h=>by have:=h.1.length;rw [List.length_map,List.length_take] at this;lia) (fun H' s=>⟨xs,s.seq ha,by lia⟩) (fun i H' hi s=>⟨xs,xs[i]'(by lia),s.seq ha,List.getElem?_eq_getElem (by lia)⟩) (fun l i x H' H2 own ys ho hi hl0 s9 hl' hp hy Qy Qn ky kn=>?_) (fun l H' ys hl0 s9 hl' hp=>?_)
  ·obtain ⟨o1,rfl⟩:∃ o1,own=[o1]:=by match own,ho with|[o1],_=>exact⟨o1,rfl⟩
   obtain ⟨rfl,e⟩:=hy
   obtain ⟨n,hno,hni⟩:=(hn.same s9).get (e xs (s9.seq ha))
   have hnm:n∈ns:=List.mem_of_getElem? hni
   have et:ns.take (i+1)=ns.take i++[n]:=by rw [List.take_add_one,hni];rfl
   obtain ⟨a1,t1,l1,rfl,hno'⟩:=id hno
   walk_at "w"
   refine iteT ?_
   walk_at "w"
   refine c_note_changed ⟨hno,hLam.same s9,s9.at hb,lq⟩ ⟨fun hf C H9 hC s99=>?_,fun hf p H9 s99 hm=>?_⟩
   ·exact⟨C,rfl,kE ⟨n,hnm,hf⟩ C H9 hC (s9.trans s99)⟩
   ·refine ky [some (.ref a1)] _ H9 rfl s99 ⟨?_,fun m hm'=>?_⟩
    ·rw [et,List.map_append]
     exact ((hp.1.same s99).off (s99 _ _ hl')).snoc (hm.off (s99 _ _ hl'))
    ·rw [et] at hm'
     rcases List.mem_append.mp hm' with z|z
     ·exact hp.2 m z
     ·rw [List.mem_singleton.mp z];exact hf
  ·rw [List.take_length] at hp
   exact kQ hp.2 l H' ys hl0 s9 hl' hp.1
theorem sc_changed:FnScope ["tune","change"] ["tune","change"] (defScope s_changed):=⟨rfl,rfl,rfl,by decide +kernel,rfl,by decide +kernel,by decide +kernel⟩
structure Os_changed (P:Program) (w:World) (K:PySem.W.Frag) (mg:Str→Option Value) (base:Heap) (G:Adr):Prop where
 bar_changed:OkX P w K mg base 8 "bar_changed" ["bar","change"] (sp_bar_changed K)
set_option maxHeartbeats 4000000 in
theorem ok_changed (D:Def K mg "changed" s_changed ["tune","change"]) (T:Txt K mg G) (O:Os_changed P w K mg base G):OkX P w K mg base 9 "changed" ["tune","change"] (sp_changed K):=by
 have S:=sc_changed
 refine D.okP S (fun vs H Q E h=>?_) (fun f cdv A outer s H vs Q E hr h=>?_)
 ·obtain ⟨a,m,l,f,cS,b,mt,ob,xs,bs,sq,rfl,⟨ha,hm,hl,hbs⟩,h100,h100n,hLam,hb,lq,kE,kQ⟩:=h;rfl
 ·obtain ⟨a,m,l,f,cS,b,mt,ob,xs,bs,sq,rfl,⟨ha,hm,hl,hbs⟩,h100,h100n,hLam,hb,lq,kE,kQ⟩:=h
  have hu:=hu_of hr
  have q_ONE:=T.q_ONE
  have q_BOUNDS:=T.q_BOUNDS
  refine⟨_,(pss_one (ps_ret (pe_tup (pa_cons (pe_ix (kx_seq K rfl) (pv 0) pe_int (fun _ _=>rfl)) (pa_cons (pe_compX (N:=["bar","change"]) (ix:=[none,some 1]) rfl rfl rfl (fun _ _ z=>.inr z) rfl (kpi_list K rfl (pe_ix (kx_seq K rfl) (pv 0) pe_int (fun _ _=>rfl))) (fun _ _ _ _ _=>(pg_name (i:=0) (show List.Nodup (["bar","change"]:List Str) by decide +kernel) rfl (Or.inl rfl))) (fun _ _ _ _ _=>rfl) (fun _ _ _ _ _ _ hz=>(pcallXc O.bar_changed (hr.mono (by decide)) (fun _ _ z=>z) (fun b hb=>(hz b hb).imp fun _ z=>List.mem_append_right _ z) (pa_cons (pv 0) (pa_cons (pv 1) pa_nil)))) rfl (by decide +kernel) (by decide +kernel) rfl ⟨⟨rfl,Or.inr (Or.inl rfl),rfl,rfl⟩,True.intro⟩) pa_nil))))),?_⟩
  have lx:=hbs.length
  walk_at "w"
  refine r_compX ?_
  walk_at "w"
  refine comp_gen 1 [some (.ref f)] bs.length (fun l i ys H'=>BarsL K H' ys ((bs.take i).map fun ns=>ns.map (mvN sq))∧(V.ref l∉ys)∧(∀ ns∈bs.take i,∀ n∈ns,okN sq n=true)∧∀ x∈ys,∃ b,x=V.ref b∧H b=none) rfl (fun l H' _ _ _=>⟨.nil,(fun z=>nomatch z),by simp,fun _ z=>nomatch z⟩) (fun l i ys H' h=>by have:=h.1.length;rw [List.length_map,List.length_take] at this;lia) (fun H' s=>⟨xs,s.seq (SqL.of hl),by lia⟩) (fun i H' hi s=>⟨xs,xs[i]'(by lia),s.seq (SqL.of hl),List.getElem?_eq_getElem (by lia)⟩) (fun l2 i x H' H2 own ys ho hi hl0 s9 hl' hp hy Qy Qn ky kn=>?_) (fun l2 H' ys hl0 s9 hl' hp=>?_)
  ·obtain ⟨o1,rfl⟩:∃ o1,own=[o1]:=by match own,ho with|[o1],_=>exact⟨o1,rfl⟩
   obtain ⟨rfl,e⟩:=hy
   obtain ⟨a1,zs,ns,rfl,hz,hns,hni⟩:=(hbs.same s9).get (e xs (s9.seq (SqL.of hl)))
   have hnm:ns∈bs:=List.mem_of_getElem? hni
   have et:bs.take (i+1)=bs.take i++[ns]:=by rw [List.take_add_one,hni];rfl
   walk_at "w"
   refine iteT ?_
   walk_at "w"
   refine c_bar_changed ⟨SqL.of hz,hns,h100n ns hnm,hLam.same s9,s9.at hb,lq⟩ ⟨fun hf C H9 hC s99=>?_,fun hf l3 H9 zs9 n9 s99 m9 hm9=>?_⟩
   ·obtain ⟨n,hn1,hn2⟩:=hf
    exact⟨C,rfl,kE ⟨ns,hnm,n,hn1,hn2⟩ C H9 hC (s9.trans s99)⟩
   ·have hl9:=s99 _ _ hl'
    have ne:l3≠l2:=fun z=>by rw [z,hl'] at n9;cases n9
    refine ky [some (.ref a1)] _ H9 rfl s99 ⟨?_,fun z=>?_,fun q hq=>?_,fun x hx=>?_⟩
    ·rw [et,List.map_append]
     exact ((hp.1.same s99).off hl9 hp.2.1).snoc (by rw [upd_ne ne];exact m9) (hm9.off hl9)
    ·rcases List.mem_append.mp z with z|z
     ·exact hp.2.1 z
     ·have:=List.mem_singleton.mp z
      cases this
      exact ne rfl
    ·rw [et] at hq
     rcases List.mem_append.mp hq with z|z
     ·exact hp.2.2.1 q z
     ·rw [List.mem_singleton.mp z];exact hf
    ·rcases List.mem_append.mp hx with z|z
     ·exact hp.2.2.2 x z
     ·exact⟨l3,List.mem_singleton.mp z,s9.new n9⟩
  ·rw [List.take_length] at hp
   have ha9:=s9.at ha
   walk_at "w"
   rename_i p5 H5 s5 m5
   exact kQ hp.2.2.1 p5 l2 H5 ys hl0 (s9.trans s5) hp.2.2.2 ⟨SqT.of m5,(s9.trans s5).at hm,s5 _ _ hl',hp.1.same s5⟩
theorem sc_moved:FnScope ["tune","span"] ["tune","span"] (defScope s_moved):=⟨rfl,rfl,rfl,by decide +kernel,rfl,by decide +kernel,by decide +kernel⟩
structure Os_moved (P:Program) (w:World) (K:PySem.W.Frag) (mg:Str→Option Value) (base:Heap) (G:Adr):Prop where
 tone_of:OkX P w K mg base 4 "tone_of" ["row"] (sp_tone_of K)
 times:Ok P w K mg base 1 "times" ["one","other"] (sp_times K)
 changed:OkX P w K mg base 9 "changed" ["tune","change"] (sp_changed K)
set_option maxHeartbeats 4000000 in
theorem ok_moved (D:DefT K mg "moved" s_moved ["tune","span"] G.c_lam_moved) (T:Txt K mg G) (O:Os_moved P w K mg base G) (B:PySem.W.CodeHd base G.c_lam_moved (tabP K "moved")∧base.BuiltinsAt mg (tabP K "moved")):OkX P w K mg base 10 "moved" ["tune","span"] (sp_moved K):=by
 have S:=sc_moved
 refine D.okX S (fun vs H Q E h=>?_) (fun f A outer s H vs Q E hr h=>?_)
 ·obtain ⟨a,m,l,b,mt,xs,bs,sq,rfl,hTu,h100,h100n,hb,lq,hT,kE,kQ⟩:=h;rfl
 ·obtain ⟨a,m,l,b,mt,xs,bs,sq,rfl,hTu,h100,h100n,hb,lq,hT,kE,kQ⟩:=h
  have hu:=hu_of hr
  have q_ONE:=T.q_ONE
  have q_BOUNDS:=T.q_BOUNDS
  refine⟨_,(pss_one (ps_ret (pcallCX (y:="span") (j:=1) O.changed (hr.mono (by decide)) (fun _ _ z=>z) rfl (pa_cons (pv 0) (pa_cons (pe_lamE (q:="moved.<locals>.<lambda>") (lp:=lmL) rfl rfl B.1 B.2 rfl rfl) pa_nil)) rfl (Or.inr (Or.inl rfl)) rfl rfl))),?_⟩
  obtain ⟨tu1,tu2,tu3,tu4⟩:=hTu
  walk_at "w"
  refine⟨.ref a,rfl,hT.2 _ (.head _),fun f1 c1 H1 smq hTq hf1 hc1=>?_⟩
  have hT1:TabK K H1:=TabsH.step (t:=(tabP K "moved",lmL,"moved.<locals>.<lambda>")) hT (.head _) smq hTq
  have sm1:SmT K H H1:=SameT.s (t:=(tabP K "moved",lmL,"moved.<locals>.<lambda>")) smq (.head _)
  clear smq hTq
  refine⟨.ref b,rfl,fun c ob hcl hn=>?_⟩
  have tu:TuneAt K H1 a m l mt xs bs:=⟨sm1.at hT tu1,sm1.at hT tu2,sm1.lst hT tu3,tu4.keep hT sm1⟩
  have sc:Same H1 (upd H1 c (cellO c (.ref b) ob)):=Same.upd_new hn
  have hone:=clOf_one (y:="span") (names:=(lamS lmE).names) rfl (by decide) hcl
  have hLam:LamM (upd H1 c (cellO c (.ref b) ob)) f1 c b ob:=⟨c1,_,sc _ _ hf1,sc _ _ hc1,hone.1,hone.2,upd_same⟩
  refine c_changed ⟨tu.same sc,h100,h100n,hLam,sc.at (sm1.at hT hb),lq⟩ ⟨fun hbad C H2 hC s2=>?_,fun hgood t2 l2 H2 ys n2 s2 f2 h2=>?_⟩
  ·refine⟨s2 _ _ upd_same,C,rfl,kE hbad C _ hC (sm1.trans (SameS.of (Same.lent hn s2))) (hT1.same (Same.lent hn s2))⟩
  ·refine⟨s2 _ _ upd_same,kQ hgood t2 l2 _ ys ?_ (sm1.trans (SameS.of (Same.lent hn s2))) (hT1.same (Same.lent hn s2)) (fun x hx=>?_) ?_⟩
   ·exact sm1.new hT1 (sc.new n2)
   ·obtain ⟨b3,rfl,n3⟩:=f2 x hx
    exact⟨b3,rfl,sm1.new hT1 (sc.new n3)⟩
   ·exact h2.del (s2 _ _ upd_same)
theorem sc_mover:FnScope ["span"] ["span"] (defScope s_mover):=⟨rfl,rfl,rfl,by decide +kernel,rfl,by decide +kernel,by decide +kernel⟩
structure Os_mover (P:Program) (w:World) (K:PySem.W.Frag) (mg:Str→Option Value) (base:Heap) (G:Adr):Prop where
 moved:OkX P w K mg base 10 "moved" ["tune","span"] (sp_moved K)
set_option maxHeartbeats 4000000 in
theorem ok_mover (D:DefT K mg "mover" s_mover ["span"] G.c_lam_mover) (T:Txt K mg G) (O:Os_mover P w K mg base G) (B:PySem.W.CodeHd base G.c_lam_mover (tabP K "mover")∧base.BuiltinsAt mg (tabP K "mover")):Ok P w K mg base 11 "mover" ["span"] (sp_mover K):=by
 have S:=sc_mover
 refine D.okK "span" 0 _ _ rfl S rfl rfl (fun vs H Q E h=>?_) (fun f A outer s H vs Q E hr h=>?_)
 ·obtain ⟨b,sq,rfl,hb,lq,hT,k⟩:=h;rfl
 ·obtain ⟨b,sq,rfl,hb,lq,hT,k⟩:=h
  have hu:=hu_of hr
  have q_ONE:=T.q_ONE
  have q_BOUNDS:=T.q_BOUNDS
  refine⟨_,_,(pe_lamE (q:="mover.<locals>.<lambda>") (lp:=mvL) rfl rfl B.1 B.2 rfl rfl),rfl,?_⟩
  refine⟨hT.2 _ (.tail _ (.head _)),fun f1 c1 H1 smq hTq hf1 hc1 c ob hcl hn=>?_⟩
  have hT1:TabK K H1:=TabsH.step (t:=(tabP K "mover",mvL,"mover.<locals>.<lambda>")) hT (.tail _ (.head _)) smq hTq
  have sm1:SmT K H H1:=SameT.s (t:=(tabP K "mover",mvL,"mover.<locals>.<lambda>")) smq (.tail _ (.head _))
  have sc:Same H1 (upd H1 c (cellO c (.ref b) ob)):=Same.upd_new hn
  have hone:=clOf_one (y:="span") (names:=(lamS mvE).names) rfl (by decide) hcl
  exact k f1 c ob _ (sm1.trans (SameS.of sc)) (hT1.same sc) ⟨c1,_,sc _ _ hf1,sc _ _ hc1,hone.1,hone.2,upd_same⟩
theorem sc_law_cell_at:FnScope ["_law_script","_law_k"] ["_law_script","_law_k"] (defScope s_law_cell_at):=⟨rfl,rfl,rfl,by decide +kernel,rfl,by decide +kernel,by decide +kernel⟩
theorem ok_law_cell_at (D:Def K mg "_law_cell_at" s_law_cell_at ["_law_script","_law_k"]) (T:Txt K mg G):Ok P w K mg base 1 "_law_cell_at" ["_law_script","_law_k"] (sp_law_cell_at K):=by
 have S:=sc_law_cell_at
 refine D.ok S (fun vs H Q E h=>?_) (fun f cdv A outer s H vs Q E hr h=>?_)
 ·obtain ⟨a,ns,k,rfl,hs,h0,hQ⟩:=h;rfl
 ·obtain ⟨a,ns,k,rfl,hs,h0,hQ⟩:=h
  have hu:=hu_of hr
  have q_ONE:=T.q_ONE
  have q_BOUNDS:=T.q_BOUNDS
  refine⟨_,(pss_cons (ps_if (pt_cmpR op_lt (pv 1) (pe_callB (kN_len K rfl) rfl T.b_len PySem.boot_len (pa_cons (pv 0) pa_nil)) (nomark _)) (pss_one (ps_ret (pe_ix (kx_seq K rfl) (pv 0) (pv 1) (fun _ _=>rfl)))) pss_nil) (pss_one (ps_ret pe_int))),?_⟩
  walk_at "w"
  refine if_both (fun hc=>?_) (fun hc=>?_)
  ·have hlt:k.toNat<ns.length:=by simp at hc;lia
   obtain ⟨j,rfl⟩:=Int.eq_ofNat_of_zero_le h0
   repeat walk_at "r"
   exact r_ixL hs (atI_nat (int_at (by simpa using hlt))) hQ
  ·have hge:ns.length≤k.toNat:=by simp at hc;lia
   have e:ns.getD k.toNat 0=0:=by rw [List.getD,List.getElem?_eq_none hge];rfl
   rw [e] at hQ
   walk_at "w"
   exact hQ
theorem sc_law_lowest:FnScope ["_law_top","_law_bottom","_law_one","_law_other"] ["_law_top","_law_bottom"] (defScope s_law_lowest):=⟨rfl,rfl,rfl,by decide +kernel,rfl,by decide +kernel,by decide +kernel⟩
theorem ok_law_lowest (D:Def K mg "_law_lowest" s_law_lowest ["_law_top","_law_bottom"]) (T:Txt K mg G):Ok P w K mg base 1 "_law_lowest" ["_law_top","_law_bottom"] (sp_law_lowest K):=by
 have S:=sc_law_lowest
 refine D.ok S (fun vs H Q E h=>?_) (fun f cdv A outer s H vs Q E hr h=>?_)
 ·obtain ⟨t,b,rfl,h0,h9,k⟩:=h;rfl
 ·obtain ⟨t,b,rfl,h0,h9,k⟩:=h
  have hu:=hu_of hr
  have q_ONE:=T.q_ONE
  have q_BOUNDS:=T.q_BOUNDS
  refine⟨_,(pss_cons (ps_set (i:=2) S.nd rfl (Or.inl rfl) (pv 0)) (pss_cons (ps_set (i:=3) S.nd rfl (Or.inl rfl) (pv 1)) (pss_cons (ps_while PassesOwn.never (pt_cmpR op_ne (pv 3) pe_int (nomark _)) (pss_one (ps_par (i:=2) (j:=3) rfl S.nd rfl rfl (by decide) rfl rfl (pa_cons (pv 3) (pa_cons (pe_op op_mod (pv 2) (pv 3)) pa_nil)) rfl))) (pss_one (ps_ret (pe_tup (pa_cons (pe_op op_fdivB (pv 0) (pv 2)) (pa_cons (pe_op op_fdivB (pv 1) (pv 2)) pa_nil)))))))),?_⟩
  walk_at "w"
  have hg:0<Nat.gcd t b:=Nat.gcd_pos_of_pos_right _ h0
  have hl:=logN hg (Nat.lt_of_le_of_lt (gcd_le h0) h9)
  have hgi:(0:Int)<(Nat.gcd t b:Nat):=by lia
  refine join (fun σ' H'=>σ'=[some (.int t),some (.int b),some (.int (Nat.gcd t b:Nat)),some (.int 0)]∧H'=H) (fun nx hnx=>?_) (fun σ' H' hP=>?_)
  ·refine f_while (fun m σ' H'=>∃ (f:Nat),σ'=[some (.int t),some (.int b),some (.int f),some (.int m)]∧H'=H∧Nat.gcd f m=Nat.gcd t b) b ⟨_,rfl,rfl,rfl⟩ (fun m σ' H' hw=>?_)
   obtain ⟨f,rfl,rfl,hg2⟩:=hw
   walk_at "w"
   refine if_both (fun hc=>?_) (fun hc=>?_)
   ·have hm:0<m:=by simp at hc;lia
    refine w_go ?_
    walk_at "w"
    refine⟨f % m,Nat.mod_lt _ hm,m,by rw [Int.natCast_emod] <;> rfl,rfl,?_⟩
    rw [Mth.gcd_turn]
    exact hg2
   ·have hm:m=0:=by simp at hc;lia
    subst hm
    rw [Nat.gcd_zero_right] at hg2
    subst hg2
    exact hnx _ _ ⟨rfl,rfl⟩
  obtain ⟨rfl,rfl⟩:=hP
  walk_at "w"
  rename_i p2 H2 s2 m2
  refine k _ _ s2 ?_
  rw [m2,Int.natCast_ediv,Int.natCast_ediv]
theorem sc_law_mixed:FnScope ["_law_cell","_law_k","_law_first"] ["_law_cell","_law_k"] (defScope s_law_mixed):=⟨rfl,rfl,rfl,by decide +kernel,rfl,by decide +kernel,by decide +kernel⟩
theorem ok_law_mixed (D:Def K mg "_law_mixed" s_law_mixed ["_law_cell","_law_k"]) (T:Txt K mg G):Ok P w K mg base 1 "_law_mixed" ["_law_cell","_law_k"] (sp_law_mixed K):=by
 have S:=sc_law_mixed
 refine D.ok S (fun vs H Q E h=>?_) (fun f cdv A outer s H vs Q E hr h=>?_)
 ·obtain ⟨c,j,rfl,hj,k⟩:=h;rfl
 ·obtain ⟨c,j,rfl,hj,k⟩:=h
  have hu:=hu_of hr
  have q_ONE:=T.q_ONE
  have q_BOUNDS:=T.q_BOUNDS
  refine⟨_,(pss_cons (ps_set (i:=2) S.nd rfl (Or.inl rfl) (pe_op op_mod (pe_op op_mul (pe_op op_mod (pe_op op_add (pe_op op_add (pe_op op_mul (pe_op op_mod (pv 0) (pe_op op_pow pe_int pe_int)) pe_int) (pe_op op_mul (pe_op op_mul (pv 1) (pv 1)) pe_int)) pe_int) pe_int) pe_int) pe_int)) (pss_one (ps_ret (pe_op op_mod (pe_op op_add (pe_op op_add (pe_op op_mul (pv 2) (pv 2)) (pe_op op_mul pe_int (pv 2))) (pv 1)) pe_int)))),?_⟩
  walk_at "w"
  exact k _ (Int.emod_nonneg _ (by decide)) (Int.emod_lt_of_pos _ (by decide))
theorem sc_law_alike:FnScope ["_law_found","_law_due","_law_one","_law_other"] ["_law_found","_law_due"] (defScope s_law_alike):=⟨rfl,rfl,rfl,by decide +kernel,rfl,by decide +kernel,by decide +kernel⟩
set_option maxHeartbeats 4000000 in
theorem ok_law_alike (D:Def K mg "_law_alike" s_law_alike ["_law_found","_law_due"]) (T:Txt K mg G):∀ n:Nat,Ok P w K mg base (0+n+1) "_law_alike" ["_law_found","_law_due"] (sp_law_alike K n):=by
 have S:=sc_law_alike
 intro n
 induction n with
 | zero=>exact D.ok S (fun vs H Q E h=>absurd h (sp0_law_alike K)) (fun f cdv A outer s H vs Q E hr h=>absurd h (sp0_law_alike K))
 | succ n ih =>
 refine D.ok (k:=0+n+1) S (fun vs H Q E h=>?_) (fun f cdv A outer s H vs Q E hr h=>?_)
 ·obtain ⟨x,y,rfl,hA,k⟩:=h;rfl
 ·obtain ⟨x,y,rfl,hA,k⟩:=h
  have hu:=hu_of hr
  have q_ONE:=T.q_ONE
  have q_BOUNDS:=T.q_BOUNDS
  refine⟨_,(pss_cons (ps_if (PW.pt (pw_or (pt_cmpR op_isN (pv 1) pe_non (nomark _)) (pw_or1 (pt_val (pe_callB (kN_isinst K rfl) rfl T.b_isinstance PyProof.Rows.boot_isinstance (pa_cons (pv 1) (pa_cons (pe_bltn (v:=V.ty "str") rfl T.b_str PyProof.Rows.boot_str rfl) pa_nil))))))) (pss_one (ps_ret (pe_or (pe_and (pe_cmpR op_isN (pv 1) pe_non (nomark _)) (pe_one (pe_cmpR op_isN (pv 0) pe_non (nomark _)))) (pe_one (pe_and (pe_callB (kN_isinst K rfl) rfl T.b_isinstance PyProof.Rows.boot_isinstance (pa_cons (pv 0) (pa_cons (pe_bltn (v:=V.ty "str") rfl T.b_str PyProof.Rows.boot_str rfl) pa_nil))) (pe_one (pe_cmpR op_eq (pv 0) (pv 1) (nomark _)))))))) pss_nil) (pss_cons (ps_if (pt_val (pe_callB (kN_isinst K rfl) rfl T.b_isinstance PyProof.Rows.boot_isinstance (pa_cons (pv 1) (pa_cons (pe_bltn (v:=V.ty "int") rfl T.b_int PyProof.Rows.boot_int rfl) pa_nil)))) (pss_one (ps_ret (pe_and (pe_callB (kN_isinst K rfl) rfl T.b_isinstance PyProof.Rows.boot_isinstance (pa_cons (pv 0) (pa_cons (pe_bltn (v:=V.ty "int") rfl T.b_int PyProof.Rows.boot_int rfl) pa_nil))) (pe_and (pe_not (pe_callB (kN_isinst K rfl) rfl T.b_isinstance PyProof.Rows.boot_isinstance (pa_cons (pv 0) (pa_cons (pe_bltn (v:=V.ty "bool") rfl T.b_bool PyProof.Rows.boot_bool rfl) pa_nil)))) (pe_one (pe_cmpR op_eq (pv 0) (pv 1) (nomark _))))))) pss_nil) (pss_cons (ps_if (PW.pt (pw_or (PW.pt (pw_and (pt_val (pe_callB (kN_isinst K rfl) rfl T.b_isinstance PyProof.Rows.boot_isinstance (pa_cons (pv 1) (pa_cons (pe_bltn (v:=V.ty "tuple") rfl T.b_tuple PyProof.Rows.boot_tuple rfl) pa_nil)))) (pw_and1 (pt_not (pt_val (pe_callB (kN_isinst K rfl) rfl T.b_isinstance PyProof.Rows.boot_isinstance (pa_cons (pv 0) (pa_cons (pe_bltn (v:=V.ty "tuple") rfl T.b_tuple PyProof.Rows.boot_tuple rfl) pa_nil)))))))) (pw_or1 (PW.pt (pw_and (pt_val (pe_callB (kN_isinst K rfl) rfl T.b_isinstance PyProof.Rows.boot_isinstance (pa_cons (pv 1) (pa_cons (pe_bltn (v:=V.ty "list") rfl T.b_list PyProof.Rows.boot_list rfl) pa_nil)))) (pw_and1 (pt_not (pt_val (pe_callB (kN_isinst K rfl) rfl T.b_isinstance PyProof.Rows.boot_isinstance (pa_cons (pv 0) (pa_cons (pe_bltn (v:=V.ty "list") rfl T.b_list PyProof.Rows.boot_list rfl) pa_nil))))))))))) (pss_one (ps_ret pe_bl)) pss_nil) (pss_cons (ps_if (pt_cmpR op_ne (pe_callB (kN_len K rfl) rfl T.b_len PySem.boot_len (pa_cons (pv 0) pa_nil)) (pe_callB (kN_len K rfl) rfl T.b_len PySem.boot_len (pa_cons (pv 1) pa_nil)) (nomark _)) (pss_one (ps_ret pe_bl)) pss_nil) (pss_cons (ps_for PassesOwn.never rfl (pi_eith (kpi_zip2 K rfl true true rfl T.b_zip (pa_cons (pv 0) (pa_cons (pv 1) pa_nil))) (kpi_zip2 K rfl false false rfl T.b_zip (pa_cons (pv 0) (pa_cons (pv 1) pa_nil)))) (kpg_tup (n:=2) K rfl rfl (pgs_cons (pg_name (i:=2) S.nd rfl (Or.inl rfl)) (pgs_cons (pg_name (i:=3) S.nd rfl (Or.inl rfl)) pgs_nil))) (pss_one (ps_if (pt_not (pt_val (pcall ih hr (pa_cons (pv 2) (pa_cons (pv 3) pa_nil))))) (pss_one (ps_ret pe_bl)) pss_nil))) (pss_one (ps_ret pe_bl))))))),?_⟩
  rcases hA with ⟨rfl,rfl⟩|⟨z,rfl,rfl⟩|⟨i,rfl,rfl⟩|⟨a,b,xs,ys,rfl,rfl,hk,hl,hb,hrec⟩
  ·iterate 20 (first|exact k _ (Same.refl _)|refine⟨rfl,?_⟩|refine if_tt rfl ?_|refine if_ff rfl ?_|(walk_at "w"))
  ·iterate 16 (first|exact k _ (Same.refl _)|refine⟨rfl,?_⟩|refine if_tt rfl ?_|refine if_ff rfl ?_|refine if_tt (decide_eq_true rfl) ?_|(walk_at "w"))
   rw [decide_eq_true rfl]
   exact k _ (Same.refl _)
  ·iterate 16 (first|exact k _ (Same.refl _)|refine⟨rfl,?_⟩|refine if_tt rfl ?_|refine if_ff rfl ?_|refine if_tt (decide_eq_true rfl) ?_|(walk_at "w"))
   rw [decide_eq_true rfl]
   exact k _ (Same.refl _)
  ·rcases hk with ⟨h1,h2⟩|⟨h1,h2⟩
   ·iterate 24 (first|refine⟨rfl,?_⟩|refine if_tt rfl ?_|refine if_ff rfl ?_|refine if_ff (by rw [decide_eq_true (by lia)];rfl) ?_|(walk_at "w"))
    refine i_left ?_
    walk_at "w"
    refine f_invZ (k1:=true) (k2:=true) (xs:=xs) (ys:=ys) hl (fun i σ H2=>∃ o1 o2:Option V,σ=[some (.ref a),some (.ref b),o1,o2]∧Same H H2) ⟨_,_,rfl,Same.refl _⟩ (fun i σ H2 hp=>by obtain ⟨_,_,rfl,sn⟩:=hp;exact⟨sqt_sq (sn.at h1),sqt_sq (sn.at h2)⟩) (fun i x y σ H2 H3 hx hy hp s3=>?_) (fun σ H2 hp=>?_)
    ·obtain ⟨o1,o2,rfl,s2⟩:=hp
     walk_at "w"
     refine c_law_alike ((hrec i x y hx hy).same (s2.trans s3)) fun H4 s4=>?_
     walk_at "w"
     refine if_ff rfl ?_
     walk_at "w"
     exact⟨_,_,rfl,(s2.trans s3).trans s4⟩
    ·obtain ⟨o1,o2,rfl,s2⟩:=hp
     walk_at "w"
     exact k _ s2
   ·iterate 24 (first|refine⟨rfl,?_⟩|refine if_tt rfl ?_|refine if_ff rfl ?_|refine if_ff (by rw [decide_eq_true (by lia)];rfl) ?_|(walk_at "w"))
    refine i_right ?_
    walk_at "w"
    refine f_invZ (k1:=false) (k2:=false) (xs:=xs) (ys:=ys) hl (fun i σ H2=>∃ o1 o2:Option V,σ=[some (.ref a),some (.ref b),o1,o2]∧Same H H2) ⟨_,_,rfl,Same.refl _⟩ (fun i σ H2 hp=>by obtain ⟨_,_,rfl,sn⟩:=hp;exact⟨sql_sq (SqL.of (sn _ _ h1)),sql_sq (SqL.of (sn _ _ h2))⟩) (fun i x y σ H2 H3 hx hy hp s3=>?_) (fun σ H2 hp=>?_)
    ·obtain ⟨o1,o2,rfl,s2⟩:=hp
     walk_at "w"
     refine c_law_alike ((hrec i x y hx hy).same (s2.trans s3)) fun H4 s4=>?_
     walk_at "w"
     refine if_ff rfl ?_
     walk_at "w"
     exact⟨_,_,rfl,(s2.trans s3).trans s4⟩
    ·obtain ⟨o1,o2,rfl,s2⟩:=hp
     walk_at "w"
     exact k _ s2
theorem sc_law_name_row:FnScope ["_law_mixed_here","_law_rows","_law_name","_law_row","_law_steps","_law_signs","_law_step","_law_share","_law_count","_law_octave"] ["_law_mixed_here"] (defScope s_law_name_row):=⟨rfl,rfl,rfl,by decide +kernel,rfl,by decide +kernel,by decide +kernel⟩
set_option maxHeartbeats 4000000 in
theorem ok_law_name_row (D:Def K mg "_law_name_row" s_law_name_row ["_law_mixed_here"]) (T:Txt K mg G):Ok P w K mg base 1 "_law_name_row" ["_law_mixed_here"] (sp_law_name_row K):=by
 have S:=sc_law_name_row
 refine D.ok S (fun vs H Q E h=>?_) (fun f cdv A outer s H vs Q E hr h=>?_)
 ·obtain ⟨c,rfl,hc,k⟩:=h;rfl
 ·obtain ⟨c,rfl,hc,k⟩:=h
  have hu:=hu_of hr
  have q_ONE:=T.q_ONE
  have q_BOUNDS:=T.q_BOUNDS
  refine⟨_,(@pss_cons _ _ _ _ _ (ps_if (pt_cmpR op_eq (pe_op op_mod (pe_op op_fdiv (pv 0) pe_int) pe_int) pe_int (nomark _)) (pss_one (ps_ret (pe_tup (pa_cons pe_str (pa_cons pe_non pa_nil))))) pss_nil) (@pss_cons _ _ _ _ _ (@ps_set _ _ 1 _ _ _ _ S.nd rfl (Or.inl rfl) (@pe_lst _ _ _ _ (@pa_cons _ _ _ _ _ (@pe_tup _ _ _ _ _ (pa_cons pe_int (pa_cons (pe_un un_neg pe_int) (pa_cons pe_int (pa_cons pe_int (pa_cons pe_int pa_nil)))))) (@pa_cons _ _ _ _ _ (@pe_tup _ _ _ _ _ (pa_cons pe_int (pa_cons pe_int (pa_cons pe_int (pa_cons pe_int (pa_cons pe_int pa_nil)))))) (@pa_cons _ _ _ _ _ (@pe_tup _ _ _ _ _ (pa_cons (pe_un un_neg pe_int) (pa_cons pe_int (pa_cons pe_int (pa_cons pe_int (pa_cons pe_int pa_nil)))))) (@pa_cons _ _ _ _ _ (@pe_tup _ _ _ _ _ (pa_cons (pe_un un_neg pe_int) (pa_cons pe_int (pa_cons pe_int (pa_cons pe_int (pa_cons pe_int pa_nil)))))) (@pa_cons _ _ _ _ _ (@pe_tup _ _ _ _ _ (pa_cons (pe_un un_neg pe_int) (pa_cons pe_int (pa_cons pe_int (pa_cons pe_int (pa_cons pe_int pa_nil)))))) pa_nil (by rfl)) (by rfl)) (by rfl)) (by rfl)) (by rfl))) (by rfl) (by first|exact .inl rfl|exact .inr rfl|assumption)) (@pss_cons _ _ _ _ _ (@ps_set _ _ 1 _ _ _ _ S.nd rfl (Or.inl rfl) (@pe_op _ _ _ _ _ _ _ _ op_cat (pv 1) (@pe_lst _ _ _ _ (@pa_cons _ _ _ _ _ (@pe_tup _ _ _ _ _ (pa_cons (pe_un un_neg pe_int) (pa_cons pe_int (pa_cons pe_int (pa_cons pe_int (pa_cons pe_int pa_nil)))))) (@pa_cons _ _ _ _ _ (@pe_tup _ _ _ _ _ (pa_cons (pe_un un_neg pe_int) (pa_cons pe_int (pa_cons pe_int (pa_cons pe_int (pa_cons pe_int pa_nil)))))) pa_nil (by rfl)) (by rfl)))) (by rfl) (by first|exact .inl rfl|exact .inr rfl|assumption)) (@pss_cons _ _ _ _ _ (ps_set (i:=2) S.nd rfl (Or.inl rfl) (pe_ix ix_str pe_str (pe_op op_mod (pv 0) pe_int) (fun _ _=>rfl))) (@pss_cons _ _ _ _ _ (ps_set (i:=3) S.nd rfl (Or.inl rfl) (pe_ix (kx_seq K rfl) (pv 1) (pe_op op_mod (pv 0) pe_int) (fun _ _=>rfl))) (@pss_cons _ _ _ _ _ (@ps_set _ _ 4 _ _ _ _ S.nd rfl (Or.inl rfl) (@pe_lst _ _ _ _ (@pa_cons _ _ _ _ _ (@pe_tup _ _ _ _ _ (pa_cons (pe_un un_neg pe_int) (pa_cons pe_int (pa_cons pe_int (pa_cons pe_int (pa_cons pe_int pa_nil)))))) (@pa_cons _ _ _ _ _ (@pe_tup _ _ _ _ _ (pa_cons (pe_un un_neg pe_int) (pa_cons pe_int (pa_cons (pe_un un_neg pe_int) (pa_cons pe_int (pa_cons pe_int pa_nil)))))) (@pa_cons _ _ _ _ _ (@pe_tup _ _ _ _ _ (pa_cons pe_int (pa_cons (pe_un un_neg pe_int) (pa_cons pe_int (pa_cons (pe_un un_neg pe_int) (pa_cons pe_int pa_nil)))))) (@pa_cons _ _ _ _ _ (@pe_tup _ _ _ _ _ (pa_cons (pe_un un_neg pe_int) (pa_cons pe_int (pa_cons pe_int (pa_cons pe_int (pa_cons pe_int pa_nil)))))) pa_nil (by rfl)) (by rfl)) (by rfl)) (by rfl))) (by rfl) (by first|exact .inl rfl|exact .inr rfl|assumption)) (pss_cons (ps_for PassesOwn.never rfl (kpi_zip3 K rfl false false false rfl T.b_zip (@pa_cons _ _ _ _ _ (pe_lst (pa_cons pe_str (pa_cons pe_str (pa_cons pe_str (pa_cons pe_str pa_nil))))) (@pa_cons _ _ _ _ _ (pv 4) (@pa_cons _ _ _ _ _ (pe_lst (pa_cons pe_int (pa_cons pe_int (pa_cons pe_int (pa_cons pe_int pa_nil))))) pa_nil (by rfl)) (by rfl)) (by rfl))) (kpg_tup (n:=3) K rfl rfl (pgs_cons (pg_name (i:=5) S.nd rfl (Or.inl rfl)) (pgs_cons (pg_name (i:=6) S.nd rfl (Or.inl rfl)) (pgs_cons (pg_name (i:=7) S.nd rfl (Or.inl rfl)) pgs_nil)))) (pss_cons (ps_set (i:=8) S.nd rfl (Or.inr rfl) (pe_op op_sub (pe_op op_mod (pe_op op_fdiv (pv 0) (pv 7)) pe_int) pe_int)) (pss_cons (ps_set (i:=2) S.nd rfl (Or.inl rfl) (pe_op op_addS (pe_op op_addS (pv 2) (pe_op op_mul1 (pe_ix ix_str (pv 5) pe_int (fun _ _=>rfl)) (pv 8))) (pe_op op_mul1 (pe_ix ix_str (pv 5) pe_int (fun _ _=>rfl)) (pe_op op_sub pe_int (pv 8))))) (pss_one (ps_set (i:=3) S.nd rfl (Or.inl rfl) (pe_callTy (kN_tuple K rfl) rfl T.b_tuple PyProof.Rows.boot_tuple (pa_cons (pe_comp (N:=["_law_x","_law_y","_law_count"]) (ix:=[none,none,some 8]) rfl (kpi_zip2 K rfl true true rfl T.b_zip (pa_cons (pv 3) (pa_cons (pv 6) pa_nil))) (fun _ _ _ _ _=>(kpg_tup (n:=2) K rfl rfl (pgs_cons (pg_name (i:=0) (show List.Nodup (["_law_x","_law_y","_law_count"]:List Str) by decide +kernel) rfl (Or.inl rfl)) (pgs_cons (pg_name (i:=1) (show List.Nodup (["_law_x","_law_y","_law_count"]:List Str) by decide +kernel) rfl (Or.inl rfl)) pgs_nil)))) (fun _ _ _ _ _=>rfl) (fun _ _ _ _ _=>(pe_op op_add (pv 0) (pe_op op_mul (pv 2) (pv 1)))) rfl (by decide +kernel) (by decide +kernel) rfl ⟨⟨rfl,Or.inr (Or.inl rfl),rfl,rfl⟩,True.intro⟩) pa_nil))))))) (pss_cons (ps_set (i:=9) S.nd rfl (Or.inl rfl) (pe_op op_sub (pe_op op_mod (pe_op op_fdiv (pv 0) pe_int) pe_int) pe_int)) (pss_one (ps_ret (pe_tup (pa_cons (pe_op op_addS (pe_op op_addS (pv 2) pe_str) (pe_callTy callN_str rfl T.b_str PyProof.Rows.boot_str (pa_cons (pv 9) pa_nil))) (pa_cons (pe_op (kop_catT K rfl) (pe_tup (pa_cons (pe_op op_add (pe_ix (kx_seq K rfl) (pv 3) pe_int (fun _ _=>rfl)) (pv 9)) pa_nil)) (pe_slice (ksl_tup K rfl) (pv 3) (po_some pe_int) po_none)) pa_nil))))))))))))),?_⟩
  walk_at "w"
  refine if_both (fun h1=>?_) (fun h1=>?_)
  ·walk_at "w"
   rename_i p1 H1 s1 m1
   exact k p1 H1 _ _ none s1 m1 rfl rfl
  ·obtain ⟨j,hj⟩:∃ j:Nat,c % 7=(j:Int):=⟨(c % 7).toNat,by lia⟩
   have hj7:j<7:=by lia
   walk_at "w"
   rw [hj]
   obtain ⟨L,hL⟩:∃ L,([70,67,71,68,65,69,66]:List Nat)[j]?=some L:=⟨_,List.getElem?_eq_getElem (by simpa using hj7)⟩
   refine r_ixS (c:=L) (small2000 (by decide +kernel)) (atI_nat (by rw [show (PySem.Str.ofString "FCGDAEB").cps.toList=[70,67,71,68,65,69,66] by decide];exact hL)) ?_
   walk_at "w"
   rename_i p0 H0 s0 m0 p1 H1 s1 m1 p2 H2 s2 m2 p3 H3 s3 m3 p4 H4 s4 m4 pa Ha na sa ma p5 H5 s5 m5 p6 H6 s6 m6 pb Hb nb sb mb pc Hc nc sc mc
   have e6:=sc _ _ (sb _ _ m6)
   have e5:=sc _ _ (sb _ _ (s6 _ _ m5))
   have sA:Same Ha Hc:=((s5.trans s6).trans sb).trans sc
   have sT:Same H Hc:=(((((s0.trans s1).trans s2).trans s3).trans s4).trans sa).trans sA
   have e4:=sA _ _ (sa _ _ m4)
   have e3:=sA _ _ (sa _ _ (s4 _ _ m3))
   have e2:=sA _ _ (sa _ _ (s4 _ _ (s3 _ _ m2)))
   have e1:=sA _ _ (sa _ _ (s4 _ _ (s3 _ _ (s2 _ _ m1))))
   have e0:=sA _ _ (sa _ _ (s4 _ _ (s3 _ _ (s2 _ _ (s1 _ _ m0)))))
   obtain ⟨q,r0,r1,hq,hqr,hLg,hrg,hr1,hr0b⟩:∃ (q:Addr) (r0 r1:Int),atI ([V.ref p0,V.ref p1,V.ref p2,V.ref p3,V.ref p4]++[V.ref p5,V.ref p6]) (j:Int)=some (.ref q)∧Hc q=some (.tup [.int r0,.int r1,.int 0,.int 0,.int 0])∧([70,67,71,68,65,69,66]:List Nat).getD j 0=L∧([2,0,-1,-3,-4,-6,-7]:List Int).getD j 0=r0∧r1+1=(j:Int)∧(-7≤r0∧r0≤2):=by
    match j,hj7 with
    | 0,_=>cases hL;exact⟨_,_,_,rfl,e0,rfl,rfl,rfl,by decide⟩
    | 1,_=>cases hL;exact⟨_,_,_,rfl,e1,rfl,rfl,rfl,by decide⟩
    | 2,_=>cases hL;exact⟨_,_,_,rfl,e2,rfl,rfl,rfl,by decide⟩
    | 3,_=>cases hL;exact⟨_,_,_,rfl,e3,rfl,rfl,rfl,by decide⟩
    | 4,_=>cases hL;exact⟨_,_,_,rfl,e4,rfl,rfl,rfl,by decide⟩
    | 5,_=>cases hL;exact⟨_,_,_,rfl,e5,rfl,rfl,rfl,by decide⟩
    | 6,_=>cases hL;exact⟨_,_,_,rfl,e6,rfl,rfl,rfl,by decide⟩
   rw [hj]
   refine r_ixL (SqL.of mc) hq ?_
   clear e0 e1 e2 e3 e4 e5 e6 m0 m1 m2 m3 m4 ma m5 m6 mb s0 s1 s2 s3 s4 sa s5 s6 sb sc sA na nb nc hq
   walk_at "w"
   rename_i t0 T0 y0 v0 t1 T1 y1 v1 t2 T2 y2 v2 t3 T3 y3 v3 ls Ts ns ys vs lg Tg ng yg vg li Ti ni yi vi
   obtain ⟨cf,hcf⟩:∃ cf:Nat→Int,cf=fun i=>c / ([7,21,63,189]:List Int).getD i 1 % 3 - 1:=⟨_,rfl⟩
   have hcb:∀ i,i<4→-1≤cf i∧cf i≤1:=by
    intro i hi
    rw [hcf]
    show -1≤c / _ % 3 - 1∧c / _ % 3 - 1≤1
    lia
   have sH:Same Hc Ti:=(((((y0.trans y1).trans y2).trans y3).trans ys).trans yg).trans yi
   have w3:=yi _ _ (yg _ _ (ys _ _ v3))
   have w2:=yi _ _ (yg _ _ (ys _ _ (y3 _ _ v2)))
   have w1:=yi _ _ (yg _ _ (ys _ _ (y3 _ _ (y2 _ _ v1))))
   have w0:=yi _ _ (yg _ _ (ys _ _ (y3 _ _ (y2 _ _ (y1 _ _ v0)))))
   have wg:=yi _ _ vg
   have ws:=yi _ _ (yg _ _ vs)
   have wq:=sH _ _ hqr
   clear y0 y1 y2 y3 ys yg yi v0 v1 v2 v3 vg vs hqr ns ng ni
   refine f_invZ3 (K:=K) (k1:=false) (k2:=false) (k3:=false) (xs:=[V.str (PySem.Str.ofString "#b"),V.str (PySem.Str.ofString "+-"),V.str (PySem.Str.ofString "><"),V.str (PySem.Str.ofString "^v")]) (ys:=[V.ref t0,V.ref t1,V.ref t2,V.ref t3]) (zs:=[V.int 7,V.int 21,V.int 63,V.int 189]) rfl rfl (fun i σ Hn=>∃ (o5 o6 o7 o8:Option V) (p:Addr) (T':PySem.Str),σ=[some (.int c),some (.ref pc),some (.str T'),some (.ref p),some (.ref ls),o5,o6,o7,o8,none]∧Same Ti Hn∧Hn p=some (.tup [.int (sx r0 cf [-11,-4,6,-5] (i)),.int (sx r1 cf [7,4,-2,1] (i)),.int (sx 0 cf [0,-1,0,0] (i)),.int (sx 0 cf [0,0,-1,0] (i)),.int (sx 0 cf [0,0,0,1] (i))])∧T'.cps.toList=L::([Nam.seg 35 98 (cf 0),Nam.seg 43 45 (cf 1),Nam.seg 62 60 (cf 2),Nam.seg 94 118 (cf 3)].take i).flatten∧T'.length≤1+2*i) ⟨_,_,_,_,q,_,rfl,Same.refl _,wq,rfl,Nat.le_refl _⟩ (fun i σ Hn hp=>by obtain ⟨_,_,_,_,_,_,rfl,sn,_⟩:=hp;exact⟨sql_sq (SqL.of (sn _ _ wg)),sql_sq (SqL.of (sn _ _ ws)),sql_sq (SqL.of (sn _ _ vi))⟩) (fun i x y z σ Hn Hm hx hy hz hp sm=>?_) (fun σ Hn hp=>?_)
   ·obtain ⟨o5,o6,o7,o8,p,T',rfl,sn,mp,hT,lT⟩:=hp
    have hi:i<4:=(List.getElem?_eq_some_iff.mp hx).1
    obtain ⟨S',c1,d1,tA,x0,x1,x2,x3,x4,sh,rfl,rfl,rfl,hS,htA,hx0,hx1,hx2,hx3,hx4,hsh,hsh0,hsg,hxb⟩:∃ (S':PySem.Str) (c1 d1:Nat) (tA:Addr) (x0 x1 x2 x3 x4 sh:Int),x=.str S'∧y=.ref tA∧z=.int sh∧S'.cps.toList=[c1,d1]∧Ti tA=some (.tup [.int x0,.int x1,.int x2,.int x3,.int x4])∧x0=([-11,-4,6,-5]:List Int).getD i 0∧x1=([7,4,-2,1]:List Int).getD i 0∧x2=([0,-1,0,0]:List Int).getD i 0∧x3=([0,0,-1,0]:List Int).getD i 0∧x4=([0,0,0,1]:List Int).getD i 0∧c / sh % 3 - 1=cf i∧(0<sh∧sh≤200)∧[Nam.seg 35 98 (cf 0),Nam.seg 43 45 (cf 1),Nam.seg 62 60 (cf 2),Nam.seg 94 118 (cf 3)][i]?=some (Nam.seg c1 d1 (cf i))∧(∀ v∈[x0,x1,x2,x3,x4],-1000≤v∧v≤1000):=by
     rw [hcf]
     match i,hi with
     | 0,_=>cases hx;cases hy;cases hz;exact⟨_,35,98,t0,_,_,_,_,_,7,rfl,rfl,rfl,by decide,w0,rfl,rfl,rfl,rfl,rfl,rfl,by decide,rfl,by decide⟩
     | 1,_=>cases hx;cases hy;cases hz;exact⟨_,43,45,t1,_,_,_,_,_,21,rfl,rfl,rfl,by decide,w1,rfl,rfl,rfl,rfl,rfl,rfl,by decide,rfl,by decide⟩
     | 2,_=>cases hx;cases hy;cases hz;exact⟨_,62,60,t2,_,_,_,_,_,63,rfl,rfl,rfl,by decide,w2,rfl,rfl,rfl,rfl,rfl,rfl,by decide,rfl,by decide⟩
     | 3,_=>cases hx;cases hy;cases hz;exact⟨_,94,118,t3,_,_,_,_,_,189,rfl,rfl,rfl,by decide,w3,rfl,rfl,rfl,rfl,rfl,rfl,by decide,rfl,by decide⟩
    have lS:S'.length=2:=by show S'.cps.size=2;rw [← Array.length_toList,hS];rfl
    have kb:=hcb i hi
    obtain ⟨kk,hkk⟩:∃ kk,cf i=kk:=⟨_,rfl⟩
    rw [hkk] at hsh hsg kb
    have ha1:=SqT.of (K:=K) (sm _ _ mp)
    have hb1:=SqT.of (K:=K) ((sn.trans sm) _ _ htA)
    clear w0 w1 w2 w3 wg ws wq htA mp vi mc
    walk_at "w"
    rw [hsh]
    refine r_ixS (c:=c1) (small2000 (by lia)) (atI_nat (j:=0) (by rw [hS];rfl)) ?_
    walk_at "w"
    refine r_mul1 (by lia) ?_
    have q1:(reps c1 kk.toNat).length=kk.toNat:=Array.size_replicate
    have q2:(reps d1 (0 - kk).toNat).length=(0 - kk).toNat:=Array.size_replicate
    walk_at "w"
    refine r_ixS (c:=d1) (small2000 (by lia)) (atI_nat (j:=1) (by rw [hS];rfl)) ?_
    walk_at "w"
    refine r_mul1 (by lia) ?_
    refine r_addS (small2000 (by rw [PySem.strLen_append];lia)) ?_
    walk_at "w"
    obtain ⟨a0,ea0⟩:∃ a,sx r0 cf [-11,-4,6,-5] i=a:=⟨_,rfl⟩
    obtain ⟨a1,ea1⟩:∃ a,sx r1 cf [7,4,-2,1] i=a:=⟨_,rfl⟩
    obtain ⟨a2,ea2⟩:∃ a,sx 0 cf [0,-1,0,0] i=a:=⟨_,rfl⟩
    obtain ⟨a3,ea3⟩:∃ a,sx 0 cf [0,0,-1,0] i=a:=⟨_,rfl⟩
    obtain ⟨a4,ea4⟩:∃ a,sx 0 cf [0,0,0,1] i=a:=⟨_,rfl⟩
    rw [ea0,ea1,ea2,ea3,ea4] at ha1
    refine rd_compZ (k1:=true) (k2:=true) [some (.int kk)] (fun n=>.int (([a0,a1,a2,a3,a4]:List Int).getD n 0+kk*([x0,x1,x2,x3,x4]:List Int).getD n 0)) rfl (sqt_sq ha1) (sqt_sq hb1) rfl (by show 5≤1000000;decide) (fun n x y H' Qc hx hy s kc=>?_) (fun l1 H1 hl1 s1 m1'=>?_)
    ·obtain ⟨rfl,_⟩:=int_get (r:=[a0,a1,a2,a3,a4]) hx
     obtain ⟨rfl,hn⟩:=int_get (r:=[x0,x1,x2,x3,x4]) hy
     have hmem:([x0,x1,x2,x3,x4]:List Int).getD n 0∈[x0,x1,x2,x3,x4]:=by rw [List.getD,List.getElem?_eq_getElem hn];exact List.getElem_mem _
     walk_at "w"
     exact kc _ (Same.refl _)
    walk_at "w"
    rename_i p9 H9 s9 m9
    refine⟨_,_,_,_,p9,_,rfl,((sn.trans sm).trans s1).trans s9,?_,?_,?_⟩
    ·rw [m9]
     unfold sx
     rw [ea0,ea1,ea2,ea3,ea4,hkk,← hx0,← hx1,← hx2,← hx3,← hx4]
     rfl
    ·rw [Nam.app_list,Nam.app_list,hT,List.take_succ,hsg]
     simp [Nam.seg,reps,List.append_assoc]
    ·rw [PySem.strLen_append,PySem.strLen_append,q1,q2];lia
   ·obtain ⟨o5,o6,o7,o8,p,T',rfl,sn,mp,hT,lT⟩:=hp
    have lT':T'.length≤1+2*4:=lT
    have c0:=hcb 0 (by decide)
    have c1:=hcb 1 (by decide)
    have c2:=hcb 2 (by decide)
    have c3:=hcb 3 (by decide)
    obtain ⟨k0,ek0⟩:∃ a,cf 0=a:=⟨_,rfl⟩
    obtain ⟨k1,ek1⟩:∃ a,cf 1=a:=⟨_,rfl⟩
    obtain ⟨k2,ek2⟩:∃ a,cf 2=a:=⟨_,rfl⟩
    obtain ⟨k3,ek3⟩:∃ a,cf 3=a:=⟨_,rfl⟩
    rw [ek0] at c0;rw [ek1] at c1;rw [ek2] at c2;rw [ek3] at c3
    have mp':Hn p=some (.tup [.int (r0+k0*-11+k1*-4+k2*6+k3*-5),.int (r1+k0*7+k1*4+k2*-2+k3*1),.int (0+k0*0+k1*-1+k2*0+k3*0),.int (0+k0*0+k1*0+k2*-1+k3*0),.int (0+k0*0+k1*0+k2*0+k3*1)]):=by rw [mp,← ek0,← ek1,← ek2,← ek3];rfl
    have hpp:=SqT.of (K:=K) mp'
    clear mp mp' w0 w1 w2 w3 wg ws wq vi mc
    walk_at "w"
    obtain ⟨o,ho⟩:∃ o,c / 567 % 9 - 4=o:=⟨_,rfl⟩
    have hob:-4≤o∧o≤4:=by lia
    have hoo:=Nam.oct_of (o:=o) (by lia) (by lia)
    rw [ho]
    refine r_addS (small2000 (show T'.length+1≤2000 by lia)) ?_
    walk_at "w"
    refine r_str1 (Sgn.log_bd (Nat.lt_of_le_of_lt (show o.natAbs≤9999 by lia) (by decide +kernel))) ?_
    walk_at "w"
    refine r_addS (small2000 (by rw [PySem.strLen_append];show T'.length+1+_≤2000;lia)) ?_
    have e46:(PySem.Str.ofString ".").cps.toList=[46]:=by decide
    have hZ:(T'++PySem.Str.ofString "."++PySem.Str.ofString (toString o)).cps.toList=L::(Nam.seg 35 98 k0++(Nam.seg 43 45 k1++(Nam.seg 62 60 k2++(Nam.seg 94 118 k3++(46::(PySem.Str.ofString (toString o)).cps.toList))))):=by
     rw [Nam.app_list,Nam.app_list,hT,e46,ek0,ek1,ek2,ek3]
     simp [List.append_assoc]
    generalize T'++PySem.Str.ofString "."++PySem.Str.ofString (toString o)=Z at hZ ⊢
    walk_at "w"
    rename_i pu Hu su mu pw Hw sw mw px Hx sX mx pz Hz sz mz
    obtain ⟨u0,hu0⟩:∃ t,r0+k0*-11+k1*-4+k2*6+k3*-5+o=t:=⟨_,rfl⟩
    obtain ⟨u1,hu1⟩:∃ t,r1+k0*7+k1*4+k2*-2+k3*1=t:=⟨_,rfl⟩
    obtain ⟨u2,hu2⟩:∃ t,0+k0*0+k1*-1+k2*0+k3*0=t:=⟨_,rfl⟩
    obtain ⟨u3,hu3⟩:∃ t,0+k0*0+k1*0+k2*-1+k3*0=t:=⟨_,rfl⟩
    obtain ⟨u4,hu4⟩:∃ t,0+k0*0+k1*0+k2*0+k3*1=t:=⟨_,rfl⟩
    rw [hu0,hu1,hu2,hu3,hu4] at mx
    refine k pz Hz Z (.ref px) (some [u0,u1,u2,u3,u4]) (sT.trans (sH.trans (sn.trans (su.trans (sw.trans (sX.trans sz)))))) mz ⟨px,rfl,sz.at (SqT.of mx),rfl⟩ ⟨u0,u1,u2,u3,u4,rfl,?_,by lia,by lia,by lia,by lia,by lia⟩
    unfold nameL
    rw [show (u1 - u4 - 2*u3+4*u2+1) / 7=k0 by lia,show ((u1 - u4 - 2*u3+4*u2+1) % 7).toNat=j by lia,hLg,hrg,show u0+5*u4+6*u3 - 4*u2+11*k0 - r0=o by lia,show -u2=k1 by lia,show -u3=k2 by lia,show u4=k3 by lia]
    exact hZ
theorem sc_law_pieces:FnScope ["_law_cell","_law_count","_law_total","_law_pieces_here","_law_left","_law_k","_law_more"] ["_law_cell","_law_count","_law_total"] (defScope s_law_pieces):=⟨rfl,rfl,rfl,by decide +kernel,rfl,by decide +kernel,by decide +kernel⟩
structure Os_law_pieces (P:Program) (w:World) (K:PySem.W.Frag) (mg:Str→Option Value) (base:Heap) (G:Adr):Prop where
 law_mixed:Ok P w K mg base 1 "_law_mixed" ["_law_cell","_law_k"] (sp_law_mixed K)
set_option maxHeartbeats 4000000 in
theorem ok_law_pieces (D:Def K mg "_law_pieces" s_law_pieces ["_law_cell","_law_count","_law_total"]) (T:Txt K mg G) (O:Os_law_pieces P w K mg base G):Ok P w K mg base 2 "_law_pieces" ["_law_cell","_law_count","_law_total"] (sp_law_pieces K):=by
 have S:=sc_law_pieces
 refine D.ok S (fun vs H Q E h=>?_) (fun f cdv A outer s H vs Q E hr h=>?_)
 ·obtain ⟨c,n,t,rfl,h1,h2,h3,h4,k⟩:=h;rfl
 ·obtain ⟨c,n,t,rfl,h1,h2,h3,h4,k⟩:=h
  have hu:=hu_of hr
  have q_ONE:=T.q_ONE
  have q_BOUNDS:=T.q_BOUNDS
  refine⟨_,(pss_cons (ps_set (i:=3) S.nd rfl (Or.inl rfl) (pe_lst pa_nil)) (pss_cons (ps_set (i:=4) S.nd rfl (Or.inl rfl) (pe_op op_sub (pv 2) (pv 1))) (pss_cons (ps_for PassesOwn.never rfl (pi_range1 rfl T.b_range (pa_cons (pe_op op_sub (pv 1) pe_int) pa_nil)) (pg_name (i:=5) S.nd rfl (Or.inl rfl)) (pss_cons (ps_set (i:=6) S.nd rfl (Or.inl rfl) (pe_op op_mod (pcall O.law_mixed (hr.mono (by decide)) (pa_cons (pv 0) (pa_cons (pe_op op_add pe_int (pv 5)) pa_nil))) (pe_op op_add (pv 4) pe_int))) (pss_cons (ps_expr (pe_bm PySem.F.plainAttrs_list PySem.F.slot_list_append PySem.F.type_list_append mt_append (pv 3) (pa_cons (pe_op op_add pe_int (pv 6)) pa_nil))) (pss_one (ps_set (i:=4) S.nd rfl (Or.inl rfl) (pe_op op_sub (pv 4) (pv 6))))))) (pss_one (ps_ret (pe_op op_cat (pv 3) (pe_lst (pa_cons (pe_op op_add pe_int (pv 4)) pa_nil)))))))),?_⟩
  walk_at "w"
  rename_i p1 H1 n1 s1 m1
  refine f_invR (fun i σ Hn=>∃ (o1 o2:Option V) (ps:List Int) (left:Int),σ=[some (.int c),some (.int (n:Int)),some (.int (t:Int)),some (.ref p1),some (.int left),o1,o2]∧Same H Hn∧Hn p1=some (.lst (ps.map V.int))∧ps.length=i∧(∀ p∈ps,1≤p∧p≤(t:Int))∧0≤left∧(i:Int)≤ps.sum∧ps.sum+left+n=t+i) ⟨_,_,[],_,rfl,s1,m1,rfl,(fun _ z=>nomatch z),by lia,by simp,by simp <;> lia⟩ (fun i σ Hn hi hp=>?_) (fun σ Hn hp=>?_)
  ·obtain ⟨o1,o2,ps,left,rfl,sn,mp,lp,hpb,hl0,hsi,hsum⟩:=hp
   have hi':i+1<n:=by lia
   walk_at "w"
   refine c_law_mixed (by lia) fun q1 z1 z2=>?_
   have b1:=Int.emod_nonneg q1 (show left+1≠0 by lia)
   have b2:=Int.emod_lt_of_pos q1 (show 0<left+1 by lia)
   have hlp:0<left+1:=by lia
   walk_at "w"
   refine r_append mp (by rw [List.length_map];lia) ?_
   walk_at "w"
   refine⟨_,_,ps++[1+q1 % (left+1)],_,rfl,sn.upd_old n1,?_,by simp [lp],fun p hp=>?_,by lia,?_,?_⟩
   ·rw [upd_same,List.map_append];rfl
   ·rcases List.mem_append.mp hp with z|z
    ·exact hpb p z
    ·rw [List.mem_singleton.mp z];lia
   ·rw [List.sum_append,List.sum_singleton];lia
   ·rw [List.sum_append,List.sum_singleton];lia
  ·obtain ⟨o1,o2,ps,left,rfl,sn,mp,lp,hpb,hl0,hsi,hsum⟩:=hp
   walk_at "w"
   rename_i p2 H2 n2 s2 m2 p3 H3 n3 s3 m3
   refine k p3 H3 (ps++[1+left]) ((sn.trans s2).new n3) ((sn.trans s2).trans s3) (by rw [m3,List.map_append];rfl) (by rw [List.length_append];show ps.length+1=n;lia) (fun p hp=>?_) ?_
   ·rcases List.mem_append.mp hp with z|z
    ·exact hpb p z
    ·rw [List.mem_singleton.mp z];lia
   ·rw [List.sum_append,List.sum_singleton];lia
theorem sc_law_tune:FnScope ["_law_script","_law_at","_law_bars","_law_total","_law_bottom","_law_form","_law_most","_law_k","_law_cell","_law_notes","_law_j","_law_piece"] ["_law_script","_law_at"] (defScope s_law_tune):=⟨rfl,rfl,rfl,by decide +kernel,rfl,by decide +kernel,by decide +kernel⟩
structure Os_law_tune (P:Program) (w:World) (K:PySem.W.Frag) (mg:Str→Option Value) (base:Heap) (G:Adr):Prop where
 law_cell_at:Ok P w K mg base 1 "_law_cell_at" ["_law_script","_law_k"] (sp_law_cell_at K)
 law_lowest:Ok P w K mg base 1 "_law_lowest" ["_law_top","_law_bottom"] (sp_law_lowest K)
 law_mixed:Ok P w K mg base 1 "_law_mixed" ["_law_cell","_law_k"] (sp_law_mixed K)
 law_name_row:Ok P w K mg base 1 "_law_name_row" ["_law_mixed_here"] (sp_law_name_row K)
 law_pieces:Ok P w K mg base 2 "_law_pieces" ["_law_cell","_law_count","_law_total"] (sp_law_pieces K)
set_option maxHeartbeats 8000000 in
theorem ok_law_tune (D:Def K mg "_law_tune" s_law_tune ["_law_script","_law_at"]) (T:Txt K mg G) (O:Os_law_tune P w K mg base G):Ok P w K mg base 3 "_law_tune" ["_law_script","_law_at"] (sp_law_tune K):=by
 have S:=sc_law_tune
 refine D.ok S (fun vs H Q E h=>?_) (fun f cdv A outer s H vs Q E hr h=>?_)
 ·obtain ⟨a,ns,j,rfl,ha,hj0,hj1,k⟩:=h;rfl
 ·obtain ⟨a,ns,j,rfl,ha,hj0,hj1,k⟩:=h
  have hu:=hu_of hr
  have q_ONE:=T.q_ONE
  have q_BOUNDS:=T.q_BOUNDS
  refine⟨_,(@pss_cons _ _ _ _ _ (ps_set (i:=2) S.nd rfl (Or.inl rfl) (pe_lst pa_nil)) (@pss_cons _ _ _ _ _ (ps_set (i:=3) S.nd rfl (Or.inl rfl) (pe_op op_add pe_int (pe_op op_mod (pcall O.law_cell_at (hr.mono (by decide)) (pa_cons (pv 0) (pa_cons (pv 1) pa_nil))) pe_int))) (@pss_cons _ _ _ _ _ (ps_set (i:=4) S.nd rfl (Or.inl rfl) (pe_op op_add pe_int (pe_op op_mod (pe_op op_fdiv (pcall O.law_cell_at (hr.mono (by decide)) (pa_cons (pv 0) (pa_cons (pv 1) pa_nil))) pe_int) pe_int))) (@pss_cons _ _ _ _ _ (ps_set (i:=5) S.nd rfl (Or.inl rfl) (pcall O.law_mixed (hr.mono (by decide)) (pa_cons (pcall O.law_cell_at (hr.mono (by decide)) (pa_cons (pv 0) (pa_cons (pv 1) pa_nil))) (pa_cons pe_int pa_nil)))) (@pss_cons _ _ _ _ _ (ps_set (i:=6) S.nd rfl (Or.inl rfl) (pe_tup (pa_cons pe_int (pa_cons pe_int pa_nil)))) (@pss_cons _ _ _ _ _ (ps_if (pt_cmpR op_gt (pe_op op_mod (pv 5) pe_int) pe_int (nomark _)) (@pss_one _ _ _ (@ps_set _ _ 6 _ _ _ _ S.nd rfl (Or.inl rfl) (pe_ix (kx_seq K rfl) (@pe_lst _ _ _ _ (@pa_cons _ _ _ _ _ (@pe_tup _ _ _ _ _ (pa_cons pe_int (pa_cons pe_int pa_nil))) (@pa_cons _ _ _ _ _ (@pe_tup _ _ _ _ _ (pa_cons pe_int (pa_cons pe_int pa_nil))) pa_nil (by rfl)) (by rfl))) (pe_op op_mod (pv 5) pe_int) (fun _ _=>rfl)) (by rfl) (by first|exact .inl rfl|exact .inr rfl|assumption))) pss_nil) (pss_cons (ps_for PassesOwn.never rfl (pi_range1 rfl T.b_range (pa_cons (pe_op op_add pe_int (pe_op op_mod (pe_op op_fdiv (pv 5) pe_int) (pe_ix (kx_seq K rfl) (pv 6) pe_int (fun _ _=>rfl)))) pa_nil)) (pg_name (i:=7) S.nd rfl (Or.inl rfl)) (pss_cons (ps_set (i:=8) S.nd rfl (Or.inl rfl) (pe_op op_add (pcall O.law_cell_at (hr.mono (by decide)) (pa_cons (pv 0) (pa_cons (pe_op op_add (pe_op op_add (pv 1) pe_int) (pv 7)) pa_nil))) (pv 7))) (pss_cons (ps_set (i:=9) S.nd rfl (Or.inl rfl) (pe_lst pa_nil)) (pss_cons (ps_for PassesOwn.never rfl (kpi_enum K rfl false rfl T.b_enumerate (pa_cons (pcall O.law_pieces (hr.mono (by decide)) (pa_cons (pv 8) (pa_cons (pe_op op_add pe_int (pe_op op_mod (pcall O.law_mixed (hr.mono (by decide)) (pa_cons (pv 8) (pa_cons pe_int pa_nil))) (pe_ix (kx_seq K rfl) (pv 6) pe_int (fun _ _=>rfl)))) (pa_cons (pv 3) pa_nil)))) pa_nil)) (kpg_tup (n:=2) K rfl rfl (pgs_cons (pg_name (i:=10) S.nd rfl (Or.inl rfl)) (pgs_cons (pg_name (i:=11) S.nd rfl (Or.inl rfl)) pgs_nil))) (pss_one (ps_expr (pe_bm PySem.F.plainAttrs_list PySem.F.slot_list_append PySem.F.type_list_append mt_append (pv 9) (@pa_cons _ _ _ _ _ (@pe_tup _ _ _ _ _ (pa_cons (pe_ix (kx_seq K rfl) (pcall O.law_name_row (hr.mono (by decide)) (pa_cons (pcall O.law_mixed (hr.mono (by decide)) (pa_cons (pv 8) (pa_cons (pv 10) pa_nil))) pa_nil)) pe_int (fun _ _=>rfl)) (pa_cons (pcall O.law_lowest (hr.mono (by decide)) (pa_cons (pv 11) (pa_cons (pv 4) pa_nil))) pa_nil))) pa_nil (by rfl)))))) (pss_one (ps_expr (pe_bm PySem.F.plainAttrs_list PySem.F.slot_list_append PySem.F.type_list_append mt_append (pv 2) (pa_cons (pv 9) pa_nil)))))))) (pss_one (ps_ret (pe_tup (pa_cons (pcall O.law_lowest (hr.mono (by decide)) (pa_cons (pv 3) (pa_cons (pv 4) pa_nil))) (pa_cons (pv 2) pa_nil)))))))))))),?_⟩
  walk_at "w"
  rename_i p1 H1 n1 s1 m1
  refine c_law_mixed (by lia) fun fm f1 f2=>?_
  have ha1:=s1.seq ha
  obtain ⟨tt,htt,bt0,bt1⟩:∃ t:Nat,12+ns.getD j.toNat 0 % 10=(t:Int)∧12≤t∧t≤21:=⟨(12+ns.getD j.toNat 0 % 10).toNat,by lia,by lia,by lia⟩
  obtain ⟨bb,hbb,bb0,bb1⟩:∃ t:Nat,1+ns.getD j.toNat 0 / 10 % 16=(t:Int)∧1≤t∧t≤16:=⟨(1+ns.getD j.toNat 0 / 10 % 16).toNat,by lia,by lia,by lia⟩
  rw [htt,hbb]
  clear htt hbb
  walk_at "j"
  rename_i p2 H2 s2 m2
  refine join (fun σ' H'=>∃ (q:Addr) (u v:Nat),σ'=[some (.ref a),some (.int j),some (.ref p1),some (.int (tt:Int)),some (.int (bb:Int)),some (.int fm),some (.ref q),none,none,none,none,none]∧Same H1 H'∧SqT K H' q [.int (u:Int),.int (v:Int)]∧(1≤u∧u≤12)∧(1≤v∧v≤12)) (fun nx hnx=>?_) (fun σ' H' hp=>?_)
  ·walk_at "w"
   refine if_both (fun h1=>?_) (fun h1=>?_)
   ·walk_at "w"
    rename_i p3 H3 s3 m3 p4 H4 s4 m4 p5 H5 n5 s5 m5
    rcases (show fm % 2=0∨fm % 2=1 by lia) with h2|h2
    ·rw [h2]
     refine r_ixL (SqL.of m5) (atI_nat (j:=0) rfl) ?_
     walk_at "w"
     exact hnx _ _ ⟨p3,12,2,rfl,((s2.trans s3).trans s4).trans s5,SqT.of (s5 _ _ (s4 _ _ m3)),by decide,by decide⟩
    ·rw [h2]
     refine r_ixL (SqL.of m5) (atI_nat (j:=1) rfl) ?_
     walk_at "w"
     exact hnx _ _ ⟨p4,2,12,rfl,((s2.trans s3).trans s4).trans s5,SqT.of (s5 _ _ m4),by decide,by decide⟩
   ·walk_at "w"
    exact hnx _ _ ⟨p2,3,3,rfl,s2,SqT.of m2,by decide,by decide⟩
  ·obtain ⟨q,u,v,rfl,s3,hq,hub,hvb⟩:=hp
   have hu0:(0:Int)<(u:Int):=by lia
   have hv0:(0:Int)<(v:Int):=by lia
   walk_at "w"
   have z1:=Int.emod_nonneg (fm / 8) (show (u:Int)≠0 by lia)
   have z2:=Int.emod_lt_of_pos (fm / 8) hu0
   obtain ⟨N,hN,N0,N1⟩:∃ N:Nat,1+fm / 8 % (u:Int)=(N:Int)∧1≤N∧N≤12:=⟨(1+fm / 8 % (u:Int)).toNat,by lia,by lia,by lia⟩
   rw [hN]
   clear hN z1 z2
   refine r_isr (by lia) (by lia) ?_
   have sA:=s1.trans s3
   refine f_invR (fun i σ Hn=>∃ (o1 o2 o3 o4 o5:Option V) (ys:List V) (bs:List (List Nt)),σ=[some (.ref a),some (.int j),some (.ref p1),some (.int (tt:Int)),some (.int (bb:Int)),some (.int fm),some (.ref q),o1,o2,o3,o4,o5]∧Same H Hn∧SqT K Hn q [.int (u:Int),.int (v:Int)]∧Hn p1=some (.lst ys)∧BarsL K Hn ys bs∧(V.ref p1∉ys)∧bs.length=i∧(∀ ns∈bs,1≤ns.length∧ns.length≤12∧∀ n∈ns,smO n.1∧lenOk n.2)) ⟨_,_,_,_,_,[],[],rfl,sA,hq,s3 _ _ m1,.nil,(fun z=>nomatch z),rfl,(fun _ z=>nomatch z)⟩ (fun i σ Hn hi hp=>?_) (fun σ Hn hp=>?_)
   ·obtain ⟨o1,o2,o3,o4,o5,ys,bs,rfl,sn,hqn,mp,hB,hno,lb,hok⟩:=hp
    have han:=sn.seq ha
    have hi':i<12:=by lia
    walk_at "w"
    rename_i p5 H5 n5 s5 m5
    have hq5:=s5.at hqn
    refine c_law_mixed (by lia) fun mm g1 g2=>?_
    walk_at "w"
    have z1:=Int.emod_nonneg mm (show (v:Int)≠0 by lia)
    have z2:=Int.emod_lt_of_pos mm hv0
    obtain ⟨C,hC,C0,C1⟩:∃ C:Nat,1+mm % (v:Int)=(C:Int)∧1≤C∧C≤12:=⟨(1+mm % (v:Int)).toNat,by lia,by lia,by lia⟩
    rw [hC]
    refine c_law_pieces ⟨C0,C1,by lia,by lia⟩ fun l6 H6 ps n6 s6 m6 lps hps hsum=>?_
    have ne51:p5≠p1:=fun z=>by rw [z,mp] at n5;cases n5
    walk_at "w"
    refine f_invN (k:=false) (xs:=ps.map V.int) (fun i' σ Hm=>∃ (o4 o5:Option V) (cv:Int) (ws:List V) (ns':List Nt),σ=[some (.ref a),some (.int j),some (.ref p1),some (.int (tt:Int)),some (.int (bb:Int)),some (.int fm),some (.ref q),some (.int (0+(i:Int))),some (.int cv),some (.ref p5),o4,o5]∧Same Hn Hm∧Hm l6=some (.lst (ps.map V.int))∧Hm p5=some (.lst ws)∧NotesL K Hm ws ns'∧ns'.length=i'∧∀ n∈ns',smO n.1∧lenOk n.2) ⟨_,_,_,[],[],rfl,s5.trans s6,m6,s6 _ _ m5,.nil,rfl,(fun _ z=>nomatch z)⟩ (fun i' σ Hm hp=>by obtain ⟨_,_,_,_,_,rfl,_,hl6,_⟩:=hp;exact sql_sq (SqL.of hl6)) (fun i' x σ Hm Hm' hx hp sm'=>?_) (fun σ Hm hp=>?_)
    ·obtain ⟨o4,o5,cv,ws,ns',rfl,sm,hl6,mw,hN,lw,hok'⟩:=hp
     obtain ⟨rfl,hi2⟩:=int_get hx
     have hpb:=hps _ (show ps.getD i' 0∈ps by rw [List.getD,List.getElem?_eq_getElem hi2];exact List.getElem_mem _)
     obtain ⟨pp,hpp,pp0,pp1⟩:∃ pp:Nat,ps.getD i' 0=(pp:Int)∧1≤pp∧pp≤21:=⟨(ps.getD i' 0).toNat,by lia,by lia,by lia⟩
     rw [hpp]
     walk_at "w"
     refine c_law_mixed (by lia) fun m7 g3 g4=>?_
     walk_at "w"
     refine c_law_name_row (by lia) fun p8 H8 z8 v8 o8 s8 m8 t8 nm8=>?_
     walk_at "w"
     refine c_law_lowest (by lia) (Nat.lt_of_le_of_lt bb1 (by decide +kernel)) fun p9 H9 s9 m9=>?_
     walk_at "w"
     rename_i pA HA sA' mA
     have sZ:=((sm'.trans s8).trans s9).trans sA'
     have e9:=sZ _ _ mw
     have lN:=hN.length
     rw [lps] at hi2
     have ne65:l6≠p5:=fun z=>by
      have:=s5.trans s6
      rw [z,m5] at n6
      cases n6
     refine r_append e9 (by lia) ?_
     walk_at "w"
     refine⟨_,_,_,ws++[.ref pA],ns'++[(o8,((pp / Nat.gcd pp bb:Nat):Int),((bb / Nat.gcd pp bb:Nat):Int))],rfl,(sm.trans sZ).upd_old n5,by rw [upd_ne ne65];exact sZ _ _ hl6,upd_same,?_,by simp [lw],fun n hn=>?_⟩
     ·exact ((hN.same sZ).off e9).snoc (n:=(o8,((pp / Nat.gcd pp bb:Nat):Int),((bb / Nat.gcd pp bb:Nat):Int))) (NoteAt.off ⟨pA,v8,p9,rfl,SqT.of mA,t8.same (s9.trans sA'),sA'.at (SqT.of m9)⟩ e9)
     ·rcases List.mem_append.mp hn with z|z
      ·exact hok' n z
      ·rw [List.mem_singleton.mp z]
       exact⟨nm8.sm,len_low (by lia) (by lia)⟩
    ·obtain ⟨o4,o5,cv,ws,ns',rfl,sm,hl6,mw,hN,lw,hok'⟩:=hp
     have e1:=sm _ _ mp
     have lN:=hN.length
     have lB:=hB.length
     rw [List.length_map,lps] at lw
     walk_at "w"
     refine r_append e1 (by lia) ?_
     walk_at "w"
     refine⟨_,_,_,_,_,ys++[.ref p5],bs++[ns'],rfl,(sn.trans sm).upd_old n1,?_,upd_same,?_,fun z=>?_,by simp [lb],fun ns2 hn2=>?_⟩
     ·exact upd_sqT (sm.at hqn) e1
     ·exact ((hB.same sm).off e1 hno).snoc (by rw [upd_ne ne51];exact mw) (hN.off e1)
     ·rcases List.mem_append.mp z with z|z
      ·exact hno z
      ·have:=List.mem_singleton.mp z
       cases this
       exact ne51 rfl
     ·rcases List.mem_append.mp hn2 with z|z
      ·exact hok ns2 z
      ·rw [List.mem_singleton.mp z]
       exact⟨by lia,by lia,hok'⟩
   ·obtain ⟨o1,o2,o3,o4,o5,ys,bs,rfl,sn,hqn,mp,hB,hno,lb,hok⟩:=hp
    walk_at "w"
    refine c_law_lowest (by lia) (Nat.lt_of_le_of_lt bb1 (by decide +kernel)) fun p7 H7 s7 m7=>?_
    walk_at "w"
    rename_i p8 H8 s8 m8
    have sB:=s7.trans s8
    exact k p8 p7 p1 H8 (_,_) ys bs (sn.trans sB) ⟨SqT.of m8,s8.at (SqT.of m7),sB _ _ mp,hB.same sB⟩ ⟨by lia,by lia,hok,len_low (by lia) (by lia)⟩
theorem sc_law_copy:FnScope ["_law_tune_here"] ["_law_tune_here"] (defScope s_law_copy):=⟨rfl,rfl,rfl,by decide +kernel,rfl,by decide +kernel,by decide +kernel⟩
set_option maxHeartbeats 4000000 in
theorem ok_law_copy (D:Def K mg "_law_copy" s_law_copy ["_law_tune_here"]) (T:Txt K mg G):Ok P w K mg base 1 "_law_copy" ["_law_tune_here"] (sp_law_copy K):=by
 have S:=sc_law_copy
 refine D.ok S (fun vs H Q E h=>?_) (fun f cdv A outer s H vs Q E hr h=>?_)
 ·obtain ⟨a,m,l,mt,xs,bs,rfl,⟨ha,hm,hl,hbs⟩,h12,k⟩:=h;rfl
 ·obtain ⟨a,m,l,mt,xs,bs,rfl,⟨ha,hm,hl,hbs⟩,h12,k⟩:=h
  have hu:=hu_of hr
  have q_ONE:=T.q_ONE
  have q_BOUNDS:=T.q_BOUNDS
  refine⟨_,(pss_one (ps_ret (pe_tup (pa_cons (pe_ix (kx_seq K rfl) (pv 0) pe_int (fun _ _=>rfl)) (pa_cons (pe_comp (N:=["_law_bar"]) (ix:=[none]) rfl (kpi_list K rfl (pe_ix (kx_seq K rfl) (pv 0) pe_int (fun _ _=>rfl))) (fun _ _ _ _ _=>(pg_name (i:=0) (show List.Nodup (["_law_bar"]:List Str) by decide +kernel) rfl (Or.inl rfl))) (fun _ _ _ _ _=>rfl) (fun _ _ _ _ _=>(pe_callTy (kN_list K rfl) rfl T.b_list PyProof.Rows.boot_list (pa_cons (pv 0) pa_nil))) rfl (by decide +kernel) (by decide +kernel) rfl True.intro) pa_nil))))),?_⟩
  have lx:=hbs.length
  walk_at "w"
  refine comp_gen 1 [] bs.length (fun l i ys H'=>BarsL K H' ys (bs.take i)∧(V.ref l∉ys)) rfl (fun l H' _ _ _=>⟨.nil,fun z=>nomatch z⟩) (fun l i ys H' h=>by have:=h.1.length;rw [List.length_take] at this;lia) (fun H' s=>⟨xs,s.seq (SqL.of hl),by lia⟩) (fun i H' hi s=>⟨xs,xs[i]'(by lia),s.seq (SqL.of hl),List.getElem?_eq_getElem (by lia)⟩) (fun l2 i x H' H2 own ys ho hi hl0 s9 hl' hp hy Qy Qn ky kn=>?_) (fun l2 H' ys hl0 s9 hl' hp=>?_)
  ·obtain ⟨o1,rfl⟩:∃ o1,own=[o1]:=by match own,ho with|[o1],_=>exact⟨o1,rfl⟩
   obtain ⟨rfl,e⟩:=hy
   obtain ⟨a1,zs,ns,rfl,hz,hns,hni⟩:=(hbs.same s9).get (e xs (s9.seq (SqL.of hl)))
   have et:bs.take (i+1)=bs.take i++[ns]:=by rw [List.take_add_one,hni];rfl
   walk_at "w"
   refine iteT ?_
   walk_at "w"
   rename_i l3 H9 n9 s99 m9
   have hl9:=s99 _ _ hl'
   have ne:l3≠l2:=fun z=>by rw [z,hl'] at n9;cases n9
   refine ky [some (.ref a1)] _ H9 rfl s99 ⟨?_,fun z=>?_⟩
   ·rw [et]
    exact ((hp.1.same s99).off hl9 hp.2).snoc (by rw [upd_ne ne];exact m9) ((hns.same s99).off hl9)
   ·rcases List.mem_append.mp z with z|z
    ·exact hp.2 z
    ·have:=List.mem_singleton.mp z
     cases this
     exact ne rfl
  ·rw [List.take_length] at hp
   have ha9:=s9.at ha
   walk_at "w"
   rename_i p5 H5 s5 m5
   exact k p5 l2 H5 ys hl0 (s9.trans s5) ⟨SqT.of m5,(s9.trans s5).at hm,s5 _ _ hl',hp.1.same s5⟩
theorem sc_law_put:FnScope ["_law_tune_here","_law_span_here","_law_bars","_law_bar","_law_notes","_law_tone","_law_length"] ["_law_tune_here","_law_span_here"] (defScope s_law_put):=⟨rfl,rfl,rfl,by decide +kernel,rfl,by decide +kernel,by decide +kernel⟩
set_option maxHeartbeats 8000000 in
theorem ok_law_put (D:Def K mg "_law_put" s_law_put ["_law_tune_here","_law_span_here"]) (T:Txt K mg G):Ok P w K mg base 1 "_law_put" ["_law_tune_here","_law_span_here"] (sp_law_put K):=by
 have S:=sc_law_put
 refine D.ok S (fun vs H Q E h=>?_) (fun f cdv A outer s H vs Q E hr h=>?_)
 ·obtain ⟨a,m,l,b,mt,xs,bs,sq,rfl,⟨ha,hm,hl,hbs⟩,h12,h12n,hb,lq,k⟩:=h;rfl
 ·obtain ⟨a,m,l,b,mt,xs,bs,sq,rfl,⟨ha,hm,hl,hbs⟩,h12,h12n,hb,lq,k⟩:=h
  have hu:=hu_of hr
  have q_ONE:=T.q_ONE
  have q_BOUNDS:=T.q_BOUNDS
  refine⟨_,(pss_cons (ps_set (i:=2) S.nd rfl (Or.inl rfl) (pe_lst pa_nil)) (pss_cons (ps_for PassesOwn.never rfl (kpi_list K rfl (pe_ix (kx_seq K rfl) (pv 0) pe_int (fun _ _=>rfl))) (pg_name (i:=3) S.nd rfl (Or.inl rfl)) (pss_cons (ps_set (i:=4) S.nd rfl (Or.inl rfl) (pe_lst pa_nil)) (pss_cons (ps_for PassesOwn.never rfl (kpi_list K rfl (pv 3)) (kpg_tup (n:=2) K rfl rfl (pgs_cons (pg_name (i:=5) S.nd rfl (Or.inl rfl)) (pgs_cons (pg_name (i:=6) S.nd rfl (Or.inl rfl)) pgs_nil))) (pss_cons (ps_if (pt_cmpR op_notN (pv 5) pe_non (nomark _)) (pss_one (ps_set (i:=5) S.nd rfl (Or.inl rfl) (pe_callTy (kN_tuple K rfl) rfl T.b_tuple PyProof.Rows.boot_tuple (pa_cons (pe_comp (N:=["_law_x","_law_y"]) (ix:=[none,none]) rfl (kpi_zip2 K rfl true true rfl T.b_zip (pa_cons (pv 5) (pa_cons (pv 1) pa_nil))) (fun _ _ _ _ _=>(kpg_tup (n:=2) K rfl rfl (pgs_cons (pg_name (i:=0) (show List.Nodup (["_law_x","_law_y"]:List Str) by decide +kernel) rfl (Or.inl rfl)) (pgs_cons (pg_name (i:=1) (show List.Nodup (["_law_x","_law_y"]:List Str) by decide +kernel) rfl (Or.inl rfl)) pgs_nil)))) (fun _ _ _ _ _=>rfl) (fun _ _ _ _ _=>(pe_op op_add (pv 0) (pv 1))) rfl (by decide +kernel) (by decide +kernel) rfl True.intro) pa_nil)))) pss_nil) (pss_one (ps_expr (pe_bm PySem.F.plainAttrs_list PySem.F.slot_list_append PySem.F.type_list_append mt_append (pv 4) (@pa_cons _ _ _ _ _ (@pe_tup _ _ _ _ _ (pa_cons (pv 5) (pa_cons (pv 6) pa_nil))) pa_nil (by rfl))))))) (pss_one (ps_expr (pe_bm PySem.F.plainAttrs_list PySem.F.slot_list_append PySem.F.type_list_append mt_append (pv 2) (pa_cons (pv 4) pa_nil))))))) (pss_one (ps_ret (pe_tup (pa_cons (pe_ix (kx_seq K rfl) (pv 0) pe_int (fun _ _=>rfl)) (pa_cons (pv 2) pa_nil))))))),?_⟩
  have lx:=hbs.length
  obtain ⟨b0,b1,b2,b3,b4,rfl⟩:=Mth.five_of lq
  walk_at "w"
  rename_i p1 H1 n1 s1 m1
  refine f_invL (xs:=xs) (fun i σ Hn=>∃ (o1 o2 o3 o4:Option V) (ys:List V),σ=[some (.ref a),some (.ref b),some (.ref p1),o1,o2,o3,o4]∧Same H Hn∧Hn p1=some (.lst ys)∧BarsL K Hn ys ((bs.take i).map fun ns=>ns.map (mvN [b0,b1,b2,b3,b4]))∧(V.ref p1∉ys)∧ys.length=i) ⟨_,_,_,_,[],rfl,s1,m1,.nil,(fun z=>nomatch z),rfl⟩ (fun i σ Hn hp=>by obtain ⟨_,_,_,_,_,rfl,sn,_⟩:=hp;exact SqL.of (sn _ _ hl)) (fun i x σ Hn hx hp=>?_) (fun σ Hn hp=>?_)
  ·obtain ⟨o1,o2,o3,o4,ys,rfl,sn,mp,hB,hno,ly⟩:=hp
   have hi:i<xs.length:=(List.getElem?_eq_some_iff.mp hx).1
   obtain ⟨a1,zs,ns,rfl,hz,hns,hni⟩:=(hbs.same sn).get hx
   have hnm:ns∈bs:=List.mem_of_getElem? hni
   have et:bs.take (i+1)=bs.take i++[ns]:=by rw [List.take_add_one,hni];rfl
   have lz:=hns.length
   have l12:=h12n ns hnm
   walk_at "w"
   rename_i p2 H2 n2 s2 m2
   have ne2:p2≠p1:=fun z=>by rw [z,mp] at n2;cases n2
   refine f_invL (xs:=zs) (fun i' σ Hm=>∃ (o3 o4:Option V) (ws:List V),σ=[some (.ref a),some (.ref b),some (.ref p1),some (.ref a1),some (.ref p2),o3,o4]∧Same Hn Hm∧Hm p2=some (.lst ws)∧NotesL K Hm ws ((ns.take i').map (mvN [b0,b1,b2,b3,b4]))∧ws.length=i') ⟨_,_,[],rfl,s2,m2,.nil,rfl⟩ (fun i' σ Hm hp=>by obtain ⟨_,_,_,rfl,sm,_⟩:=hp;exact SqL.of (sm _ _ hz)) (fun i' x σ Hm hx' hp=>?_) (fun σ Hm hp=>?_)
   ·obtain ⟨o3,o4,ws,rfl,sm,mw,hN,lw⟩:=hp
    have hi':i'<zs.length:=(List.getElem?_eq_some_iff.mp hx').1
    obtain ⟨n,hno',hni'⟩:=(hns.same sm).get hx'
    have et':ns.take (i'+1)=ns.take i'++[n]:=by rw [List.take_add_one,hni'];rfl
    obtain ⟨an,t,ln,rfl,hn1,hn2,hn3⟩:=hno'
    obtain ⟨n1',nt,nb⟩:=n
    have hbm:SqT K Hm b [.int b0,.int b1,.int b2,.int b3,.int b4]:=(sn.trans sm).at hb
    refine r_gtup2 hn1 ?_
    cases n1' with
    | none =>
     obtain rfl:t=.non:=hn2
     walk_at "w"
     refine⟨rfl,?_⟩
     walk_at "w"
     refine if_ff rfl ?_
     walk_at "w"
     rename_i p7 H7 s7 m7
     have e7:=s7 _ _ mw
     refine r_append e7 (by lia) ?_
     walk_at "w"
     refine⟨_,_,ws++[.ref p7],rfl,(sm.trans s7).upd_old n2,upd_same,?_,by simp [lw]⟩
     rw [et',List.map_append]
     refine ((hN.same s7).off e7).snoc (n:=(none,nt,nb)) (NoteAt.off ⟨p7,.non,ln,rfl,SqT.of m7,rfl,s7.at hn3⟩ e7)
    | some r =>
     obtain ⟨ar,rfl,har,l5⟩:=hn2
     obtain ⟨r0,r1,r2,r3,r4,rfl⟩:=Mth.five_of l5
     walk_at "w"
     refine⟨rfl,?_⟩
     walk_at "w"
     refine if_tt rfl ?_
     walk_at "w"
     refine rd_zipRows (r:=[r0,r1,r2,r3,r4]) (q:=[b0,b1,b2,b3,b4]) (·+·) rfl har hbm rfl (by show 5≤1000;decide) fun l6 H6 n6 s6 m6=>?_
     walk_at "w"
     rename_i p8 H8 s8 m8 p9 H9 s9 m9
     have sZ:=(s6.trans s8).trans s9
     have e9:=sZ _ _ mw
     refine r_append e9 (by lia) ?_
     walk_at "w"
     refine⟨_,_,ws++[.ref p9],rfl,(sm.trans sZ).upd_old n2,upd_same,?_,by simp [lw]⟩
     rw [et',List.map_append]
     refine ((hN.same sZ).off e9).snoc (n:=(some [r0+b0,r1+b1,r2+b2,r3+b3,r4+b4],nt,nb)) (NoteAt.off ⟨p9,.ref p8,ln,rfl,SqT.of m9,⟨p8,rfl,s9.at (SqT.of m8),rfl⟩,sZ.at hn3⟩ e9)
   ·obtain ⟨o3,o4,ws,rfl,sm,mw,hN,lw⟩:=hp
    rw [← lz,List.take_length] at hN
    have e1:=sm _ _ mp
    walk_at "w"
    refine r_append e1 (by lia) ?_
    walk_at "w"
    refine⟨_,_,_,_,ys++[.ref p2],rfl,(sn.trans sm).upd_old n1,upd_same,?_,fun z=>?_,by simp [ly]⟩
    ·rw [et,List.map_append]
     exact ((hB.same sm).off e1 hno).snoc (by rw [upd_ne ne2];exact mw) (hN.off e1)
    ·rcases List.mem_append.mp z with z|z
     ·exact hno z
     ·have:=List.mem_singleton.mp z
      cases this
      exact ne2 rfl
  ·obtain ⟨o1,o2,o3,o4,ys,rfl,sn,mp,hB,hno,ly⟩:=hp
   rw [← lx,List.take_length] at hB
   have ha2:=sn.at ha
   walk_at "w"
   rename_i p7 H7 s7 m7
   exact k p7 p1 H7 ys n1 (sn.trans s7) ⟨SqT.of m7,(sn.trans s7).at hm,s7 _ _ mp,hB.same s7⟩
theorem sc_law_fits:FnScope ["_law_tune_here","_law_bar","_law_tone","_law_length","_law_number","_law_bound"] ["_law_tune_here"] (defScope s_law_fits):=⟨rfl,rfl,rfl,by decide +kernel,rfl,by decide +kernel,by decide +kernel⟩
set_option maxHeartbeats 8000000 in
theorem ok_law_fits (D:Def K mg "_law_fits" s_law_fits ["_law_tune_here"]) (T:Txt K mg G):Ok P w K mg base 1 "_law_fits" ["_law_tune_here"] (sp_law_fits K):=by
 have S:=sc_law_fits
 refine D.ok S (fun vs H Q E h=>?_) (fun f cdv A outer s H vs Q E hr h=>?_)
 ·obtain ⟨a,m,l,mt,xs,bs,rfl,⟨ha,hm,hl,hbs⟩,h12,h12n,kF,kT⟩:=h;rfl
 ·obtain ⟨a,m,l,mt,xs,bs,rfl,⟨ha,hm,hl,hbs⟩,h12,h12n,kF,kT⟩:=h
  have hu:=hu_of hr
  have q_ONE:=T.q_ONE
  have q_BOUNDS:=T.q_BOUNDS
  refine⟨_,(@pss_cons _ _ _ _ _ (ps_for PassesOwn.never rfl (kpi_list K rfl (pe_ix (kx_seq K rfl) (pv 0) pe_int (fun _ _=>rfl))) (pg_name (i:=1) S.nd rfl (Or.inl rfl)) (@pss_one _ _ _ (ps_for PassesOwn.never rfl (kpi_list K rfl (pv 1)) (kpg_tup (n:=2) K rfl rfl (pgs_cons (pg_name (i:=2) S.nd rfl (Or.inl rfl)) (pgs_cons (pg_name (i:=3) S.nd rfl (Or.inl rfl)) pgs_nil))) (@pss_one _ _ _ (ps_if (pt_cmpR op_notN (pv 2) pe_non (nomark _)) (@pss_one _ _ _ (ps_for PassesOwn.never rfl (kpi_zip2 K rfl true false rfl T.b_zip (@pa_cons _ _ _ _ _ (pv 2) (@pa_cons _ _ _ _ _ (@pe_lstC _ _ _ _ (by rfl)) pa_nil (by rfl)) (by rfl))) (kpg_tup (n:=2) K rfl rfl (pgs_cons (pg_name (i:=4) S.nd rfl (Or.inl rfl)) (pgs_cons (pg_name (i:=5) S.nd rfl (Or.inl rfl)) pgs_nil))) (pss_one (ps_if (pt_cmpR op_gt (pe_callB callN_abs rfl T.b_abs PyProof.Rows.boot_abs (pa_cons (pv 4) pa_nil)) (pv 5) (nomark _)) (pss_one (ps_ret pe_bl)) pss_nil)))) pss_nil))))) (pss_one (ps_ret pe_bl))),?_⟩
  have lx:=hbs.length
  walk_at "w"
  refine f_invL (xs:=xs) (fun i σ Hn=>∃ (o1 o2 o3 o4 o5:Option V),σ=[some (.ref a),o1,o2,o3,o4,o5]∧Same H Hn∧∀ ns∈bs.take i,∀ n∈ns,okT n=true) ⟨_,_,_,_,_,rfl,Same.refl _,by simp⟩ (fun i σ Hn hp=>by obtain ⟨_,_,_,_,_,rfl,sn,_⟩:=hp;exact SqL.of (sn _ _ hl)) (fun i x σ Hn hx hp=>?_) (fun σ Hn hp=>?_)
  ·obtain ⟨o1,o2,o3,o4,o5,rfl,sn,hG⟩:=hp
   have hi:i<xs.length:=(List.getElem?_eq_some_iff.mp hx).1
   obtain ⟨a1,zs,ns,rfl,hz,hns,hni⟩:=(hbs.same sn).get hx
   have hnm:ns∈bs:=List.mem_of_getElem? hni
   have et:bs.take (i+1)=bs.take i++[ns]:=by rw [List.take_add_one,hni];rfl
   have lz:=hns.length
   walk_at "w"
   refine f_invL (xs:=zs) (fun i' σ Hm=>∃ (o2 o3 o4 o5:Option V),σ=[some (.ref a),some (.ref a1),o2,o3,o4,o5]∧Same Hn Hm∧∀ n∈ns.take i',okT n=true) ⟨_,_,_,_,rfl,Same.refl _,by simp⟩ (fun i' σ Hm hp=>by obtain ⟨_,_,_,_,rfl,sm,_⟩:=hp;exact SqL.of (sm _ _ hz)) (fun i' x σ Hm hx' hp=>?_) (fun σ Hm hp=>?_)
   ·obtain ⟨o2,o3,o4,o5,rfl,sm,hG'⟩:=hp
    have hi':i'<zs.length:=(List.getElem?_eq_some_iff.mp hx').1
    obtain ⟨n,hno',hni'⟩:=(hns.same sm).get hx'
    have hnn:n∈ns:=List.mem_of_getElem? hni'
    have et':ns.take (i'+1)=ns.take i'++[n]:=by rw [List.take_add_one,hni'];rfl
    obtain ⟨an,t,ln,rfl,hn1,hn2,hn3⟩:=hno'
    obtain ⟨n1',nt,nb⟩:=n
    refine r_gtup2 hn1 ?_
    cases n1' with
    | none =>
     obtain rfl:t=.non:=hn2
     walk_at "w"
     refine⟨rfl,?_⟩
     walk_at "w"
     refine if_ff rfl ?_
     walk_at "w"
     refine⟨_,_,_,_,rfl,sm,fun n hn=>?_⟩
     rw [et'] at hn
     rcases List.mem_append.mp hn with z|z
     ·exact hG' n z
     ·rw [List.mem_singleton.mp z];rfl
    | some r =>
     obtain ⟨ar,rfl,har,l5⟩:=hn2
     obtain ⟨r0,r1,r2,r3,r4,rfl⟩:=Mth.five_of l5
     walk_at "w"
     refine⟨rfl,?_⟩
     walk_at "w"
     refine if_tt rfl ?_
     walk_at "w"
     rename_i p7 H7 n7 s7 m7
     refine f_invZ (k1:=true) (k2:=false) (xs:=[.int r0,.int r1,.int r2,.int r3,.int r4]) (ys:=[.int 700,.int 60,.int 60,.int 60,.int 60]) rfl (fun i2 σ Hz=>∃ (o4 o5:Option V),σ=[some (.ref a),some (.ref a1),some (.ref ar),some (.ref ln),o4,o5]∧Same H7 Hz∧∀ i3<i2,∀ x b:Int,([r0,r1,r2,r3,r4]:List Int)[i3]?=some x→([700,60,60,60,60]:List Int)[i3]?=some b→(if x<0 then -x else x)≤b) ⟨_,_,rfl,Same.refl _,fun i3 h3=>by lia⟩ (fun i2 σ Hz hp=>by obtain ⟨_,_,rfl,sz,_⟩:=hp;exact⟨sqt_sq ((s7.trans sz).at har),sql_sq (SqL.of (sz _ _ m7))⟩) (fun i2 x y σ Hz Hy hx2 hy2 hp sy=>?_) (fun σ Hz hp=>?_)
     ·obtain ⟨o4,o5,rfl,sz,hG2⟩:=hp
      obtain ⟨rfl,q1⟩:=int_get (r:=[r0,r1,r2,r3,r4]) hx2
      obtain ⟨rfl,q2⟩:=int_get (r:=[700,60,60,60,60]) hy2
      have w1:([r0,r1,r2,r3,r4]:List Int)[i2]?=some (([r0,r1,r2,r3,r4]:List Int).getD i2 0):=by rw [List.getD,List.getElem?_eq_getElem q1];rfl
      have w2:([700,60,60,60,60]:List Int)[i2]?=some (([700,60,60,60,60]:List Int).getD i2 0):=by rw [List.getD,List.getElem?_eq_getElem q2];rfl
      generalize ([r0,r1,r2,r3,r4]:List Int).getD i2 0=xx at *
      generalize ([700,60,60,60,60]:List Int).getD i2 0=yy at *
      walk_at "w"
      refine if_both (fun h1=>?_) (fun h1=>?_)
      ·walk_at "w"
       refine kF ⟨ns,hnm,_,hnn,?_⟩ _ ((((sn.trans sm).trans s7).trans sz).trans sy)
       exact fits_bad w1 w2 (of_decide_eq_true h1)
      ·walk_at "w"
       refine⟨_,_,rfl,sz.trans sy,fun i3 h3 x b hx hb=>?_⟩
       by_cases hlt:i3<i2
       ·exact hG2 i3 hlt x b hx hb
       ·obtain rfl:i3=i2:=by lia
        rw [w1] at hx
        rw [w2] at hb
        cases hx
        cases hb
        have:=of_decide_eq_false h1
        lia
     ·obtain ⟨o4,o5,rfl,sz,hG2⟩:=hp
      walk_at "w"
      refine⟨_,_,_,_,rfl,(sm.trans s7).trans sz,fun n hn=>?_⟩
      rw [et'] at hn
      rcases List.mem_append.mp hn with z|z
      ·exact hG' n z
      ·rw [List.mem_singleton.mp z]
       exact fits_good hG2
   ·obtain ⟨o2,o3,o4,o5,rfl,sm,hG'⟩:=hp
    rw [← lz,List.take_length] at hG'
    walk_at "w"
    refine⟨_,_,_,_,_,rfl,sn.trans sm,fun q hq=>?_⟩
    rw [et] at hq
    rcases List.mem_append.mp hq with z|z
    ·exact hG q z
    ·rw [List.mem_singleton.mp z];exact hG'
  ·obtain ⟨o1,o2,o3,o4,o5,rfl,sn,hG⟩:=hp
   rw [← lx,List.take_length] at hG
   walk_at "w"
   exact kT hG _ sn
theorem sc_law_span:FnScope ["_law_script","_law_at","_law_wide","_law_span_here","_law_k","_law_bound"] ["_law_script","_law_at","_law_wide"] (defScope s_law_span):=⟨rfl,rfl,rfl,by decide +kernel,rfl,by decide +kernel,by decide +kernel⟩
structure Os_law_span (P:Program) (w:World) (K:PySem.W.Frag) (mg:Str→Option Value) (base:Heap) (G:Adr):Prop where
 law_cell_at:Ok P w K mg base 1 "_law_cell_at" ["_law_script","_law_k"] (sp_law_cell_at K)
set_option maxHeartbeats 8000000 in
theorem ok_law_span (D:Def K mg "_law_span" s_law_span ["_law_script","_law_at","_law_wide"]) (T:Txt K mg G) (O:Os_law_span P w K mg base G):Ok P w K mg base 2 "_law_span" ["_law_script","_law_at","_law_wide"] (sp_law_span K):=by
 have S:=sc_law_span
 refine D.ok S (fun vs H Q E h=>?_) (fun f cdv A outer s H vs Q E hr h=>?_)
 ·obtain ⟨a,ns,j,wd,rfl,ha,hj0,hj1,k⟩:=h;rfl
 ·obtain ⟨a,ns,j,wd,rfl,ha,hj0,hj1,k⟩:=h
  have hu:=hu_of hr
  have q_ONE:=T.q_ONE
  have q_BOUNDS:=T.q_BOUNDS
  refine⟨_,(@pss_cons _ _ _ _ _ (ps_set (i:=3) S.nd rfl (Or.inl rfl) (pe_lst pa_nil)) (@pss_cons _ _ _ _ _ (ps_for PassesOwn.never rfl (pi_range1 rfl T.b_range (pa_cons pe_int pa_nil)) (pg_name (i:=4) S.nd rfl (Or.inl rfl)) (@pss_cons _ _ _ _ _ (@ps_set _ _ 5 _ _ _ _ S.nd rfl (Or.inl rfl) (pe_ifExp (pt_val (pv 2)) (pe_ix (kx_seq K rfl) (@pe_lstC _ _ _ _ (by rfl)) (pv 4) (fun _ _=>rfl)) (pe_ix (kx_seq K rfl) (@pe_lstC _ _ _ _ (by rfl)) (pv 4) (fun _ _=>rfl))) (by rfl) (by first|exact .inl rfl|exact .inr rfl|assumption)) (pss_one (ps_expr (pe_bm PySem.F.plainAttrs_list PySem.F.slot_list_append PySem.F.type_list_append mt_append (pv 3) (pa_cons (pe_op op_sub (pe_op op_mod (pcall O.law_cell_at (hr.mono (by decide)) (pa_cons (pv 0) (pa_cons (pe_op op_add (pv 1) (pv 4)) pa_nil))) (pe_op op_add (pe_op op_mul pe_int (pv 5)) pe_int)) (pv 5)) pa_nil)))))) (pss_one (ps_ret (pe_callTy (kN_tuple K rfl) rfl T.b_tuple PyProof.Rows.boot_tuple (pa_cons (pv 3) pa_nil)))))),?_⟩
  walk_at "w"
  rename_i p1 H1 n1 s1 m1
  refine f_invR (fun i σ Hn=>∃ (o1 o2:Option V) (ps:List Int),σ=[some (.ref a),some (.int j),some (.bl wd),some (.ref p1),o1,o2]∧Same H Hn∧Hn p1=some (.lst (ps.map V.int))∧ps.length=i∧(∀ (n:Nat) (x b:Int),ps[n]?=some x→(bdW wd)[n]?=some b→-b≤x∧x≤b)) ⟨_,_,[],rfl,s1,m1,rfl,fun n x b h=>by simp at h⟩ (fun i σ Hn hi hp=>?_) (fun σ Hn hp=>?_)
  ·obtain ⟨o1,o2,ps,rfl,sn,mp,lp,hpb⟩:=hp
   have han:=sn.seq ha
   walk_at "w"
   cases wd with
   | true =>
    refine if_tt rfl ?_
    walk_at "w"
    rename_i p7 H7 n7 s7 m7
    obtain ⟨B,hB,hB2,hBb⟩:∃ B:Int,atI [V.int 700,.int 60,.int 60,.int 60,.int 60] (0+(i:Int))=some (.int B)∧(∃ B2,(bdW true)[i]?=some B2∧B≤B2)∧(0≤B∧B≤700):=by
     match i,(show i<5 from hi) with
     | 0,_=>exact⟨_,rfl,⟨_,rfl,by decide⟩,by decide⟩
     | 1,_=>exact⟨_,rfl,⟨_,rfl,by decide⟩,by decide⟩
     | 2,_=>exact⟨_,rfl,⟨_,rfl,by decide⟩,by decide⟩
     | 3,_=>exact⟨_,rfl,⟨_,rfl,by decide⟩,by decide⟩
     | 4,_=>exact⟨_,rfl,⟨_,rfl,by decide⟩,by decide⟩
    refine r_ixL (SqL.of m7) hB ?_
    have ha7:=s7.seq han
    have mp7:=s7 _ _ mp
    have hi5:i<5:=hi
    walk_at "w"
    obtain ⟨cc,hcc⟩:∃ cc:Int,ns.getD (j+(0+(i:Int))).toNat 0=cc:=⟨_,rfl⟩
    rw [hcc]
    have z1:=Int.emod_nonneg cc (show 2*B+1≠0 by lia)
    have z2:=Int.emod_lt_of_pos cc (show 0<2*B+1 by lia)
    refine r_append mp7 (by rw [List.length_map];lia) ?_
    walk_at "w"
    refine⟨_,_,ps++[cc % (2*B+1) - B],rfl,(sn.trans s7).upd_old n1,by rw [upd_same,List.map_append];rfl,by simp [lp],fun n x b hx hb=>?_⟩
    by_cases hlt:n<ps.length
    ·rw [List.getElem?_append_left hlt] at hx
     exact hpb n x b hx hb
    ·have hn:n=i:=by
      have:=(List.getElem?_eq_some_iff.mp hx).1
      rw [List.length_append,List.length_singleton] at this
      lia
     subst hn
     rw [List.getElem?_append_right (by lia),show n - ps.length=0 by lia] at hx
     cases hx
     obtain ⟨B2,w1,w2⟩:=hB2
     rw [w1] at hb
     cases hb
     lia
   | false =>
    refine if_ff rfl ?_
    walk_at "w"
    rename_i p7 H7 n7 s7 m7
    obtain ⟨B,hB,hB2,hBb⟩:∃ B:Int,atI [V.int 12,.int 4,.int 3,.int 3,.int 3] (0+(i:Int))=some (.int B)∧(∃ B2,(bdW false)[i]?=some B2∧B≤B2)∧(0≤B∧B≤700):=by
     match i,(show i<5 from hi) with
     | 0,_=>exact⟨_,rfl,⟨_,rfl,by decide⟩,by decide⟩
     | 1,_=>exact⟨_,rfl,⟨_,rfl,by decide⟩,by decide⟩
     | 2,_=>exact⟨_,rfl,⟨_,rfl,by decide⟩,by decide⟩
     | 3,_=>exact⟨_,rfl,⟨_,rfl,by decide⟩,by decide⟩
     | 4,_=>exact⟨_,rfl,⟨_,rfl,by decide⟩,by decide⟩
    refine r_ixL (SqL.of m7) hB ?_
    have ha7:=s7.seq han
    have mp7:=s7 _ _ mp
    have hi5:i<5:=hi
    walk_at "w"
    obtain ⟨cc,hcc⟩:∃ cc:Int,ns.getD (j+(0+(i:Int))).toNat 0=cc:=⟨_,rfl⟩
    rw [hcc]
    have z1:=Int.emod_nonneg cc (show 2*B+1≠0 by lia)
    have z2:=Int.emod_lt_of_pos cc (show 0<2*B+1 by lia)
    refine r_append mp7 (by rw [List.length_map];lia) ?_
    walk_at "w"
    refine⟨_,_,ps++[cc % (2*B+1) - B],rfl,(sn.trans s7).upd_old n1,by rw [upd_same,List.map_append];rfl,by simp [lp],fun n x b hx hb=>?_⟩
    by_cases hlt:n<ps.length
    ·rw [List.getElem?_append_left hlt] at hx
     exact hpb n x b hx hb
    ·have hn:n=i:=by
      have:=(List.getElem?_eq_some_iff.mp hx).1
      rw [List.length_append,List.length_singleton] at this
      lia
     subst hn
     rw [List.getElem?_append_right (by lia),show n - ps.length=0 by lia] at hx
     cases hx
     obtain ⟨B2,w1,w2⟩:=hB2
     rw [w1] at hb
     cases hb
     lia
  ·obtain ⟨o1,o2,ps,rfl,sn,mp,lp,hpb⟩:=hp
   walk_at "w"
   rename_i p7 H7 s7 m7
   exact k p7 H7 ps (sn.trans s7) m7 lp hpb
theorem sc_law_told:FnScope ["_law_move","_law_tune_here","_law_found"] ["_law_move","_law_tune_here"] (defScope s_law_told):=⟨rfl,rfl,rfl,by decide +kernel,rfl,by decide +kernel,by decide +kernel⟩
structure Os_law_told (P:Program) (w:World) (K:PySem.W.Frag) (mg:Str→Option Value) (base:Heap) (G:Adr):Prop where
 moved:OkX P w K mg base 10 "moved" ["tune","span"] (sp_moved K)
set_option maxHeartbeats 4000000 in
theorem ok_law_told (D:Def K mg "_law_told" s_law_told ["_law_move","_law_tune_here"]) (T:Txt K mg G) (O:Os_law_told P w K mg base G):Ok P w K mg base 13 "_law_told" ["_law_move","_law_tune_here"] (sp_law_told K):=by
 have S:=sc_law_told
 refine D.ok S (fun vs H Q E h=>?_) (fun f cdv A outer s H vs Q E hr h=>?_)
 ·obtain ⟨f,cS,b,a,m,l,ob,mt,xs,bs,sq,rfl,hM,hTu,h100,h100n,hb,lq,hT,kE,kQ⟩:=h;rfl
 ·obtain ⟨f,cS,b,a,m,l,ob,mt,xs,bs,sq,rfl,hM,hTu,h100,h100n,hb,lq,hT,kE,kQ⟩:=h
  have hu:=hu_of hr
  have q_ONE:=T.q_ONE
  have q_BOUNDS:=T.q_BOUNDS
  refine⟨_,(pss_cons (ps_set (i:=2) S.nd rfl (Or.inl rfl) pe_non) (pss_cons (ps_tryN rfl rfl rfl (fun _ _=>(pss_one (ps_set (i:=2) S.nd rfl (Or.inl rfl) (pe_callLX (k:=11) (i:=0) (p:="tune") (y:="span") (q:="mover.<locals>.<lambda>") (params:=lamP mvE) (body:=lamB mvE) (scope:=lamS mvE) (hr.mono (by decide)) (fun _ _ z=>z) rfl rfl (Or.inl rfl) (pv 1) (fun _ _ _ _ _=>rfl) rfl rfl rfl rfl (by decide +kernel) (lam_free1 rfl) rfl (fun _ _ _ _ _ _ _=>(pcallX O.moved (((hr.mono (show 10+1≤_ by decide)).deeper _).mono (by decide)) (fun _ _ z=>z) rfl (pa_cons (pv 0) (pa_cons (pv 1) pa_nil)))))))) (.cons0 T.h_TooFar rfl T.g_TooFar (fun _=>(pss_one (ps_set (i:=2) S.nd rfl (Or.inl rfl) (pe_tup (pa_cons pe_str pa_nil))))) .nil)) (pss_one (ps_ret (pv 2))))),?_⟩
  obtain ⟨c',cl,l1,l2,l3,l4,hcS⟩:=id hM
  walk_at "w"
  refine⟨f,rfl,⟨_,_,_,_,_,_,l1⟩,?_⟩
  walk_at "w"
  refine⟨cS,.ref b,ob,hM,?_⟩
  walk_at "w"
  refine c_moved ⟨hTu.del hcS,h100,h100n,sqT_del hb hcS,lq,hT.del hcS⟩ ⟨fun hbad C H2 hC s2 hT2=>?_,fun hgood t2 l2 H2 ys n2 s2 hT2 f2 h2=>?_⟩
  ·refine⟨C,rfl,fun hn=>⟨C,rfl,?_⟩⟩
   obtain rfl:C=G.a_TooFar:=by rw [T.m_TooFar] at hC;cases hC;rfl
   have sZ:=SameS.del hcS s2
   have tZ:TabK K (upd H2 cS (cellO cS (.ref b) ob)):=hT2.back hn
   generalize upd H2 cS (cellO cS (.ref b) ob)=HZ at sZ tZ ⊢
   refine r_takes0 T.s_TooFar_TooFar fun ae hae=>?_
   have sX:Same HZ (upd HZ ae (ExcO ae G.a_TooFar)):=Same.upd_new hae
   generalize upd HZ ae (ExcO ae G.a_TooFar)=HY at sX ⊢
   walk_at "w"
   rename_i p5 H5 s5 m5
   have sW:=sX.trans s5
   exact kE hbad p5 H5 (sZ.trans (SameS.of sW)) (tZ.same sW) m5
  ·intro hn
   walk_at "w"
   exact kQ hgood t2 l2 _ ys (SameS.del hcS s2) (hT2.back hn) (h2.same (Same.upd_new hn))
theorem sc_law:FnScope ["_law_script","_law_one","_law_other","_law_near","_law_next_span","_law_far","_law_first","_law_second","_law_third","_law_handed","_law_kept","_law_both","_law_tune_here","_law_due"] ["_law_script"] (defScope s_law):=⟨rfl,rfl,rfl,by decide +kernel,rfl,by decide +kernel,by decide +kernel⟩
structure Os_law (P:Program) (w:World) (K:PySem.W.Frag) (mg:Str→Option Value) (base:Heap) (G:Adr):Prop where
 moved:OkX P w K mg base 10 "moved" ["tune","span"] (sp_moved K)
 mover:Ok P w K mg base 11 "mover" ["span"] (sp_mover K)
 law_alike:Ok P w K mg base 7 "_law_alike" ["_law_found","_law_due"] (sp_law_alike K 6)
 law_tune:Ok P w K mg base 3 "_law_tune" ["_law_script","_law_at"] (sp_law_tune K)
 law_copy:Ok P w K mg base 1 "_law_copy" ["_law_tune_here"] (sp_law_copy K)
 law_put:Ok P w K mg base 1 "_law_put" ["_law_tune_here","_law_span_here"] (sp_law_put K)
 law_fits:Ok P w K mg base 1 "_law_fits" ["_law_tune_here"] (sp_law_fits K)
 law_span:Ok P w K mg base 2 "_law_span" ["_law_script","_law_at","_law_wide"] (sp_law_span K)
 law_told:Ok P w K mg base 13 "_law_told" ["_law_move","_law_tune_here"] (sp_law_told K)
set_option maxHeartbeats 8000000 in
theorem fn_law {f:Addr} {fd:FuncData} (F:Fun K "law" "law" s_law f fd) (T:Txt K mg G) (O:Os_law P w K mg base G):FnOk P w K mg base CX0 16 f fd ["_law_script"] ((spLawTs fun K=>[((tabP K "moved"),lmL,"moved.<locals>.<lambda>"),((tabP K "mover"),mvL,"mover.<locals>.<lambda>")]) K):=by
 have S:=sc_law
 refine F.ok S (fun vs H Q E h=>?_) (fun cdv A outer s H vs Q E hr h=>?_)
 ·obtain ⟨a,ns,rfl,hS,hlen,hT,k⟩:=h;rfl
 ·obtain ⟨a,ns,rfl,hS,hlen,hT,k⟩:=h
  have hu:=hu_of hr
  have q_ONE:=T.q_ONE
  have q_BOUNDS:=T.q_BOUNDS
  refine⟨_,(pss_cons (ps_set (i:=1) S.nd rfl (Or.inl rfl) (pcall O.law_tune (hr.mono (by decide)) (pa_cons (pv 0) (pa_cons pe_int pa_nil)))) (pss_cons (ps_set (i:=2) S.nd rfl (Or.inl rfl) (pcall O.law_tune (hr.mono (by decide)) (pa_cons (pv 0) (pa_cons pe_int pa_nil)))) (pss_cons (ps_set (i:=3) S.nd rfl (Or.inl rfl) (pcall O.law_span (hr.mono (by decide)) (pa_cons (pv 0) (pa_cons pe_int (pa_cons pe_bl pa_nil))))) (pss_cons (ps_set (i:=4) S.nd rfl (Or.inl rfl) (pcall O.law_span (hr.mono (by decide)) (pa_cons (pv 0) (pa_cons pe_int (pa_cons pe_bl pa_nil))))) (pss_cons (ps_set (i:=5) S.nd rfl (Or.inl rfl) (pcall O.law_span (hr.mono (by decide)) (pa_cons (pv 0) (pa_cons pe_int (pa_cons pe_bl pa_nil))))) (pss_cons (ps_set (i:=6) S.nd rfl (Or.inl rfl) (pcall O.mover (hr.mono (by decide)) (pa_cons (pv 3) pa_nil))) (pss_cons (ps_set (i:=7) S.nd rfl (Or.inl rfl) (pcall O.mover (hr.mono (by decide)) (pa_cons (pv 4) pa_nil))) (pss_cons (ps_set (i:=8) S.nd rfl (Or.inl rfl) (pcall O.mover (hr.mono (by decide)) (pa_cons (pv 5) pa_nil))) (pss_cons (ps_set (i:=9) S.nd rfl (Or.inl rfl) (pcall O.law_copy (hr.mono (by decide)) (pa_cons (pv 1) pa_nil))) (pss_cons (ps_set (i:=10) S.nd rfl (Or.inl rfl) (pe_callL (k:=11) (i:=6) (p:="tune") (y:="span") (q:="mover.<locals>.<lambda>") (params:=lamP mvE) (body:=lamB mvE) (scope:=lamS mvE) (hr.mono (by decide)) rfl (Or.inl rfl) (pv 9) (fun _ _ z=>z.elim) (fun _ _ _ _ _=>rfl) rfl rfl rfl rfl (by decide +kernel) (lam_free1 rfl) rfl (fun _ _ _ _ _=>(pcallX (EX:=fun _ _ _=>False) O.moved (((hr.mono (show 10+1≤_ by decide)).deeper _).mono (by decide)) noraise rfl (pa_cons (pv 0) (pa_cons (pv 1) pa_nil)))))) (pss_cons (ps_if (PW.pt (pw_or (pt_not (pt_val (pcall O.law_alike (hr.mono (by decide)) (pa_cons (pe_callL (k:=11) (i:=7) (p:="tune") (y:="span") (q:="mover.<locals>.<lambda>") (params:=lamP mvE) (body:=lamB mvE) (scope:=lamS mvE) (hr.mono (by decide)) rfl (Or.inl rfl) (pcall O.law_copy (hr.mono (by decide)) (pa_cons (pv 2) pa_nil)) (fun _ _ z=>z.elim) (fun _ _ _ _ _=>rfl) rfl rfl rfl rfl (by decide +kernel) (lam_free1 rfl) rfl (fun _ _ _ _ _=>(pcallX (EX:=fun _ _ _=>False) O.moved (((hr.mono (show 10+1≤_ by decide)).deeper _).mono (by decide)) noraise rfl (pa_cons (pv 0) (pa_cons (pv 1) pa_nil))))) (pa_cons (pcall O.law_put (hr.mono (by decide)) (pa_cons (pv 2) (pa_cons (pv 4) pa_nil))) pa_nil))))) (pw_or1 (pt_not (pt_val (pcall O.law_alike (hr.mono (by decide)) (pa_cons (pv 9) (pa_cons (pv 1) pa_nil)))))))) (pss_one (ps_ret pe_bl)) pss_nil) (pss_cons (ps_set (i:=11) S.nd rfl (Or.inl rfl) (pe_callTy (kN_tuple K rfl) rfl T.b_tuple PyProof.Rows.boot_tuple (pa_cons (pe_comp (N:=["_law_x","_law_y"]) (ix:=[none,none]) rfl (kpi_zip2 K rfl true true rfl T.b_zip (pa_cons (pv 3) (pa_cons (pv 4) pa_nil))) (fun _ _ _ _ _=>(kpg_tup (n:=2) K rfl rfl (pgs_cons (pg_name (i:=0) (show List.Nodup (["_law_x","_law_y"]:List Str) by decide +kernel) rfl (Or.inl rfl)) (pgs_cons (pg_name (i:=1) (show List.Nodup (["_law_x","_law_y"]:List Str) by decide +kernel) rfl (Or.inl rfl)) pgs_nil)))) (fun _ _ _ _ _=>rfl) (fun _ _ _ _ _=>(pe_op op_add (pv 0) (pv 1))) rfl (by decide +kernel) (by decide +kernel) rfl True.intro) pa_nil))) (pss_cons (ps_if (pt_not (pt_val (pcall O.law_alike (hr.mono (by decide)) (pa_cons (pe_callL (k:=11) (i:=7) (p:="tune") (y:="span") (q:="mover.<locals>.<lambda>") (params:=lamP mvE) (body:=lamB mvE) (scope:=lamS mvE) (hr.mono (by decide)) rfl (Or.inl rfl) (pe_callL (k:=11) (i:=6) (p:="tune") (y:="span") (q:="mover.<locals>.<lambda>") (params:=lamP mvE) (body:=lamB mvE) (scope:=lamS mvE) (hr.mono (by decide)) rfl (Or.inl rfl) (pv 9) (fun _ _ z=>z.elim) (fun _ _ _ _ _=>rfl) rfl rfl rfl rfl (by decide +kernel) (lam_free1 rfl) rfl (fun _ _ _ _ _=>(pcallX (EX:=fun _ _ _=>False) O.moved (((hr.mono (show 10+1≤_ by decide)).deeper _).mono (by decide)) noraise rfl (pa_cons (pv 0) (pa_cons (pv 1) pa_nil))))) (fun _ _ z=>z.elim) (fun _ _ _ _ _=>rfl) rfl rfl rfl rfl (by decide +kernel) (lam_free1 rfl) rfl (fun _ _ _ _ _=>(pcallX (EX:=fun _ _ _=>False) O.moved (((hr.mono (show 10+1≤_ by decide)).deeper _).mono (by decide)) noraise rfl (pa_cons (pv 0) (pa_cons (pv 1) pa_nil))))) (pa_cons (pcall O.law_put (hr.mono (by decide)) (pa_cons (pv 1) (pa_cons (pv 11) pa_nil))) pa_nil))))) (pss_one (ps_ret pe_bl)) pss_nil) (pss_cons (ps_for PassesOwn.never rfl (kpi_list K rfl (pe_lst (pa_cons (pv 1) (pa_cons (pv 2) (pa_cons (pv 1) pa_nil))))) (pg_name (i:=12) S.nd rfl (Or.inl rfl)) (pss_cons (ps_set (i:=13) S.nd rfl (Or.inl rfl) (pcall O.law_put (hr.mono (by decide)) (pa_cons (pv 12) (pa_cons (pv 5) pa_nil)))) (pss_cons (ps_if (pt_not (pt_val (pcall O.law_fits (hr.mono (by decide)) (pa_cons (pv 13) pa_nil)))) (pss_one (ps_set (i:=13) S.nd rfl (Or.inl rfl) (pe_tup (pa_cons pe_str pa_nil)))) pss_nil) (pss_one (ps_if (pt_not (pt_val (pcall O.law_alike (hr.mono (by decide)) (pa_cons (pcall O.law_told (hr.mono (by decide)) (pa_cons (pv 8) (pa_cons (pcall O.law_copy (hr.mono (by decide)) (pa_cons (pv 12) pa_nil)) pa_nil))) (pa_cons (pv 13) pa_nil))))) (pss_one (ps_ret pe_bl)) pss_nil))))) (pss_cons (ps_if (pt_not (pt_val (pcall O.law_alike (hr.mono (by decide)) (pa_cons (pe_callL (k:=11) (i:=6) (p:="tune") (y:="span") (q:="mover.<locals>.<lambda>") (params:=lamP mvE) (body:=lamB mvE) (scope:=lamS mvE) (hr.mono (by decide)) rfl (Or.inl rfl) (pcall O.law_copy (hr.mono (by decide)) (pa_cons (pv 2) pa_nil)) (fun _ _ z=>z.elim) (fun _ _ _ _ _=>rfl) rfl rfl rfl rfl (by decide +kernel) (lam_free1 rfl) rfl (fun _ _ _ _ _=>(pcallX (EX:=fun _ _ _=>False) O.moved (((hr.mono (show 10+1≤_ by decide)).deeper _).mono (by decide)) noraise rfl (pa_cons (pv 0) (pa_cons (pv 1) pa_nil))))) (pa_cons (pcall O.law_put (hr.mono (by decide)) (pa_cons (pv 2) (pa_cons (pv 3) pa_nil))) pa_nil))))) (pss_one (ps_ret pe_bl)) pss_nil) (pss_one (ps_ret (pe_and (pcall O.law_alike (hr.mono (by decide)) (pa_cons (pv 10) (pa_cons (pcall O.law_put (hr.mono (by decide)) (pa_cons (pv 1) (pa_cons (pv 3) pa_nil))) pa_nil))) (pe_one (pcall O.law_alike (hr.mono (by decide)) (pa_cons (pv 9) (pa_cons (pv 1) pa_nil)))))))))))))))))))))),?_⟩
  walk_at "w"
  refine c_law_tune ⟨hS,by lia,by lia⟩ fun t1 m1 l1 H1 mt1 xs1 bs1 s1 tu1 ok1=>?_
  have hS1:=s1.seq hS
  walk_at "w"
  refine c_law_tune ⟨hS1,by lia,by lia⟩ fun t2 m2 l2 H2 mt2 xs2 bs2 s2 tu2 ok2=>?_
  have hS2:=s2.seq hS1
  walk_at "w"
  refine c_law_span ⟨hS2,by lia,by lia⟩ fun b1 H3 q1 s3 mb1 lq1 bd1=>?_
  have hS3:=s3.seq hS2
  walk_at "w"
  refine c_law_span ⟨hS3,by lia,by lia⟩ fun b2 H4 q2 s4 mb2 lq2 bd2=>?_
  have hS4:=s4.seq hS3
  walk_at "w"
  refine c_law_span ⟨hS4,by lia,by lia⟩ fun b3 H5 q3 s5 mb3 lq3 bd3=>?_
  have s25:=(s3.trans s4).trans s5
  have hT5:TabK K H5:=hT.same ((s1.trans s2).trans s25)
  have hb1:SqT K H5 b1 (q1.map V.int):=(s4.trans s5).at (SqT.of mb1)
  have hb2:SqT K H5 b2 (q2.map V.int):=s5.at (SqT.of mb2)
  have hb3:SqT K H5 b3 (q3.map V.int):=SqT.of mb3
  have tu1:=tu1.same (s2.trans s25)
  have tu2:=tu2.same s25
  clear hS hS1 hS2 hS3 hS4 mb1 mb2 mb3 hT s25
  walk_at "w"
  refine c_mover ⟨hb1,lq1,hT5⟩ fun f1 c1 ob1 H6 sm6 hT6 M1=>?_
  walk_at "w"
  refine c_mover ⟨sm6.at hT5 hb2,lq2,hT6⟩ fun f2 c2 ob2 H7 sm7 hT7 M2=>?_
  walk_at "w"
  refine c_mover ⟨(sm6.trans sm7).at hT5 hb3,lq3,hT7⟩ fun f3 c3 ob3 H8 sm8 hT8 M3=>?_
  have smA:SmT K H5 H8:=(sm6.trans sm7).trans sm8
  have M1:=lam_keep M1 hT6 (sm7.trans sm8)
  have M2:=lam_keep M2 hT7 sm8
  have tu1:=tu1.keep hT5 smA
  have tu2:=tu2.keep hT5 smA
  have hb1:=smA.at hT5 hb1
  have hb2:=smA.at hT5 hb2
  have hb3:=smA.at hT5 hb3
  walk_at "w"
  refine c_law_copy ⟨tu1,ok1.2.1⟩ fun th lh H9 yh n9 s9 tuh=>?_
  have tu1:=tu1.same s9
  have tu2:=tu2.same s9
  have hb1:=s9.at hb1
  have hb2:=s9.at hb2
  have hb3:=s9.at hb3
  have M1:=M1.same s9
  have M2:=M2.same s9
  have M3:=M3.same s9
  have hT9:TabK K H9:=hT8.same s9
  clear sm6 sm7 sm8 smA hT5 hT6 hT7 hT8
  have lb1:bs1.length≤100:=Nat.le_trans ok1.2.1 (by decide)
  have ln1:∀ ns∈bs1,ns.length≤100:=fun ns h=>Nat.le_trans (ok1.2.2.1 ns h).2.1 (by decide)
  have lb2:bs2.length≤100:=Nat.le_trans ok2.2.1 (by decide)
  have ln2:∀ ns∈bs2,ns.length≤100:=fun ns h=>Nat.le_trans (ok2.2.2.1 ns h).2.1 (by decide)
  have g11:=near_all lq1 (bd_wide bd1) ok1
  have g22:=near_all lq2 (bd_wide bd2) ok2
  have g21:=near_all lq1 (bd_wide bd1) ok2
  have g1b:=near_all (by show (addv q1 q2).length=5;obtain ⟨_,_,_,_,_,rfl⟩:=Mth.five_of lq1;obtain ⟨_,_,_,_,_,rfl⟩:=Mth.five_of lq2;rfl) (bd_add lq1 lq2 bd1 bd2) ok1
  have no:∀ {bs:List (List Nt)} {q:List Int} {P:Prop},(∀ ns∈bs,∀ n∈ns,okN q n=true)→(∃ ns∈bs,∃ n∈ns,okN q n=false)→P:=fun g h=>by
   obtain ⟨ns,h1,n,h2,h3⟩:=h
   rw [g ns h1 n h2] at h3
   cases h3
  walk_at "w"
  obtain ⟨_,_,u1,_⟩:=id M1
  refine⟨f1,rfl,⟨_,_,_,_,_,_,u1⟩,?_⟩
  clear u1
  walk_at "w"
  obtain ⟨_,_,_,_,_,_,ucHB⟩:=id M1
  refine⟨c1,.ref b1,ob1,M1,?_⟩
  walk_at "w"
  refine c_moved ⟨tuh.del ucHB,lb1,ln1,sqT_del hb1 ucHB,lq1,hT9.del ucHB⟩ ⟨fun h=>no g11 h,fun _ tk ltk H0HB ytk nHB sHB hTHB fHB tutk=>?_⟩
  intro hnHB
  have smHB:=SameS.del ucHB sHB
  have tutk:=tutk.same (Same.upd_new (o:=cellO c1 (.ref b1) ob1) hnHB)
  have hTHB:TabK K (upd H0HB c1 (cellO c1 (.ref b1) ob1)):=hTHB.back hnHB
  generalize upd H0HB c1 (cellO c1 (.ref b1) ob1)=HB at smHB tutk hTHB ⊢
  clear sHB fHB nHB hnHB ucHB
  have smA:SmT K H9 HB:=smHB
  have tu2B:=tu2.keep hT9 smA
  have hb2B:=smA.at hT9 hb2
  have M2B:=lam_keep M2 hT9 smA
  walk_at "w"
  obtain ⟨_,_,u1,_⟩:=id M2B
  refine⟨f2,rfl,⟨_,_,_,_,_,_,u1⟩,?_⟩
  clear u1
  walk_at "w"
  refine c_law_copy ⟨tu2B,ok2.2.1⟩ fun tc lc HC yc nC sC tuc=>?_
  have M2C:=M2B.same sC
  have hTC:TabK K HC:=hTHB.same sC
  have hb2C:=sC.at hb2B
  obtain ⟨_,_,_,_,_,_,ucHE⟩:=id M2C
  refine⟨c2,.ref b2,ob2,M2C,?_⟩
  walk_at "w"
  refine c_moved ⟨tuc.del ucHE,lb2,ln2,sqT_del hb2C ucHE,lq2,hTC.del ucHE⟩ ⟨fun h=>no g22 h,fun _ tm ltm H0HE ytm nHE sHE hTHE fHE tutm=>?_⟩
  intro hnHE
  have smHE:=SameS.del ucHE sHE
  have tutm:=tutm.same (Same.upd_new (o:=cellO c2 (.ref b2) ob2) hnHE)
  have hTHE:TabK K (upd H0HE c2 (cellO c2 (.ref b2) ob2)):=hTHE.back hnHE
  generalize upd H0HE c2 (cellO c2 (.ref b2) ob2)=HE at smHE tutm hTHE ⊢
  clear sHE fHE nHE hnHE ucHE
  have smE:SmT K H9 HE:=smA.trans ((SameS.of sC).trans smHE)
  have tu2E:=tu2.keep hT9 smE
  clear M2B M2C tu2B hb2B hb2C tuc
  walk_at "w"
  refine c_law_put ⟨tu2E,ok2.2.1,fun ns h=>(ok2.2.2.1 ns h).2.1,smE.at hT9 hb2,lq2⟩ fun td ld HF yd nF sF tud=>?_
  walk_at "w"
  refine c_law_alike (alk_tune (tutm.same sF) tud (by rw [List.length_map];exact lb2) (mv_len ln2)) fun HG sG=>?_
  walk_at "w"
  refine if_ff rfl ?_
  have sFG:=sF.trans sG
  have smG:SmT K H9 HG:=smE.trans (SameS.of sFG)
  have hTG:TabK K HG:=hTHE.same sFG
  walk_at "w"
  refine c_law_alike (alk_tune (tuh.keep hT9 smG) (tu1.keep hT9 smG) lb1 ln1) fun HH sH=>?_
  walk_at "w"
  refine if_ff rfl ?_
  have smH:SmT K H9 HH:=smG.trans (SameS.of sH)
  have hTH:TabK K HH:=hTG.same sH
  have smBH:SmT K HB HH:=((SameS.of sC).trans smHE).trans (SameS.of (sFG.trans sH))
  have tukH:=tutk.keep hTHB smBH
  have hb1H:=smH.at hT9 hb1
  have hb2H:=smH.at hT9 hb2
  clear tud tutm tu2E
  walk_at "w"
  refine rd_zipRows (r:=q1) (q:=q2) (·+·) rfl hb1H hb2H (by lia) (by lia) fun l6 HI nI sI mI=>?_
  walk_at "w"
  rename_i pb HJ sJ mJ
  have hbb:SqT K HJ pb ((addv q1 q2).map V.int):=SqT.of mJ
  have lbb:(addv q1 q2).length=5:=by obtain ⟨_,_,_,_,_,rfl⟩:=Mth.five_of lq1;obtain ⟨_,_,_,_,_,rfl⟩:=Mth.five_of lq2;rfl
  have smJ:SmT K H9 HJ:=smH.trans (SameS.of (sI.trans sJ))
  have hTJ:TabK K HJ:=hTH.same (sI.trans sJ)
  have tukJ:=tukH.same (sI.trans sJ)
  have M1J:=lam_keep M1 hT9 smJ
  have M2J:=lam_keep M2 hT9 smJ
  have tuhJ:=tuh.keep hT9 smJ
  have hb1J:=smJ.at hT9 hb1
  have hb2J:=smJ.at hT9 hb2
  clear hb1H hb2H tukH mI mJ
  walk_at "w"
  obtain ⟨_,_,u1,_⟩:=id M2J
  refine⟨f2,rfl,⟨_,_,_,_,_,_,u1⟩,?_⟩
  clear u1
  walk_at "w"
  obtain ⟨_,_,u1,_⟩:=id M1J
  refine⟨f1,rfl,⟨_,_,_,_,_,_,u1⟩,?_⟩
  clear u1
  walk_at "w"
  obtain ⟨_,_,_,_,_,_,ucHL⟩:=id M1J
  refine⟨c1,.ref b1,ob1,M1J,?_⟩
  walk_at "w"
  refine c_moved ⟨tuhJ.del ucHL,lb1,ln1,sqT_del hb1J ucHL,lq1,hTJ.del ucHL⟩ ⟨fun h=>no g11 h,fun _ tp ltp H0HL ytp nHL sHL hTHL fHL tutp=>?_⟩
  intro hnHL
  have smHL:=SameS.del ucHL sHL
  have tutp:=tutp.same (Same.upd_new (o:=cellO c1 (.ref b1) ob1) hnHL)
  have hTHL:TabK K (upd H0HL c1 (cellO c1 (.ref b1) ob1)):=hTHL.back hnHL
  generalize upd H0HL c1 (cellO c1 (.ref b1) ob1)=HL at smHL tutp hTHL ⊢
  clear sHL fHL nHL hnHL ucHL
  have M2L:=lam_keep M2J hTJ smHL
  have hb2L:=smHL.at hTJ hb2J
  have hbbL:=smHL.at hTJ hbb
  have tukL:=tukJ.keep hTJ smHL
  obtain ⟨_,_,_,_,_,_,ucHN⟩:=id M2L
  refine⟨c2,.ref b2,ob2,M2L,?_⟩
  walk_at "w"
  refine c_moved ⟨tutp.del ucHN,(by rw [List.length_map];exact lb1),(mv_len ln1),sqT_del hb2L ucHN,lq2,hTHL.del ucHN⟩ ⟨fun h=>no (two_ok lq1 lq2 ok1 g1b) h,fun _ tq ltq H0HN ytq nHN sHN hTHN fHN tutq=>?_⟩
  intro hnHN
  have smHN:=SameS.del ucHN sHN
  have tutq:=tutq.same (Same.upd_new (o:=cellO c2 (.ref b2) ob2) hnHN)
  have hTHN:TabK K (upd H0HN c2 (cellO c2 (.ref b2) ob2)):=hTHN.back hnHN
  generalize upd H0HN c2 (cellO c2 (.ref b2) ob2)=HN at smHN tutq hTHN ⊢
  clear sHN fHN nHN hnHN ucHN
  rw [mv_twos lq1 lq2 ok1] at tutq
  have hbbN:=smHN.at hTHL hbbL
  have tukN:=tukL.keep hTHL smHN
  have smN:SmT K H9 HN:=(smJ.trans smHL).trans smHN
  have tu1N:=tu1.keep hT9 smN
  clear M1J M2J M2L tuhJ hb1J hb2J hb2L hbbL tukJ tukL hbb tutp
  walk_at "w"
  refine c_law_put ⟨tu1N,ok1.2.1,fun ns h=>(ok1.2.2.1 ns h).2.1,hbbN,lbb⟩ fun td ld HO yd nO sO tud=>?_
  walk_at "w"
  refine c_law_alike (alk_tune (tutq.same sO) tud (by rw [List.length_map];exact lb1) (mv_len ln1)) fun HP sP=>?_
  walk_at "w"
  refine if_ff rfl ?_
  have sOP:=sO.trans sP
  have smP:SmT K H9 HP:=smN.trans (SameS.of sOP)
  have hTP:TabK K HP:=hTHN.same sOP
  have tukP:=tukN.same sOP
  clear tud tutq hbbN tukN tu1N
  walk_at "w"
  rename_i pl HQ nQ sQ mQ
  have smQ:SmT K H9 HQ:=smP.trans (SameS.of sQ)
  have hTQ:TabK K HQ:=hTP.same sQ
  have tukQ:=tukP.same sQ
  refine f_invL (xs:=[.ref t1,.ref t2,.ref t1]) (fun i σ Hn=>∃ (o12 o13:Option V),σ=[some (.ref a),some (.ref t1),some (.ref t2),some (.ref b1),some (.ref b2),some (.ref b3),some (.ref f1),some (.ref f2),some (.ref f3),some (.ref th),some (.ref tk),some (.ref pb),o12,o13]∧SmT K HQ Hn∧TabK K Hn) ⟨_,_,rfl,SameS.refl,hTQ⟩ (fun i σ Hn hp=>by obtain ⟨_,_,rfl,sn,_⟩:=hp;exact SqL.of (sn.lst hTQ mQ)) (fun i x σ Hn hx hp=>?_) (fun σ Hn hp=>?_)
  ·obtain ⟨o12,o13,rfl,sn,hTn⟩:=hp
   have smn:SmT K H9 Hn:=smQ.trans sn
   obtain ⟨t,m,l,mt,xs,bs,rfl,tu,ok⟩:∃ (t m l:Addr) (mt:Int×Int) (xs:List V) (bs:List (List Nt)),x=.ref t∧TuneAt K H9 t m l mt xs bs∧TunOk mt bs:=by
    match i,hx with
    | 0,hx=>cases hx;exact⟨_,_,_,_,_,_,rfl,tu1,ok1⟩
    | 1,hx=>cases hx;exact⟨_,_,_,_,_,_,rfl,tu2,ok2⟩
    | 2,hx=>cases hx;exact⟨_,_,_,_,_,_,rfl,tu1,ok1⟩
    | i+3,hx=>simp at hx
   have tun:=tu.keep hT9 smn
   have hb3n:=smn.at hT9 hb3
   have M3n:=lam_keep M3 hT9 smn
   have ln12:∀ ns∈bs,ns.length≤12:=fun ns h=>(ok.2.2.1 ns h).2.1
   have lb:bs.length≤100:=Nat.le_trans ok.2.1 (by decide)
   have ln:∀ ns∈bs,ns.length≤100:=fun ns h=>Nat.le_trans (ln12 ns h) (by decide)
   have lm12:(bs.map fun ns=>ns.map (mvN q3)).length≤12:=by rw [List.length_map];exact ok.2.1
   walk_at "w"
   refine c_law_put ⟨tun,ok.2.1,ln12,hb3n,lq3⟩ fun td ld HR yd nR sR tud=>?_
   walk_at "w"
   cases hfit:bs.all fun ns=>ns.all fun n=>okN q3 n with
   | false =>
    refine c_law_fits ⟨tud,lm12,mv_len ln12⟩ ⟨fun _ HS sS=>?_,fun hg=>(by obtain ⟨ns,h1,n,h2,h3⟩:=mv_not (not_ok hfit);rw [hg ns h1 n h2] at h3;cases h3)⟩
    walk_at "w"
    refine if_tt rfl ?_
    walk_at "w"
    rename_i pr HT sT mT
    have sRT:=(sR.trans sS).trans sT
    refine c_law_copy ⟨tun.same sRT,ok.2.1⟩ fun tc lc HU yc nU sU tuc=>?_
    have sRU:=sRT.trans sU
    have hTU:TabK K HU:=hTn.same sRU
    have M3U:=M3n.same sRU
    walk_at "w"
    refine c_law_told ⟨M3U,tuc,lb,ln,sRU.at hb3n,lq3,hTU⟩ ⟨fun _ p HV smV hTV mV=>?_,fun hg=>no hg (not_ok hfit)⟩
    have hrV:=smV.tup hTU (sU _ _ mT)
    walk_at "w"
    refine c_law_alike (alk_ref (SqT.of mV) (SqT.of hrV)) fun HW sW=>?_
    walk_at "w"
    refine if_ff rfl ?_
    walk_at "w"
    exact⟨_,_,rfl,(sn.trans (SameS.of sRU)).trans (smV.trans (SameS.of sW)),hTV.same sW⟩
   | true =>
    refine c_law_fits ⟨tud,lm12,mv_len ln12⟩ ⟨fun hb=>(by obtain ⟨ns,h1,n,h2,h3⟩:=hb;rw [mv_ok (all_ok hfit) ns h1 n h2] at h3;cases h3),fun _ HS sS=>?_⟩
    walk_at "w"
    refine if_ff rfl ?_
    walk_at "w"
    have sRT:=sR.trans sS
    refine c_law_copy ⟨tun.same sRT,ok.2.1⟩ fun tc lc HU yc nU sU tuc=>?_
    have sRU:=sRT.trans sU
    have hTU:TabK K HU:=hTn.same sRU
    have M3U:=M3n.same sRU
    walk_at "w"
    refine c_law_told ⟨M3U,tuc,lb,ln,sRU.at hb3n,lq3,hTU⟩ ⟨fun hb=>no (all_ok hfit) hb,fun _ tv lv HV yv smV hTV tuv=>?_⟩
    have tudV:=(tud.same (sS.trans sU)).keep hTU smV
    walk_at "w"
    refine c_law_alike (alk_tune tuv tudV (by rw [List.length_map];exact lb) (mv_len ln)) fun HW sW=>?_
    walk_at "w"
    refine if_ff rfl ?_
    walk_at "w"
    exact⟨_,_,rfl,(sn.trans (SameS.of sRU)).trans (smV.trans (SameS.of sW)),hTV.same sW⟩
  ·obtain ⟨o12,o13,rfl,sn,hTn⟩:=hp
   have smn:SmT K H9 Hn:=smQ.trans sn
   have M1n:=lam_keep M1 hT9 smn
   have tu2n:=tu2.keep hT9 smn
   have hb1n:=smn.at hT9 hb1
   have tukn:=tukQ.keep hTQ sn
   walk_at "w"
   obtain ⟨_,_,u1,_⟩:=id M1n
   refine⟨f1,rfl,⟨_,_,_,_,_,_,u1⟩,?_⟩
   clear u1
   walk_at "w"
   refine c_law_copy ⟨tu2n,ok2.2.1⟩ fun tc lc HU yc nU sU tuc=>?_
   have M1U:=M1n.same sU
   have hTU:TabK K HU:=hTn.same sU
   have hb1U:=sU.at hb1n
   have tukU:=tukn.same sU
   obtain ⟨_,_,_,_,_,_,ucHX⟩:=id M1U
   refine⟨c1,.ref b1,ob1,M1U,?_⟩
   walk_at "w"
   refine c_moved ⟨tuc.del ucHX,lb2,ln2,sqT_del hb1U ucHX,lq1,hTU.del ucHX⟩ ⟨fun h=>no g21 h,fun _ tv ltv H0HX ytv nHX sHX hTHX fHX tutv=>?_⟩
   intro hnHX
   have smHX:=SameS.del ucHX sHX
   have tutv:=tutv.same (Same.upd_new (o:=cellO c1 (.ref b1) ob1) hnHX)
   have hTHX:TabK K (upd H0HX c1 (cellO c1 (.ref b1) ob1)):=hTHX.back hnHX
   generalize upd H0HX c1 (cellO c1 (.ref b1) ob1)=HX at smHX tutv hTHX ⊢
   clear sHX fHX nHX hnHX ucHX
   have smX:SmT K H9 HX:=smn.trans ((SameS.of sU).trans smHX)
   have tukX:=tukU.keep hTU smHX
   walk_at "w"
   refine c_law_put ⟨tu2.keep hT9 smX,ok2.2.1,fun ns h=>(ok2.2.2.1 ns h).2.1,smX.at hT9 hb1,lq1⟩ fun td ld HY yd nY sY tud=>?_
   walk_at "w"
   refine c_law_alike (alk_tune (tutv.same sY) tud (by rw [List.length_map];exact lb2) (mv_len ln2)) fun HZ sZ=>?_
   walk_at "w"
   refine if_ff rfl ?_
   have sYZ:=sY.trans sZ
   have smZ:SmT K H9 HZ:=smX.trans (SameS.of sYZ)
   walk_at "w"
   refine c_law_put ⟨tu1.keep hT9 smZ,ok1.2.1,fun ns h=>(ok1.2.2.1 ns h).2.1,smZ.at hT9 hb1,lq1⟩ fun te le Ha ye na sa tue=>?_
   walk_at "w"
   refine c_law_alike (alk_tune (tukX.same (sYZ.trans sa)) tue (by rw [List.length_map];exact lb1) (mv_len ln1)) fun Hb sb=>?_
   have smb:SmT K H9 Hb:=smZ.trans (SameS.of (sa.trans sb))
   walk_at "w"
   refine iteT ?_
   walk_at "w"
   refine c_law_alike (alk_tune (tuh.keep hT9 smb) (tu1.keep hT9 smb) lb1 ln1) fun Hc sc=>?_
   exact k _
end
set_option maxHeartbeats 2000000
theorem all_mk {l : PySem.W.OpenLaw} {w : World} {K : PySem.W.Frag} {h : Heap} {mg : Str → Option Value} {fa : Addr} (X : K.In h) (G0 : h.Ns mainGlobals mg) (hfa : mg "law"=some (.ref fa)) {c_lam_moved P_lam_moved : Addr} (htb_moved : PySem.W.tabIn K "moved"=some (c_lam_moved, P_lam_moved)) {c_lam_mover P_lam_mover : Addr} (htb_mover : PySem.W.tabIn K "mover"=some (c_lam_mover, P_lam_mover)) {f0 f1 f2 f3 f4 f5 f6 f7 f8 f9 f10 f11 f12 f13 f14 f15 f16 f17 f18 f19 f20 f21 f22 : Addr} {od0 an0 od1 an1 od2 an2 od3 an3 od4 an4 od5 an5 od6 an6 od7 an7 od8 an8 od9 an9 od10 an10 od11 an11 od12 an12 od13 an13 od14 an14 od15 an15 od16 an16 od17 an17 od18 an18 od19 an19 od20 an20 od21 an21 od22 an22 : Option Addr} {sl0 sl1 sl2 sl3 sl4 sl5 sl6 sl7 sl8 sl9 sl10 sl11 sl12 sl13 sl14 sl15 sl16 sl17 sl18 sl19 sl20 sl21 sl22 : Array (Option Value)} {oc0 kV0 dc0 pm0 cd0 ct0 oc1 kV1 dc1 pm1 cd1 ct1 oc2 kV2 dc2 pm2 cd2 ct2 oc3 kV3 dc3 pm3 cd3 ct3 oc4 kV4 dc4 pm4 cd4 ct4 oc5 kV5 dc5 pm5 cd5 ct5 oc6 kV6 dc6 pm6 cd6 ct6 oc7 kV7 dc7 pm7 cd7 ct7 oc8 kV8 dc8 pm8 ct8 oc9 kV9 dc9 pm9 ct9 oc10 kV10 dc10 pm10 cd10 ct10 oc11 kV11 dc11 pm11 cd11 ct11 oc12 kV12 dc12 pm12 cd12 ct12 oc13 kV13 dc13 pm13 cd13 ct13 oc14 kV14 dc14 pm14 cd14 ct14 oc15 kV15 dc15 pm15 cd15 ct15 oc16 kV16 dc16 pm16 cd16 ct16 oc17 kV17 dc17 pm17 cd17 ct17 oc18 kV18 dc18 pm18 cd18 ct18 oc19 kV19 dc19 pm19 cd19 ct19 oc20 kV20 dc20 pm20 cd20 ct20 oc21 kV21 dc21 pm21 cd21 ct21 oc22 kV22 dc22 pm22 cd22 ct22 : Value} {u_ONE : Addr} {uo_ONE : Option Addr} {un_ONE : Nat} {us_ONE : Array (Option Value)} {t_ONE0 t_ONE1 t_ONE2 t_ONE3 t_ONE4 : Tok} {u_BOUNDS : Addr} {uo_BOUNDS : Option Addr} {un_BOUNDS : Nat} {us_BOUNDS : Array (Option Value)} {t_BOUNDS0 t_BOUNDS1 t_BOUNDS2 t_BOUNDS3 t_BOUNDS4 : Tok} {u_YardError : Addr} {cd_YardError : ClassData} {u_TooFar : Addr} {cd_TooFar : ClassData}
    (a0 : PySem.W.nsIn K mainGlobals "is_whole"=some (some (.ref f0))) (l0 : K.lookup f0=some ⟨oc0, od0, .func (PySem.W.fnOf "is_whole" "is_whole" (defArgs s_is_whole) (defBody s_is_whole) (defScope s_is_whole) .none kV0 dc0 pm0 an0 cd0 ct0), sl0⟩) (c0 : PySem.W.codeIn K cd0 "is_whole"=true) (k0 : PySem.W.keepIn K (.ref f0)=true)
    (a1 : PySem.W.nsIn K mainGlobals "is_row"=some (some (.ref f1))) (l1 : K.lookup f1=some ⟨oc1, od1, .func (PySem.W.fnOf "is_row" "is_row" (defArgs s_is_row) (defBody s_is_row) (defScope s_is_row) .none kV1 dc1 pm1 an1 cd1 ct1), sl1⟩) (c1 : PySem.W.codeIn K cd1 "is_row"=true) (k1 : PySem.W.keepIn K (.ref f1)=true)
    (a2 : PySem.W.nsIn K mainGlobals "is_tone"=some (some (.ref f2))) (l2 : K.lookup f2=some ⟨oc2, od2, .func (PySem.W.fnOf "is_tone" "is_tone" (defArgs s_is_tone) (defBody s_is_tone) (defScope s_is_tone) .none kV2 dc2 pm2 an2 cd2 ct2), sl2⟩) (c2 : PySem.W.codeIn K cd2 "is_tone"=true) (k2 : PySem.W.keepIn K (.ref f2)=true)
    (a3 : PySem.W.nsIn K mainGlobals "tone_of"=some (some (.ref f3))) (l3 : K.lookup f3=some ⟨oc3, od3, .func (PySem.W.fnOf "tone_of" "tone_of" (defArgs s_tone_of) (defBody s_tone_of) (defScope s_tone_of) .none kV3 dc3 pm3 an3 cd3 ct3), sl3⟩) (c3 : PySem.W.codeIn K cd3 "tone_of"=true) (k3 : PySem.W.keepIn K (.ref f3)=true)
    (a4 : PySem.W.nsIn K mainGlobals "times"=some (some (.ref f4))) (l4 : K.lookup f4=some ⟨oc4, od4, .func (PySem.W.fnOf "times" "times" (defArgs s_times) (defBody s_times) (defScope s_times) .none kV4 dc4 pm4 an4 cd4 ct4), sl4⟩) (c4 : PySem.W.codeIn K cd4 "times"=true) (k4 : PySem.W.keepIn K (.ref f4)=true)
    (a5 : PySem.W.nsIn K mainGlobals "note_changed"=some (some (.ref f5))) (l5 : K.lookup f5=some ⟨oc5, od5, .func (PySem.W.fnOf "note_changed" "note_changed" (defArgs s_note_changed) (defBody s_note_changed) (defScope s_note_changed) .none kV5 dc5 pm5 an5 cd5 ct5), sl5⟩) (c5 : PySem.W.codeIn K cd5 "note_changed"=true) (k5 : PySem.W.keepIn K (.ref f5)=true)
    (a6 : PySem.W.nsIn K mainGlobals "bar_changed"=some (some (.ref f6))) (l6 : K.lookup f6=some ⟨oc6, od6, .func (PySem.W.fnOf "bar_changed" "bar_changed" (defArgs s_bar_changed) (defBody s_bar_changed) (defScope s_bar_changed) .none kV6 dc6 pm6 an6 cd6 ct6), sl6⟩) (c6 : PySem.W.codeIn K cd6 "bar_changed"=true) (k6 : PySem.W.keepIn K (.ref f6)=true)
    (a7 : PySem.W.nsIn K mainGlobals "changed"=some (some (.ref f7))) (l7 : K.lookup f7=some ⟨oc7, od7, .func (PySem.W.fnOf "changed" "changed" (defArgs s_changed) (defBody s_changed) (defScope s_changed) .none kV7 dc7 pm7 an7 cd7 ct7), sl7⟩) (c7 : PySem.W.codeIn K cd7 "changed"=true) (k7 : PySem.W.keepIn K (.ref f7)=true)
    (a8 : PySem.W.nsIn K mainGlobals "moved"=some (some (.ref f8))) (l8 : K.lookup f8=some ⟨oc8, od8, .func (PySem.W.fnOf "moved" "moved" (defArgs s_moved) (defBody s_moved) (defScope s_moved) .none kV8 dc8 pm8 an8 (.ref c_lam_moved) ct8), sl8⟩) (c8 : PySem.W.codeIn K (.ref c_lam_moved) "moved"=true) (k8 : PySem.W.keepIn K (.ref f8)=true)
    (a9 : PySem.W.nsIn K mainGlobals "mover"=some (some (.ref f9))) (l9 : K.lookup f9=some ⟨oc9, od9, .func (PySem.W.fnOf "mover" "mover" (defArgs s_mover) (defBody s_mover) (defScope s_mover) .none kV9 dc9 pm9 an9 (.ref c_lam_mover) ct9), sl9⟩) (c9 : PySem.W.codeIn K (.ref c_lam_mover) "mover"=true) (k9 : PySem.W.keepIn K (.ref f9)=true)
    (a10 : PySem.W.nsIn K mainGlobals "_law_cell_at"=some (some (.ref f10))) (l10 : K.lookup f10=some ⟨oc10, od10, .func (PySem.W.fnOf "_law_cell_at" "_law_cell_at" (defArgs s_law_cell_at) (defBody s_law_cell_at) (defScope s_law_cell_at) .none kV10 dc10 pm10 an10 cd10 ct10), sl10⟩) (c10 : PySem.W.codeIn K cd10 "_law_cell_at"=true) (k10 : PySem.W.keepIn K (.ref f10)=true)
    (a11 : PySem.W.nsIn K mainGlobals "_law_lowest"=some (some (.ref f11))) (l11 : K.lookup f11=some ⟨oc11, od11, .func (PySem.W.fnOf "_law_lowest" "_law_lowest" (defArgs s_law_lowest) (defBody s_law_lowest) (defScope s_law_lowest) .none kV11 dc11 pm11 an11 cd11 ct11), sl11⟩) (c11 : PySem.W.codeIn K cd11 "_law_lowest"=true) (k11 : PySem.W.keepIn K (.ref f11)=true)
    (a12 : PySem.W.nsIn K mainGlobals "_law_mixed"=some (some (.ref f12))) (l12 : K.lookup f12=some ⟨oc12, od12, .func (PySem.W.fnOf "_law_mixed" "_law_mixed" (defArgs s_law_mixed) (defBody s_law_mixed) (defScope s_law_mixed) .none kV12 dc12 pm12 an12 cd12 ct12), sl12⟩) (c12 : PySem.W.codeIn K cd12 "_law_mixed"=true) (k12 : PySem.W.keepIn K (.ref f12)=true)
    (a13 : PySem.W.nsIn K mainGlobals "_law_alike"=some (some (.ref f13))) (l13 : K.lookup f13=some ⟨oc13, od13, .func (PySem.W.fnOf "_law_alike" "_law_alike" (defArgs s_law_alike) (defBody s_law_alike) (defScope s_law_alike) .none kV13 dc13 pm13 an13 cd13 ct13), sl13⟩) (c13 : PySem.W.codeIn K cd13 "_law_alike"=true) (k13 : PySem.W.keepIn K (.ref f13)=true)
    (a14 : PySem.W.nsIn K mainGlobals "_law_name_row"=some (some (.ref f14))) (l14 : K.lookup f14=some ⟨oc14, od14, .func (PySem.W.fnOf "_law_name_row" "_law_name_row" (defArgs s_law_name_row) (defBody s_law_name_row) (defScope s_law_name_row) .none kV14 dc14 pm14 an14 cd14 ct14), sl14⟩) (c14 : PySem.W.codeIn K cd14 "_law_name_row"=true) (k14 : PySem.W.keepIn K (.ref f14)=true)
    (a15 : PySem.W.nsIn K mainGlobals "_law_pieces"=some (some (.ref f15))) (l15 : K.lookup f15=some ⟨oc15, od15, .func (PySem.W.fnOf "_law_pieces" "_law_pieces" (defArgs s_law_pieces) (defBody s_law_pieces) (defScope s_law_pieces) .none kV15 dc15 pm15 an15 cd15 ct15), sl15⟩) (c15 : PySem.W.codeIn K cd15 "_law_pieces"=true) (k15 : PySem.W.keepIn K (.ref f15)=true)
    (a16 : PySem.W.nsIn K mainGlobals "_law_tune"=some (some (.ref f16))) (l16 : K.lookup f16=some ⟨oc16, od16, .func (PySem.W.fnOf "_law_tune" "_law_tune" (defArgs s_law_tune) (defBody s_law_tune) (defScope s_law_tune) .none kV16 dc16 pm16 an16 cd16 ct16), sl16⟩) (c16 : PySem.W.codeIn K cd16 "_law_tune"=true) (k16 : PySem.W.keepIn K (.ref f16)=true)
    (a17 : PySem.W.nsIn K mainGlobals "_law_copy"=some (some (.ref f17))) (l17 : K.lookup f17=some ⟨oc17, od17, .func (PySem.W.fnOf "_law_copy" "_law_copy" (defArgs s_law_copy) (defBody s_law_copy) (defScope s_law_copy) .none kV17 dc17 pm17 an17 cd17 ct17), sl17⟩) (c17 : PySem.W.codeIn K cd17 "_law_copy"=true) (k17 : PySem.W.keepIn K (.ref f17)=true)
    (a18 : PySem.W.nsIn K mainGlobals "_law_put"=some (some (.ref f18))) (l18 : K.lookup f18=some ⟨oc18, od18, .func (PySem.W.fnOf "_law_put" "_law_put" (defArgs s_law_put) (defBody s_law_put) (defScope s_law_put) .none kV18 dc18 pm18 an18 cd18 ct18), sl18⟩) (c18 : PySem.W.codeIn K cd18 "_law_put"=true) (k18 : PySem.W.keepIn K (.ref f18)=true)
    (a19 : PySem.W.nsIn K mainGlobals "_law_fits"=some (some (.ref f19))) (l19 : K.lookup f19=some ⟨oc19, od19, .func (PySem.W.fnOf "_law_fits" "_law_fits" (defArgs s_law_fits) (defBody s_law_fits) (defScope s_law_fits) .none kV19 dc19 pm19 an19 cd19 ct19), sl19⟩) (c19 : PySem.W.codeIn K cd19 "_law_fits"=true) (k19 : PySem.W.keepIn K (.ref f19)=true)
    (a20 : PySem.W.nsIn K mainGlobals "_law_span"=some (some (.ref f20))) (l20 : K.lookup f20=some ⟨oc20, od20, .func (PySem.W.fnOf "_law_span" "_law_span" (defArgs s_law_span) (defBody s_law_span) (defScope s_law_span) .none kV20 dc20 pm20 an20 cd20 ct20), sl20⟩) (c20 : PySem.W.codeIn K cd20 "_law_span"=true) (k20 : PySem.W.keepIn K (.ref f20)=true)
    (a21 : PySem.W.nsIn K mainGlobals "_law_told"=some (some (.ref f21))) (l21 : K.lookup f21=some ⟨oc21, od21, .func (PySem.W.fnOf "_law_told" "_law_told" (defArgs s_law_told) (defBody s_law_told) (defScope s_law_told) .none kV21 dc21 pm21 an21 cd21 ct21), sl21⟩) (c21 : PySem.W.codeIn K cd21 "_law_told"=true) (k21 : PySem.W.keepIn K (.ref f21)=true)
    (a22 : PySem.W.nsIn K mainGlobals "law"=some (some (.ref f22))) (l22 : K.lookup f22=some ⟨oc22, od22, .func (PySem.W.fnOf "law" "law" (defArgs s_law) (defBody s_law) (defScope s_law) .none kV22 dc22 pm22 an22 cd22 ct22), sl22⟩) (c22 : PySem.W.codeIn K cd22 "law"=true) (k22 : PySem.W.keepIn K (.ref f22)=true)
     (x_ONE : PySem.W.nsIn K mainGlobals "ONE"=some (some (.ref u_ONE))) (y_ONE : K.lookup u_ONE=some ⟨.type "tuple", uo_ONE, .seq #[.int 0 t_ONE0, .int 0 t_ONE1, .int 0 t_ONE2, .int 0 t_ONE3, .int 0 t_ONE4] un_ONE, us_ONE⟩) (x_BOUNDS : PySem.W.nsIn K mainGlobals "BOUNDS"=some (some (.ref u_BOUNDS))) (y_BOUNDS : K.lookup u_BOUNDS=some ⟨.type "tuple", uo_BOUNDS, .seq #[.int 700 t_BOUNDS0, .int 60 t_BOUNDS1, .int 60 t_BOUNDS2, .int 60 t_BOUNDS3, .int 60 t_BOUNDS4] un_BOUNDS, us_BOUNDS⟩) (x_YardError : PySem.W.nsIn K mainGlobals "YardError"=some (some (.ref u_YardError))) (k1_YardError : PySem.W.typeIn K (.ref u_YardError)=some (.type "type")) (k2_YardError : PySem.W.clsIn K u_YardError=some cd_YardError) (k3_YardError : PySem.W.subIn K (.ref u_YardError) (.type "BaseException")=some true) (x_TooFar : PySem.W.nsIn K mainGlobals "TooFar"=some (some (.ref u_TooFar))) (k1_TooFar : PySem.W.typeIn K (.ref u_TooFar)=some (.type "type")) (k2_TooFar : PySem.W.clsIn K u_TooFar=some cd_TooFar) (k3_TooFar : PySem.W.subIn K (.ref u_TooFar) (.type "BaseException")=some true) (k4_TooFar : PySem.W.findIn K (.ref u_TooFar) "__getattribute__"=some (some (.builtin "BaseException.__getattribute__"))) (k5_TooFar : PySem.W.findIn K (.ref u_TooFar) "__getattr__"=some none) (k6_TooFar : PySem.W.findIn K (.ref u_TooFar) "__class__"=some (some (.builtin "object.__class__"))) (k7_TooFar : PySem.W.specialIn K (.builtin "object.__class__") "__get__"=some (some (.builtin "getset_descriptor.__get__"))) (k8_TooFar : PySem.W.takesIn K (.builtin "object.__class__")=some true) (k9_TooFar : PySem.W.mroIn K u_TooFar (.type "object")=some true) (kx_TooFar : PySem.W.excIn K u_TooFar [.type "ValueError", .type "Exception", .type "BaseException", .type "object"] "ValueError.__new__"=true) (s_TooFar_TooFar : PySem.W.subIn K (.ref u_TooFar) (.ref u_TooFar)=some true) (s_TooFar_YardError : PySem.W.subIn K (.ref u_TooFar) (.ref u_YardError)=some true) (v_TooFar_ValueError : PySem.W.subIn K (.ref u_TooFar) (.type "ValueError")=some true) (z_abs : PySem.W.nsIn K mainGlobals "abs"=some none) (z_all : PySem.W.nsIn K mainGlobals "all"=some none) (z_bool : PySem.W.nsIn K mainGlobals "bool"=some none) (z_enumerate : PySem.W.nsIn K mainGlobals "enumerate"=some none) (z_int : PySem.W.nsIn K mainGlobals "int"=some none) (z_isinstance : PySem.W.nsIn K mainGlobals "isinstance"=some none) (z_len : PySem.W.nsIn K mainGlobals "len"=some none) (z_list : PySem.W.nsIn K mainGlobals "list"=some none) (z_range : PySem.W.nsIn K mainGlobals "range"=some none) (z_str : PySem.W.nsIn K mainGlobals "str"=some none) (z_tuple : PySem.W.nsIn K mainGlobals "tuple"=some none) (z_zip : PySem.W.nsIn K mainGlobals "zip"=some none) :
    ∃ fd : FuncData, (∀ (s : Shared) (v : Value), BindsTo s fd ⟨[v], []⟩ [("_law_script", v)]) ∧ ∀ base : Heap, K.In base → base.Ns mainGlobals mg → PySem.W.CodeHd base c_lam_moved P_lam_moved → base.BuiltinsAt mg P_lam_moved → PySem.W.CodeHd base c_lam_mover P_lam_mover → base.BuiltinsAt mg P_lam_mover → FnOk l.prog w K mg base CX0 16 fa fd ["_law_script"] ((spLawTs fun K => [((tabP K "moved"), lmL, "moved.<locals>.<lambda>"), ((tabP K "mover"), mvL, "mover.<locals>.<lambda>")]) K) := by
  have e := hfa.symm.trans (PySem.W.mg_of X G0 a22)
  cases e
  have T : Txt K mg ⟨u_ONE, u_BOUNDS, u_YardError, u_TooFar, c_lam_moved, c_lam_mover⟩ := ⟨PySem.W.mg_none_of X G0 z_abs, PySem.W.mg_none_of X G0 z_all, PySem.W.mg_none_of X G0 z_bool, PySem.W.mg_none_of X G0 z_enumerate, PySem.W.mg_none_of X G0 z_int, PySem.W.mg_none_of X G0 z_isinstance, PySem.W.mg_none_of X G0 z_len, PySem.W.mg_none_of X G0 z_list, PySem.W.mg_none_of X G0 z_range, PySem.W.mg_none_of X G0 z_str, PySem.W.mg_none_of X G0 z_tuple, PySem.W.mg_none_of X G0 z_zip, PySem.W.mg_of X G0 x_ONE, fun H => .inr ⟨_, _, _, y_ONE, rfl, rfl, by show 5 ≤ sizeLine;decide, (.cons ⟨_, rfl⟩ (.cons ⟨_, rfl⟩ (.cons ⟨_, rfl⟩ (.cons ⟨_, rfl⟩ (.cons ⟨_, rfl⟩ .nil)))))⟩, PySem.W.mg_of X G0 x_BOUNDS, fun H => .inr ⟨_, _, _, y_BOUNDS, rfl, rfl, by show 5 ≤ sizeLine;decide, (.cons ⟨_, rfl⟩ (.cons ⟨_, rfl⟩ (.cons ⟨_, rfl⟩ (.cons ⟨_, rfl⟩ (.cons ⟨_, rfl⟩ .nil)))))⟩, PySem.W.mg_of X G0 x_YardError, x_YardError, HCls.mk' k1_YardError k2_YardError k3_YardError, PySem.W.mg_of X G0 x_TooFar, x_TooFar, HCls.mk' k1_TooFar k2_TooFar k3_TooFar, XCls.mk' k4_TooFar k5_TooFar k2_TooFar k6_TooFar k7_TooFar k8_TooFar k9_TooFar k3_TooFar, kx_TooFar, s_TooFar_TooFar, s_TooFar_YardError, v_TooFar_ValueError⟩
  have F0 := fun_mk (st := s_is_whole) l0 c0 k0
  have D_is_whole : Def K mg "is_whole" s_is_whole ["thing"] := ⟨_, _, F0, PySem.W.mg_of X G0 a0, F0.binds (ps := ["thing"]) fun _ _ _ _ _ _ us hl => of_len1 us hl fun _ => rfl⟩
  have F1 := fun_mk (st := s_is_row) l1 c1 k1
  have D_is_row : Def K mg "is_row" s_is_row ["thing"] := ⟨_, _, F1, PySem.W.mg_of X G0 a1, F1.binds (ps := ["thing"]) fun _ _ _ _ _ _ us hl => of_len1 us hl fun _ => rfl⟩
  have F2 := fun_mk (st := s_is_tone) l2 c2 k2
  have D_is_tone : Def K mg "is_tone" s_is_tone ["thing"] := ⟨_, _, F2, PySem.W.mg_of X G0 a2, F2.binds (ps := ["thing"]) fun _ _ _ _ _ _ us hl => of_len1 us hl fun _ => rfl⟩
  have F3 := fun_mk (st := s_tone_of) l3 c3 k3
  have D_tone_of : Def K mg "tone_of" s_tone_of ["row"] := ⟨_, _, F3, PySem.W.mg_of X G0 a3, F3.binds (ps := ["row"]) fun _ _ _ _ _ _ us hl => of_len1 us hl fun _ => rfl⟩
  have F4 := fun_mk (st := s_times) l4 c4 k4
  have D_times : Def K mg "times" s_times ["one", "other"] := ⟨_, _, F4, PySem.W.mg_of X G0 a4, F4.binds (ps := ["one", "other"]) fun _ _ _ _ _ _ us hl => of_len2 us hl fun _ _ => rfl⟩
  have F5 := fun_mk (st := s_note_changed) l5 c5 k5
  have D_note_changed : Def K mg "note_changed" s_note_changed ["note", "change"] := ⟨_, _, F5, PySem.W.mg_of X G0 a5, F5.binds (ps := ["note", "change"]) fun _ _ _ _ _ _ us hl => of_len2 us hl fun _ _ => rfl⟩
  have F6 := fun_mk (st := s_bar_changed) l6 c6 k6
  have D_bar_changed : Def K mg "bar_changed" s_bar_changed ["bar", "change"] := ⟨_, _, F6, PySem.W.mg_of X G0 a6, F6.binds (ps := ["bar", "change"]) fun _ _ _ _ _ _ us hl => of_len2 us hl fun _ _ => rfl⟩
  have F7 := fun_mk (st := s_changed) l7 c7 k7
  have D_changed : Def K mg "changed" s_changed ["tune", "change"] := ⟨_, _, F7, PySem.W.mg_of X G0 a7, F7.binds (ps := ["tune", "change"]) fun _ _ _ _ _ _ us hl => of_len2 us hl fun _ _ => rfl⟩
  have D_moved : DefT K mg "moved" s_moved ["tune", "span"] c_lam_moved := ⟨_, _, _, _, _, _, _, _, _, _, rfl, l8, c8, k8, PySem.W.mg_of X G0 a8, .all fun us hl => match us, hl with|[_, _], _ => rfl⟩
  have D_mover : DefT K mg "mover" s_mover ["span"] c_lam_mover := ⟨_, _, _, _, _, _, _, _, _, _, rfl, l9, c9, k9, PySem.W.mg_of X G0 a9, .all fun us hl => match us, hl with|[_], _ => rfl⟩
  have F10 := fun_mk (st := s_law_cell_at) l10 c10 k10
  have D_law_cell_at : Def K mg "_law_cell_at" s_law_cell_at ["_law_script", "_law_k"] := ⟨_, _, F10, PySem.W.mg_of X G0 a10, F10.binds (ps := ["_law_script", "_law_k"]) fun _ _ _ _ _ _ us hl => of_len2 us hl fun _ _ => rfl⟩
  have F11 := fun_mk (st := s_law_lowest) l11 c11 k11
  have D_law_lowest : Def K mg "_law_lowest" s_law_lowest ["_law_top", "_law_bottom"] := ⟨_, _, F11, PySem.W.mg_of X G0 a11, F11.binds (ps := ["_law_top", "_law_bottom"]) fun _ _ _ _ _ _ us hl => of_len2 us hl fun _ _ => rfl⟩
  have F12 := fun_mk (st := s_law_mixed) l12 c12 k12
  have D_law_mixed : Def K mg "_law_mixed" s_law_mixed ["_law_cell", "_law_k"] := ⟨_, _, F12, PySem.W.mg_of X G0 a12, F12.binds (ps := ["_law_cell", "_law_k"]) fun _ _ _ _ _ _ us hl => of_len2 us hl fun _ _ => rfl⟩
  have F13 := fun_mk (st := s_law_alike) l13 c13 k13
  have D_law_alike : Def K mg "_law_alike" s_law_alike ["_law_found", "_law_due"] := ⟨_, _, F13, PySem.W.mg_of X G0 a13, F13.binds (ps := ["_law_found", "_law_due"]) fun _ _ _ _ _ _ us hl => of_len2 us hl fun _ _ => rfl⟩
  have F14 := fun_mk (st := s_law_name_row) l14 c14 k14
  have D_law_name_row : Def K mg "_law_name_row" s_law_name_row ["_law_mixed_here"] := ⟨_, _, F14, PySem.W.mg_of X G0 a14, F14.binds (ps := ["_law_mixed_here"]) fun _ _ _ _ _ _ us hl => of_len1 us hl fun _ => rfl⟩
  have F15 := fun_mk (st := s_law_pieces) l15 c15 k15
  have D_law_pieces : Def K mg "_law_pieces" s_law_pieces ["_law_cell", "_law_count", "_law_total"] := ⟨_, _, F15, PySem.W.mg_of X G0 a15, F15.binds (ps := ["_law_cell", "_law_count", "_law_total"]) fun _ _ _ _ _ _ us hl => of_len3 us hl fun _ _ _ => rfl⟩
  have F16 := fun_mk (st := s_law_tune) l16 c16 k16
  have D_law_tune : Def K mg "_law_tune" s_law_tune ["_law_script", "_law_at"] := ⟨_, _, F16, PySem.W.mg_of X G0 a16, F16.binds (ps := ["_law_script", "_law_at"]) fun _ _ _ _ _ _ us hl => of_len2 us hl fun _ _ => rfl⟩
  have F17 := fun_mk (st := s_law_copy) l17 c17 k17
  have D_law_copy : Def K mg "_law_copy" s_law_copy ["_law_tune_here"] := ⟨_, _, F17, PySem.W.mg_of X G0 a17, F17.binds (ps := ["_law_tune_here"]) fun _ _ _ _ _ _ us hl => of_len1 us hl fun _ => rfl⟩
  have F18 := fun_mk (st := s_law_put) l18 c18 k18
  have D_law_put : Def K mg "_law_put" s_law_put ["_law_tune_here", "_law_span_here"] := ⟨_, _, F18, PySem.W.mg_of X G0 a18, F18.binds (ps := ["_law_tune_here", "_law_span_here"]) fun _ _ _ _ _ _ us hl => of_len2 us hl fun _ _ => rfl⟩
  have F19 := fun_mk (st := s_law_fits) l19 c19 k19
  have D_law_fits : Def K mg "_law_fits" s_law_fits ["_law_tune_here"] := ⟨_, _, F19, PySem.W.mg_of X G0 a19, F19.binds (ps := ["_law_tune_here"]) fun _ _ _ _ _ _ us hl => of_len1 us hl fun _ => rfl⟩
  have F20 := fun_mk (st := s_law_span) l20 c20 k20
  have D_law_span : Def K mg "_law_span" s_law_span ["_law_script", "_law_at", "_law_wide"] := ⟨_, _, F20, PySem.W.mg_of X G0 a20, F20.binds (ps := ["_law_script", "_law_at", "_law_wide"]) fun _ _ _ _ _ _ us hl => of_len3 us hl fun _ _ _ => rfl⟩
  have F21 := fun_mk (st := s_law_told) l21 c21 k21
  have D_law_told : Def K mg "_law_told" s_law_told ["_law_move", "_law_tune_here"] := ⟨_, _, F21, PySem.W.mg_of X G0 a21, F21.binds (ps := ["_law_move", "_law_tune_here"]) fun _ _ _ _ _ _ us hl => of_len2 us hl fun _ _ => rfl⟩
  have F22 := fun_mk (st := s_law) l22 c22 k22
  refine⟨PySem.W.fnOf "law" "law" (defArgs s_law) (defBody s_law) (defScope s_law) .none kV22 dc22 pm22 an22 cd22 ct22, fun s v => .of_eq rfl, fun base _ _ hc_lam_moved hb_lam_moved hc_lam_mover hb_lam_mover => ?_⟩
  have B_lam_moved : PySem.W.CodeHd base c_lam_moved (tabP K "moved") ∧ base.BuiltinsAt mg (tabP K "moved") := by rw [tabP_of htb_moved];exact⟨hc_lam_moved, hb_lam_moved⟩
  have B_lam_mover : PySem.W.CodeHd base c_lam_mover (tabP K "mover") ∧ base.BuiltinsAt mg (tabP K "mover") := by rw [tabP_of htb_mover];exact⟨hc_lam_mover, hb_lam_mover⟩
  have O_is_whole := ok_is_whole (P := l.prog) (w := w) (base := base) D_is_whole T
  have O_times := ok_times (P := l.prog) (w := w) (base := base) D_times T
  have O_law_cell_at := ok_law_cell_at (P := l.prog) (w := w) (base := base) D_law_cell_at T
  have O_law_lowest := ok_law_lowest (P := l.prog) (w := w) (base := base) D_law_lowest T
  have O_law_mixed := ok_law_mixed (P := l.prog) (w := w) (base := base) D_law_mixed T
  have O_law_name_row := ok_law_name_row (P := l.prog) (w := w) (base := base) D_law_name_row T
  have O_law_copy := ok_law_copy (P := l.prog) (w := w) (base := base) D_law_copy T
  have O_law_put := ok_law_put (P := l.prog) (w := w) (base := base) D_law_put T
  have O_law_fits := ok_law_fits (P := l.prog) (w := w) (base := base) D_law_fits T
  have O_is_row := ok_is_row (P := l.prog) (w := w) (base := base) D_is_row T ⟨O_is_whole⟩
  have O_law_pieces := ok_law_pieces (P := l.prog) (w := w) (base := base) D_law_pieces T ⟨O_law_mixed⟩
  have O_law_span := ok_law_span (P := l.prog) (w := w) (base := base) D_law_span T ⟨O_law_cell_at⟩
  have O_is_tone := ok_is_tone (P := l.prog) (w := w) (base := base) D_is_tone T ⟨O_is_row⟩
  have O_law_tune := ok_law_tune (P := l.prog) (w := w) (base := base) D_law_tune T ⟨O_law_cell_at, O_law_lowest, O_law_mixed, O_law_name_row, O_law_pieces⟩
  have O_tone_of := ok_tone_of (P := l.prog) (w := w) (base := base) D_tone_of T ⟨O_is_tone⟩
  have O_note_changed := ok_note_changed (P := l.prog) (w := w) (base := base) D_note_changed T ⟨O_tone_of, O_times⟩
  have O_law_alike := ok_law_alike (P := l.prog) (w := w) (base := base) D_law_alike T 6
  have O_bar_changed := ok_bar_changed (P := l.prog) (w := w) (base := base) D_bar_changed T ⟨O_note_changed⟩
  have O_changed := ok_changed (P := l.prog) (w := w) (base := base) D_changed T ⟨O_bar_changed⟩
  have O_moved := ok_moved (P := l.prog) (w := w) (base := base) D_moved T ⟨O_tone_of, O_times, O_changed⟩ B_lam_moved
  have O_mover := ok_mover (P := l.prog) (w := w) (base := base) D_mover T ⟨O_moved⟩ B_lam_mover
  have O_law_told := ok_law_told (P := l.prog) (w := w) (base := base) D_law_told T ⟨O_moved⟩
  exact fn_law F22 T ⟨O_moved, O_mover, O_law_alike, O_law_tune, O_law_copy, O_law_put, O_law_fits, O_law_span, O_law_told⟩
end Law
open PySem PySem.W PyProof.Rows
set_option maxRecDepth 100000 in
set_option maxHeartbeats 0 in
theorem PySem.Challenge.cw_tuningyard_k68_movers_holds : PySem.Challenge.rw_tuningyard_k68_movers.Holds := by
 w_on;o_law;k_head;(case hw=>w_witness2)
 k_fill
 refine' L2.walk_of2 (l:=PySem.Challenge.rw_tuningyard_k68_movers) (k:=16) (x:="_law_script") (fun K=>PySem.W.tabIn K "moved") Law.lmL "moved.<locals>.<lambda>" (fun K=>PySem.W.tabIn K "mover") Law.mvL "mover.<locals>.<lambda>" rfl rfl ⟨rfl,by decide,by decide⟩ ?hY ?ht1 ?ht2 ?hh1 ?hh2 ?hk1 ?hk2 ?hd ?F
 case hY=>exact fun w h Y=>⟨PySem.W.km_in_of Y,PySem.W.km_tabs_of Y _ (.head _),PySem.W.km_tabs_of Y _ (.tail _ (.head _))⟩
 case ht1=>exact fun w=>rfl
 case ht2=>exact fun w=>rfl
 case hh1=>intro w;kernel_rfl
 case hk1=>intro w;kernel_rfl
 case hh2=>intro w;kernel_rfl
 case hk2=>intro w;kernel_rfl
 case hd=>decide
 case F =>
  intro w mg fa h KX G hmg htb_moved htb_mover
  refine' Law.all_mk KX G hmg htb_moved htb_mover ?a0 ?l0 ?c0 ?k0 ?a1 ?l1 ?c1 ?k1 ?a2 ?l2 ?c2 ?k2 ?a3 ?l3 ?c3 ?k3 ?a4 ?l4 ?c4 ?k4 ?a5 ?l5 ?c5 ?k5 ?a6 ?l6 ?c6 ?k6 ?a7 ?l7 ?c7 ?k7 ?a8 ?l8 ?c8 ?k8 ?a9 ?l9 ?c9 ?k9 ?a10 ?l10 ?c10 ?k10 ?a11 ?l11 ?c11 ?k11 ?a12 ?l12 ?c12 ?k12 ?a13 ?l13 ?c13 ?k13 ?a14 ?l14 ?c14 ?k14 ?a15 ?l15 ?c15 ?k15 ?a16 ?l16 ?c16 ?k16 ?a17 ?l17 ?c17 ?k17 ?a18 ?l18 ?c18 ?k18 ?a19 ?l19 ?c19 ?k19 ?a20 ?l20 ?c20 ?k20 ?a21 ?l21 ?c21 ?k21 ?a22 ?l22 ?c22 ?k22 ?x_ONE ?y_ONE ?x_BOUNDS ?y_BOUNDS ?x_YardError ?k1_YardError ?k2_YardError ?k3_YardError ?x_TooFar ?k1_TooFar ?k2_TooFar ?k3_TooFar ?k4_TooFar ?k5_TooFar ?k6_TooFar ?k7_TooFar ?k8_TooFar ?k9_TooFar ?kx_TooFar ?s_TooFar_TooFar ?s_TooFar_YardError ?v_TooFar_ValueError ?z_abs ?z_all ?z_bool ?z_enumerate ?z_int ?z_isinstance ?z_len ?z_list ?z_range ?z_str ?z_tuple ?z_zip
  (case a0=>k_is)
  (case l0=>k_is)
  (case c0=>k_is)
  (case k0=>k_is)
  (case a1=>k_is)
  (case l1=>k_is)
  (case c1=>k_is)
  (case k1=>k_is)
  (case a2=>k_is)
  (case l2=>k_is)
  (case c2=>k_is)
  (case k2=>k_is)
  (case a3=>k_is)
  (case l3=>k_is)
  (case c3=>k_is)
  (case k3=>k_is)
  (case a4=>k_is)
  (case l4=>k_is)
  (case c4=>k_is)
  (case k4=>k_is)
  (case a5=>k_is)
  (case l5=>k_is)
  (case c5=>k_is)
  (case k5=>k_is)
  (case a6=>k_is)
  (case l6=>k_is)
  (case c6=>k_is)
  (case k6=>k_is)
  (case a7=>k_is)
  (case l7=>k_is)
  (case c7=>k_is)
  (case k7=>k_is)
  (case a8=>k_is)
  (case l8=>k_is)
  (case c8=>k_is)
  (case k8=>k_is)
  (case a9=>k_is)
  (case l9=>k_is)
  (case c9=>k_is)
  (case k9=>k_is)
  (case a10=>k_is)
  (case l10=>k_is)
  (case c10=>k_is)
  (case k10=>k_is)
  (case a11=>k_is)
  (case l11=>k_is)
  (case c11=>k_is)
  (case k11=>k_is)
  (case a12=>k_is)
  (case l12=>k_is)
  (case c12=>k_is)
  (case k12=>k_is)
  (case a13=>k_is)
  (case l13=>k_is)
  (case c13=>k_is)
  (case k13=>k_is)
  (case a14=>k_is)
  (case l14=>k_is)
  (case c14=>k_is)
  (case k14=>k_is)
  (case a15=>k_is)
  (case l15=>k_is)
  (case c15=>k_is)
  (case k15=>k_is)
  (case a16=>k_is)
  (case l16=>k_is)
  (case c16=>k_is)
  (case k16=>k_is)
  (case a17=>k_is)
  (case l17=>k_is)
  (case c17=>k_is)
  (case k17=>k_is)
  (case a18=>k_is)
  (case l18=>k_is)
  (case c18=>k_is)
  (case k18=>k_is)
  (case a19=>k_is)
  (case l19=>k_is)
  (case c19=>k_is)
  (case k19=>k_is)
  (case a20=>k_is)
  (case l20=>k_is)
  (case c20=>k_is)
  (case k20=>k_is)
  (case a21=>k_is)
  (case l21=>k_is)
  (case c21=>k_is)
  (case k21=>k_is)
  (case a22=>k_is)
  (case l22=>k_is)
  (case c22=>k_is)
  (case k22=>k_is)
  (case x_ONE=>k_is)
  (case y_ONE=>k_is)
  (case x_BOUNDS=>k_is)
  (case y_BOUNDS=>k_is)
  (case x_YardError=>k_is)
  (case k1_YardError=>k_is)
  (case k2_YardError=>k_is)
  (case k3_YardError=>k_is)
  (case x_TooFar=>k_is)
  (case k1_TooFar=>k_is)
  (case k2_TooFar=>k_is)
  (case k3_TooFar=>k_is)
  (case k4_TooFar=>k_is)
  (case k5_TooFar=>k_is)
  (case k6_TooFar=>k_is)
  (case k7_TooFar=>k_is)
  (case k8_TooFar=>k_is)
  (case k9_TooFar=>k_is)
  (case kx_TooFar=>k_exc)
  (case s_TooFar_TooFar=>k_is)
  (case s_TooFar_YardError=>k_is)
  (case v_TooFar_ValueError=>k_is)
  (case z_abs=>k_is)
  (case z_all=>k_is)
  (case z_bool=>k_is)
  (case z_enumerate=>k_is)
  (case z_int=>k_is)
  (case z_isinstance=>k_is)
  (case z_len=>k_is)
  (case z_list=>k_is)
  (case z_range=>k_is)
  (case z_str=>k_is)
  (case z_tuple=>k_is)
  (case z_zip=>k_is)
