import PyProof.Rows.All
import Wide.All
import OpenK.AllK
import Wide.FinOn
import Lean
import PyProof.EqAt
import PyProof.EqKinds
import PyProof.TupleCall
import PyProof.CompMap
import PyProof.ZipIter
import PyProof.TupleIter
import PyProof.ExcAttrAll.ValueError
import KE.KSortKey
import KE.KRevIter
import KE.KLam
import KE.KNestM
import PyProof.Rows.Range3
import PyProof.EnumMake
import PyProof.JoinWalk
import PyProof.Rows.StrSplitJoin
import PyProof.Rows.StrWeight2
import PyProof.StrOps2
import KE.KSortTup
import PyProof.Rows.StrCountLaw
import PyProof.Rows.SetFrom
import PyProof.Rows.FactsT2
import PyProof.StrLawsTight
import PyProof.StrLawsChain
import PyProof.Rows.StrItems
import KE.KIntText
import PyProof.StrLawsFirst
import PyProof.StrBlockL
import PyProof.Rows.StrNews2
import PyProof.StrWalks
import PySem.Challenge.RW_tuningyard_k25_scales_written_read
set_option Elab.async false
set_option linter.all false
set_option maxRecDepth 100000
namespace L2
open PySem PySem.Spec PyProof.Rows
noncomputable abbrev Key:=Sum Int Str
noncomputable def keyIs:Key→Value→Bool
 | .inl k,v=>Value.isInt k v
 | .inr x,v=>Value.isStrOf x v
noncomputable def keyH (w:World):Key→Int
 | .inl k=>hashInt k
 | .inr x=>hashStr w x
theorem keyIs_shape:∀ {k:Key} {v:Value},keyIs k v=true→(∃ i t,k=Sum.inl i∧v=Value.int i t)∨(∃ x t,k=Sum.inr x∧v=Value.str x t)
 | .inl i,v,h=>by
  obtain ⟨t,e⟩:=Value.isInt_shape (k:=i) (v:=v) h
  exact .inl ⟨i,t,rfl,e⟩
 | .inr x,v,h=>by
  obtain ⟨t,e⟩:=Value.isStrOf_shape (x:=x) (v:=v) h
  exact .inr ⟨x,t,rfl,e⟩
theorem keyIs_int (i:Int) (t:Tok):keyIs (.inl i) (.int i t)=true:=by simp [keyIs,Value.isInt]
theorem keyIs_str (x:Str) (t:Tok):keyIs (.inr x) (.str x t)=true:=by simp [keyIs,Value.isStrOf]
theorem key_ll (a b:Int):decide ((Sum.inl a:Key)=Sum.inl b)=(a == b):=by
 by_cases e:a=b
 ·subst e;simp
 ·have h:¬ (Sum.inl a:Key)=Sum.inl b:=fun q=>e (Sum.inl.inj q)
  rw [decide_eq_false h]
  exact (beq_eq_false_iff_ne.mpr e).symm
theorem key_rr (a b:Str):decide ((Sum.inr a:Key)=Sum.inr b)=decide (a=b):=by
 by_cases e:a=b
 ·subst e;simp
 ·have h:¬ (Sum.inr a:Key)=Sum.inr b:=fun q=>e (Sum.inr.inj q)
  rw [decide_eq_false h,decide_eq_false e]
theorem key_lr (a:Int) (b:Str):decide ((Sum.inl a:Key)=Sum.inr b)=false:=decide_eq_false (fun q=>nomatch q)
theorem key_rl (a:Str) (b:Int):decide ((Sum.inr a:Key)=Sum.inl b)=false:=decide_eq_false (fun q=>nomatch q)
noncomputable def mixKind (prog:Program) (w:World):PySem.KeyKind prog w Key where
 is:=keyIs
 hash:=keyH w
 inj:=fun v a b ha hb=>by
  rcases keyIs_shape ha with ⟨i,t,rfl,rfl⟩|⟨x,t,rfl,rfl⟩
  ·rcases keyIs_shape hb with ⟨j,u,rfl,e⟩|⟨y,u,rfl,e⟩
   ·injection e with e1 _;rw [e1]
   ·exact nomatch e
  ·rcases keyIs_shape hb with ⟨j,u,rfl,e⟩|⟨y,u,rfl,e⟩
   ·exact nomatch e
   ·injection e with e1 _;rw [e1]
 byValue:=fun k v h=>by
  rcases keyIs_shape h with ⟨i,t,rfl,rfl⟩|⟨x,t,rfl,rfl⟩ <;> rfl
 pyHash:=fun hv h=>by
  rcases keyIs_shape hv with ⟨i,t,rfl,rfl⟩|⟨x,t,rfl,rfl⟩
  ·exact wpAny_pyHash_int h
  ·exact wpAny_pyHash_str h
 eqBool:=fun hu hv h=>by
  rcases keyIs_shape hu with ⟨i,t,rfl,rfl⟩|⟨x,t,rfl,rfl⟩
  ·rcases keyIs_shape hv with ⟨j,u,rfl,rfl⟩|⟨y,u,rfl,rfl⟩
   ·rw [key_ll] at h;exact wpAny_eqBool_int h
   ·rw [key_lr] at h;exact SeqAt.EqAt.int_str i t y u _ _ _ _ h
  ·rcases keyIs_shape hv with ⟨j,u,rfl,rfl⟩|⟨y,u,rfl,rfl⟩
   ·rw [key_rl] at h;exact SeqAt.EqAt.str_int x t j u _ _ _ _ h
   ·rw [key_rr] at h;exact wpAny_eqBool_str h
 «strs»:=fun k x t v h=>by
  rcases keyIs_shape h with ⟨i,u,rfl,e⟩|⟨y,u,rfl,e⟩
  ·exact nomatch e
  ·injection e with e1 _
   subst e1
   cases v <;> rfl
theorem mixKind_int (prog:Program) (w:World) (i:Int) (t:Tok):(mixKind prog w).is (.inl i) (.int i t)=true:=keyIs_int i t
theorem mixKind_str (prog:Program) (w:World) (x:Str) (t:Tok):(mixKind prog w).is (.inr x) (.str x t)=true:=keyIs_str x t
end L2
namespace L2
open PySem PySem.Spec PyProof.Rows
inductive V where
 | non|bl (b:Bool)|int (i:Int)|str (x:Str)|byt (b:Array UInt8)|flt (b:UInt64)|ref (a:Addr)|ty (n:String)
 deriving DecidableEq
noncomputable def RelV:V→Value→Prop
 | .non,u=>u=Value.none
 | .bl b,u=>u=Value.bool b
 | .int i,u=>∃ t,u=Value.int i t
 | .str x,u=>∃ t,u=Value.str x t
 | .byt b,u=>∃ t,u=Value.bytes b t
 | .flt b,u=>∃ t,u=Value.float b t
 | .ref a,u=>u=Value.ref a
 | .ty n,u=>u=Value.type n
noncomputable abbrev Vals:List V→List Value→Prop:=Paired RelV
theorem Vals.length {xs:List V} {us:List Value} (r:Vals xs us):xs.length=us.length:=Paired.length r
theorem Vals.get:∀ {xs:List V} {us:List Value} {i:Nat} {x:V},Vals xs us→xs[i]?=some x→∃ u,us[i]?=some u∧RelV x u
 | _,_,_,_,.nil,e=>by simp at e
 | _,_,0,_,.cons r _,e=>by simp at e;subst e;exact⟨_,rfl,r⟩
 | _,_,i+1,x,.cons _ t,e=>by
  obtain ⟨u,h1,h2⟩:=Vals.get (i:=i) (x:=x) t (by simpa using e)
  exact⟨u,by simpa using h1,h2⟩
theorem Vals.append:∀ {xs ys:List V} {us ws:List Value},Vals xs us→Vals ys ws→Vals (xs++ys) (us++ws)
 | _,_,_,_,.nil,s=>s
 | _,_,_,_,.cons r t,s=>.cons r (Vals.append t s)
theorem Vals.take:∀ {xs:List V} {us:List Value} (n:Nat),Vals xs us→Vals (xs.take n) (us.take n)
 | _,_,0,_=>.nil
 | _,_,_+1,.nil=>.nil
 | _,_,n+1,.cons r t=>.cons r (Vals.take n t)
theorem Vals.drop:∀ {xs:List V} {us:List Value} (n:Nat),Vals xs us→Vals (xs.drop n) (us.drop n)
 | _,_,0,r=>r
 | _,_,_+1,.nil=>.nil
 | _,_,n+1,.cons _ t=>Vals.drop n t
noncomputable def RelO:Option V→Option Value→Prop
 | some v,some u=>RelV v u
 | none,none=>True
 | _,_=>False
noncomputable def KV {κ:Type}:List (κ×V)→List (κ×Value)→Prop:=Paired fun (p:κ×V) (q:κ×Value)=>p.1=q.1∧RelV p.2 q.2
noncomputable def kV:Key→V
 | .inl i=>.int i
 | .inr x=>.str x
inductive HO where
 /-- a list -/
 | lst (xs:List V)
 /-- a tuple (never changes) -/
 | tup (xs:List V)
 /-- a dict whose keys are ints and texts;one whose keys are tuples of ints and texts (the empty one is both) -/
 | dK (kvs:List (Key×V))|dT (kvs:List (List Key×V))
 /-- a set of ints: its members,its size -/
 | set (S:Int→Bool) (n:Nat)
 /-- an instance of the class at C,its dict at dx,its attributes -/
 | ins (C dx:Addr) (fs:List (Str×V))
 /-- the dict of the instance at x -/
 | own (x:Addr)
 /-- the dict of an exception -/
 | xd (fs:List (Str×V))
 /-- a bound method,f of x -/
 | met (f x:Addr)
 /-- a range object lo,lo+1,.. below hi -/
 | rng (lo hi:Int)
 /-- a thing that is known to the object (the script;a dict while a loop walks it): read,never written while it is so -/
 | frz (o:Obj) (u:HO)
 /-- a code object's table -/
 | tbl (ps:Array Value)
 /-- any other thing,by what is true of its one object (a def of one's own: SetO a S n:=HO.ext fun h=>..) -/
 | ext (φ:Heap→Prop)
noncomputable abbrev Hp:=Addr→Option HO
noncomputable def upd (H:Hp) (a:Addr) (o:HO):Hp:=fun b=>if b=a then some o else H b
theorem upd_same {H:Hp} {a:Addr} {o:HO}:upd H a o a=some o:=by unfold upd;rw [if_pos rfl]
theorem upd_ne {H:Hp} {a b:Addr} {o:HO} (h:b≠a):upd H a o b=H b:=by unfold upd;rw [if_neg h]
theorem ne_of {H:Hp} {a b:Addr} {o u:HO} (h:H a=some o) (h':H b=some u) (d:o≠u):a≠b:=by
 intro e;subst e;rw [h] at h';exact d (Option.some.inj h')
theorem ne_of_none {H:Hp} {a b:Addr} {o:HO} (h:H a=some o) (h':H b=none):a≠b:=by
 intro e;subst e;rw [h] at h';cases h'
section
variable (P:Program) (w:World)
noncomputable def ObjOk (H:Hp) (h:Heap) (a:Addr):HO→Prop
 | .lst xs=>xs.length≤sizeLine∧∃ (its:List Value) (n:Nat),Vals xs its∧h.get? a=some { cls:=.type "list",data:=.seq its.toArray n }
 | .tup xs=>xs.length≤sizeLine∧∃ its:List Value,Vals xs its∧IsTup h a its.toArray
 | .dK kvs=>kvs.length≤sizeLine∧(a == sysModules)=false∧∃ vs,KV kvs vs∧h.DictOf (mixKind P w) a vs
 | .dT kvs=>kvs.length≤sizeLine∧(a == sysModules)=false∧∃ xs:List (List Key×Addr×Value),
   Paired (fun (p:List Key×V) (q:List Key×Addr×Value)=>p.1=q.1∧H q.2.1=some (.tup (p.1.map kV))∧RelV p.2 q.2.2) kvs xs ∧
   ∃ o es ep,h.get? a=some o∧o.ExactDict∧o.data=.dict es ep∧es.toList=xs.map (entryOfKey (tupleKind (mixKind P w)))∧(xs.map (·.1)).Nodup
 | .set S n=>h.SetOf (intKind P w) a S n
 | .ins C dx fs=>H dx=some (.own a)∧fs.length≤1000∧dx≠a∧h.get? a=some (PySem.W.instObj C dx) ∧
   ∃ mA,h.Ns1 dx mA∧(∀ f,RelO (fs.lookup f) (mA f))∧PySem.Within mA (fs.map (·.1))
 | .own _=>∃ o,h.get? a=some o
 | .xd fs=>∃ mA,h.Ns1 a mA∧∀ f,RelO (fs.lookup f) (mA f)
 | .rng lo hi=>∃ t u v,h.get? a=some { cls:=.type "range",data:=.fields #[.int lo t,.int hi u,.int 1 v] }
 | .frz o u=>h.get? a=some o∧ObjOk H h a u
 | .tbl ps=>h.get? a=some { cls:=.none,data:=.fields ps }
 | .met f x=>h.get? a=some (PySem.W.methodObj (.ref f) (.ref x))
 | .ext φ=>φ h∧(∃ o,h.get? a=some o)∧∀ h1 h2:Heap,φ h1→(∀ o,h1.get? a=some o→h2.get? a=some o)→φ h2
noncomputable def HOk (H:Hp) (h:Heap):Prop:=∀ a o,H a=some o→ObjOk P w H h a o
end
section
variable {P:Program} {w:World} {H H':Hp} {h h':Heap} {a:Addr} {o:HO}
theorem ObjOk.lt (x:ObjOk P w H h a o):a<h.objs.size:=by
 cases o with
 | lst xs=>obtain ⟨_,_,_,_,e⟩:=x;exact Heap.lt_size e
 | tup xs=>obtain ⟨_,_,_,p⟩:=x;exact p.lt
 | dK kvs=>obtain ⟨_,_,_,_,o,_,_,e,_⟩:=x;exact Heap.lt_size e
 | dT kvs=>obtain ⟨_,_,_,_,o,_,_,e,_⟩:=x;exact Heap.lt_size e
 | set S n=>obtain ⟨o,_,_,_,e,_⟩:=x;exact Heap.lt_size e
 | ins C dx fs=>obtain ⟨_,_,_,e,_⟩:=x;exact Heap.lt_size e
 | own y=>obtain ⟨_,e⟩:=x;exact Heap.lt_size e
 | xd fs=>obtain ⟨_,⟨_,_,_,e,_⟩,_⟩:=x;exact Heap.lt_size e
 | rng lo hi=>obtain ⟨_,_,_,e⟩:=x;exact Heap.lt_size e
 | frz ob u=>obtain ⟨e,_⟩:=x;exact Heap.lt_size e
 | tbl ps=>exact Heap.lt_size (show h.get? a=some _ from x)
 | met f y=>exact Heap.lt_size (show h.get? a=some _ from x)
 | ext φ=>obtain ⟨_,⟨_,e⟩,_⟩:=x;exact Heap.lt_size e
theorem Paired.mapP {α β:Type} {F G:α→β→Prop}:∀ {l₁:List α} {l₂:List β},Paired F l₁ l₂→(∀ a b,F a b→G a b)→Paired G l₁ l₂
 | _,_,.nil,_=>.nil
 | _,_,.cons r t,f=>.cons (f _ _ r) (Paired.mapP t f)
theorem ObjOk.stay (x:ObjOk P w H h a o) (k:∀ b u,(b=a∨H b=some (.own a))→h.get? b=some u→h'.get? b=some u)
  (ho:∀ b,H b=some (.own a)→H' b=some (.own a)) (ht:∀ b xs,H b=some (.tup xs)→H' b=some (.tup xs)):ObjOk P w H' h' a o:=by
 induction o with
 | lst xs=>obtain ⟨z,its,n,r,e⟩:=x;exact⟨z,its,n,r,k _ _ (.inl rfl) e⟩
 | tup xs=>obtain ⟨z,its,r,ob,e,c⟩:=x;exact⟨z,its,r,ob,k _ _ (.inl rfl) e,c⟩
 | dK kvs=>obtain ⟨z,y,vs,r,ob,es,ep,e,c⟩:=x;exact⟨z,y,vs,r,ob,es,ep,k _ _ (.inl rfl) e,c⟩
 | dT kvs =>
  obtain ⟨z,y,xs,r,ob,es,ep,e,c⟩:=x
  exact⟨z,y,xs,Paired.mapP r fun p q z=>⟨z.1,ht _ _ z.2.1,z.2.2⟩,ob,es,ep,k _ _ (.inl rfl) e,c⟩
 | set S n=>obtain ⟨ob,es,ep,t,e,c⟩:=x;exact⟨ob,es,ep,t,k _ _ (.inl rfl) e,c⟩
 | ins C dx fs =>
  obtain ⟨d,z,ne,e,mA,⟨od,es,ep,e2,c⟩,r⟩:=x
  exact⟨ho _ d,z,ne,k _ _ (.inl rfl) e,mA,⟨od,es,ep,k _ _ (.inr d) e2,c⟩,r⟩
 | own y=>obtain ⟨ob,e⟩:=x;exact⟨ob,k _ _ (.inl rfl) e⟩
 | xd fs=>obtain ⟨mA,⟨od,es,ep,e,c⟩,r⟩:=x;exact⟨mA,⟨od,es,ep,k _ _ (.inl rfl) e,c⟩,r⟩
 | rng lo hi=>obtain ⟨t,u,v,e⟩:=x;exact⟨t,u,v,k _ _ (.inl rfl) e⟩
 | frz ob u ih=>obtain ⟨e,q⟩:=x;exact⟨k _ _ (.inl rfl) e,ih q⟩
 | tbl ps =>
  have e:h.get? a=some { cls:=.none,data:=.fields ps }:=x
  show h'.get? a=some { cls:=.none,data:=.fields ps }
  exact k a _ (.inl rfl) e
 | met f y =>
  have e:h.get? a=some (PySem.W.methodObj (.ref f) (.ref y)):=x
  show h'.get? a=some (PySem.W.methodObj (.ref f) (.ref y))
  exact k a _ (.inl rfl) e
 | ext φ=>obtain ⟨p,⟨o,e⟩,st⟩:=x;exact⟨st _ _ p fun o q=>k _ _ (.inl rfl) q,⟨o,k _ _ (.inl rfl) e⟩,st⟩
theorem HOk.lt (x:HOk P w H h) (e:H a=some o):a<h.objs.size:=(x a o e).lt
theorem HOk.fresh (x:HOk P w H h) (e:h.objs.size≤a):H a=none:=by
 cases q:H a with
 | none=>rfl
 | some u=>exact absurd (Nat.lt_of_lt_of_le (x.lt q) e) (Nat.lt_irrefl _)
theorem HOk.kept (x:HOk P w H h) (k:∀ b u,h.get? b=some u→h'.get? b=some u):HOk P w H h':=fun a o e =>
 (x a o e).stay (fun b u _ q=>k b u q) (fun _ q=>q) fun _ _ q=>q
theorem HOk.laid (x:HOk P w H h) (k:∀ b u,h.get? b=some u→h'.get? b=some u) (hp:h.objs.size≤a) (new:ObjOk P w (upd H a o) h' a o):HOk P w (upd H a o) h':=fun b u e=>by
 have hn:=x.fresh hp
 by_cases hb:b=a
 ·subst hb;rw [upd_same] at e;cases e;exact new
 ·rw [upd_ne hb] at e
  exact (x b u e).stay (fun c v _ q=>k c v q) (fun c q=>by rw [upd_ne (ne_of_none q hn)];exact q) fun c xs q=>by rw [upd_ne (ne_of_none q hn)];exact q
end
noncomputable def Rd (H:Hp) (a:Addr) (u:HO):Prop:=H a=some u∨∃ o,H a=some (.frz o u)
theorem Rd.ok {P:Program} {w:World} {H:Hp} {h:Heap} {a:Addr} {u:HO} (r:Rd H a u) (x:HOk P w H h):ObjOk P w H h a u:=by
 rcases r with r|⟨o,r⟩
 ·exact x a u r
 ·obtain ⟨_,q⟩:=x a _ r
  exact q
noncomputable def Mut:Option HO→Prop
 | some (.lst _)=>True
 | some (.dK _)=>True
 | some (.dT _)=>True
 | some (.set _ _)=>True
 | some (.ins _ _ _)=>True
 | some (.ext _)=>True
 | _=>False
section
variable {P:Program} {w:World} {H:Hp} {h h':Heap} {x e:Addr} {o':HO}
theorem HOk.write (ok:HOk P w H h) (mu:Mut (H x)) (he:e=x∨H e=some (.own x)) (k:∀ b u,b≠e→h.get? b=some u→h'.get? b=some u) (heo:∃ u,h'.get? e=some u)
  (new:ObjOk P w (upd H x o') h' x o'):HOk P w (upd H x o') h':=fun b u q=>by
 have nown:∀ c y,H c=some (.own y)→c≠x:=fun c y r z=>by subst z;rw [r] at mu;exact mu
 have ntup:∀ c xs,H c=some (.tup xs)→c≠x:=fun c xs r z=>by subst z;rw [r] at mu;exact mu
 by_cases hb:b=x
 ·subst hb;rw [upd_same] at q;cases q;exact new
 ·rw [upd_ne hb] at q
  by_cases hbe:b=e
  ·have q':H b=some (.own x):=by
    rcases he with z|z
    ·exact absurd (hbe.trans z) hb
    ·rw [hbe];exact z
   rw [q] at q';cases q'
   obtain ⟨v,hv⟩:=heo
   exact⟨v,by rw [hbe];exact hv⟩
  ·refine (ok b u q).stay (fun c v hc r=>k c v ?_ r) (fun c r=>by rw [upd_ne (nown c b r)];exact r) fun c xs r=>by rw [upd_ne (ntup c xs r)];exact r
   rcases hc with rfl|hc
   ·exact hbe
   ·rintro rfl
    rcases he with z|z
    ·exact nown c b hc z
    ·rw [hc] at z;cases z;exact hb rfl
end
structure Un (fs ex:List Addr) (H H':Hp) (h h':Heap):Prop where
 keep:∀ b o,h.get? b=some o→H b=none→b∉fs→b∉ex→h'.get? b=some o
 slot:∀ b o,h.get? b=some o→H b=none→b∈fs→b∉ex→∃ sl,h'.get? b=some { o with slots:=sl }
 free:∀ b o,h.get? b=some o→H b=none→b∉ex→H' b=none
 there:∀ b o,h.get? b=some o→b∉ex→∃ o',h'.get? b=some o'
 tups:∀ b xs,H b=some (.tup xs)→H' b=some (.tup xs)
 frzs:∀ b o u,H b=some (.frz o u)→H' b=some (.frz o u)
 tbls:∀ b ps,H b=some (.tbl ps)→∃ more,H' b=some (.tbl (ps++more))
section
variable {fs fs' ex ex':List Addr} {H H1 H2:Hp} {h h1 h2 h':Heap} {a x e:Addr} {o:HO}
theorem Un.any (u:Un fs ex H H1 h h1) {b:Addr} {ob:Obj} (q:h.get? b=some ob) (n:H b=none) (hx:b∉ex):∃ sl,h1.get? b=some { ob with slots:=sl }:=by
 by_cases hb:b∈fs
 ·exact u.slot b ob q n hb hx
 ·exact⟨ob.slots,u.keep b ob q n hb hx⟩
theorem Un.kept (k:∀ b u,h.get? b=some u→h'.get? b=some u):Un fs ex H H h h' :=
 ⟨fun b ob q _ _ _=>k b ob q,fun b ob q _ _ _=>⟨ob.slots,k b ob q⟩,fun _ _ _ n _=>n,fun b ob q _=>⟨ob,k b ob q⟩,fun _ _ q=>q,fun _ _ _ q=>q,fun _ ps q=>⟨#[],by rw [q];simp⟩⟩
theorem Un.refl:Un fs ex H H h h:=Un.kept fun _ _ q=>q
theorem Un.laid (k:∀ b u,h.get? b=some u→h'.get? b=some u) (hp:h.objs.size≤a) (hn:H a=none):Un fs ex H (upd H a o) h h' where
 keep:=fun b u q _ _ _=>k b u q
 slot:=fun b u q _ _ _=>⟨u.slots,k b u q⟩
 free:=fun b u q n _=>by rw [upd_ne (Nat.ne_of_lt (Nat.lt_of_lt_of_le (Heap.lt_size q) hp))];exact n
 there:=fun b u q _=>⟨u,k b u q⟩
 tups:=fun b xs q=>by rw [upd_ne (ne_of_none q hn)];exact q
 frzs:=fun b u xs q=>by rw [upd_ne (ne_of_none q hn)];exact q
 tbls:=fun b ps q=>⟨#[],by rw [upd_ne (ne_of_none q hn),q];simp⟩
theorem Un.write (mu:Mut (H x)) (he:e=x∨H e=some (.own x)) (k:∀ b u,b≠e→h.get? b=some u→h'.get? b=some u) (heo:∃ u,h'.get? e=some u):Un fs ex H (upd H x o) h h':=by
 have hx:∀ b,H b=none→b≠x:=fun b n z=>by subst z;rw [n] at mu;exact mu
 have hb:∀ b,H b=none→b≠e:=fun b n z=>by
  subst z
  rcases he with r|r
  ·exact hx b n r
  ·rw [n] at r;cases r
 have hm:∀ b u,H b=some u→¬ Mut (some u)→b≠x:=fun b u q nm z=>by subst z;rw [q] at mu;exact nm mu
 refine⟨fun b u q n _ _=>k b u (hb b n) q,fun b u q n _ _=>⟨u.slots,k b u (hb b n) q⟩,fun b u q n _=>by rw [upd_ne (hx b n)];exact n,fun b u q _=>?_,
  fun b xs q=>by rw [upd_ne (hm b _ q fun z=>z)];exact q,fun b u xs q=>by rw [upd_ne (hm b _ q fun z=>z)];exact q,fun b ps q=>⟨#[],by rw [upd_ne (hm b _ q fun z=>z),q];simp⟩⟩
 by_cases hbe:b=e
 ·subst hbe;exact heo
 ·exact⟨u,k b u hbe q⟩
end
noncomputable def trk (h:Heap) (H:Hp):List Addr:=(List.range h.objs.size).filter fun a=>(H a).isSome
noncomputable def hidT (h:Heap) (H:Hp):Heap:=PySem.W.hideAll h (trk h H)
theorem hidT_size (h:Heap) (H:Hp):(hidT h H).objs.size=h.objs.size:=PySem.W.hideAll_size _ _
theorem hidT_get {h:Heap} {H:Hp} {b:Addr} {o:Obj} (e:h.get? b=some o) (n:H b=none):(hidT h H).get? b=some o :=
 PySem.W.hideAll_get _ e fun hm=>by
  have q:(H b).isSome=true:=(List.mem_filter.mp hm).2
  rw [n] at q;simp at q
theorem of_hidT {h:Heap} {H:Hp} {b:Addr} {o:Obj} (e:(hidT h H).get? b=some o):h.get? b=some o∧H b=none:=by
 have e':h.get? b=some o:=PySem.W.of_hideAll (trk h H) e
 refine⟨e',?_⟩
 cases q:H b with
 | none=>rfl
 | some x =>
  have hm:b∈trk h H:=List.mem_filter.mpr ⟨List.mem_range.mpr (Heap.lt_size e'),by simp [q]⟩
  have z:(hidT h H).get? b=none:=PySem.W.hideAll_none (trk h H) hm
  rw [z] at e;cases e
noncomputable def allNews (g h:Heap) (L:Addr):List (Addr×Obj):=(List.range h.objs.size).filterMap fun a=>if a=L∨(g.get? a).isSome=true then none else (h.get? a).map fun o=>(a,o)
noncomputable def rest (g h:Heap) (L d:Addr):List (Addr×Obj):=(allNews g h L).filter fun p=>decide (p.1≠d)
end L2
namespace L2
open PySem PySem.Spec PyProof.Rows
structure Mod (K:PySem.W.Frag) (mg:Str→Option Value) (base:Heap):Prop where
 kin:K.In base
 glob:base.Ns mainGlobals mg
 blt:∃ mb,base.Ns builtinsNs mb∧∀ x:Str,x≠"__name__"→mb x=bootBuiltins x
 nolimit:base.NoLimit
structure Cx where
 prog:Program
 w:World
 K:PySem.W.Frag
 mg:Str→Option Value
 base:Heap
 A:Around
 N:List Str
 s₀:Shared
 H₀:Hp
 env:Env
 outer:List Env
 stack:List Env
 ex:List Addr
 fn:Str→Bool
 calm:Bool
 pn:List (Addr×Obj)
 xe:Value→Shared→Prop
noncomputable def frs (l:List Env):List Addr:=l.filterMap (·.frame)
noncomputable abbrev Cx.fs (X:Cx):List Addr:=frs X.outer
noncomputable def Vis (sc:Scope) (x:Str):Prop:=sc.names.lookup x=some .local∨sc.names.lookup x=some .cell∨sc.names.lookup x=some .free
noncomputable def Loc (sc:Scope) (x:Str):Prop:=sc.names.lookup x=some .local∨sc.names.lookup x=some .cell
noncomputable def Look (env:Env) (h:Heap) (m:Str→Option Value) (x:Str) (u:Value):Prop :=
 (env.kindOf x=some .local∧m x=some u)∨((env.kindOf x=some .cell∨env.kindOf x=some .free)∧∃ c,env.cells.lookup x=some c∧h.IsCell c (some u))
structure Cx.Ok (X:Cx):Prop where
 mod:Mod X.K X.mg X.base
 kind:X.env.scope.kind=.function
 glob:X.env.globals=mainGlobals
 blt:X.env.builtins=builtinsNs
 above:X.s₀.heap.objs.size≤X.env.locals
 inj:∀ x y c,X.env.cells.lookup x=some c→X.env.cells.lookup y=some c→x=y
 has:∀ x,(X.env.kindOf x=some .cell∨X.env.kindOf x=some .free)→∃ c,X.env.cells.lookup x=some c
 cab:∀ x c,X.fn x=true→X.env.cells.lookup x=some c→X.s₀.heap.objs.size≤c
 hd:X.calm=true→X.A.handled=none
 frames:X.A.frames=some X.stack
 stk:X.stack=X.outer∨(X.stack=X.env::X.outer∧X.env.frame=some X.env.locals)
 exf:∀ b∈X.ex,b≠X.env.locals∧∀ x c,X.env.cells.lookup x=some c→c≠b
 bs:∀ b o,X.base.get? b=some o→X.s₀.heap.get? b=some o∧X.H₀ b=none
 bsz:X.base.objs.size≤X.s₀.heap.objs.size
 noex:∀ b o,X.base.get? b=some o→b∉X.ex
 exfs:∀ b∈X.ex,b∉X.fs
 funs:X.s₀.heap.FunFrames X.base X.outer
 frf:∀ b∈X.fs,X.H₀ b=none
structure Inv (X:Cx) (pins:List (Addr×Obj)) (σ:List (Option V)) (H:Hp) (s:Shared):Prop where
 ok:X.Ok
 os:s.os=X.s₀.os
 bare:AllBare s.gens
 base:Un X.fs X.ex X.H₀ H X.s₀.heap s.heap
 loc:∃ m,s.heap.Ns X.env.locals m∧∀ (i:Nat) (x:Str) (v:V),X.N[i]?=some x→σ[i]?=some (some v)→Vis X.env.scope x→∃ u,RelV v u∧Look X.env s.heap m x u
 cell:∀ x c,X.env.cells.lookup x=some c→∃ v,s.heap.IsCell c v
 free:H X.env.locals=none
 freeC:∀ x c,X.env.cells.lookup x=some c→H c=none
 pin:∀ p∈X.pn++pins,s.heap.get? p.1=some p.2∧H p.1=none∧p.1≠X.env.locals∧p.1∉X.fs∧∀ v,p.2.data≠.cell v
 hok:HOk X.prog X.w H s.heap
 len:σ.length=X.N.length
section
variable {X:Cx} {pins:List (Addr×Obj)} {σ:List (Option V)} {H H':Hp} {s:Shared} {h':Heap}
theorem Cx.Ok.nofr (ok:X.Ok) {b:Addr} {o:Obj} (e:X.base.get? b=some o):b∉X.fs:=fun hb=>by
 have:=(ok.funs.mem hb).1
 rw [e] at this;cases this
theorem Inv.bs (I:Inv X pins σ H s):∀ b o,X.base.get? b=some o→s.heap.get? b=some o∧H b=none:=fun b o e =>
 ⟨I.base.keep b o (I.ok.bs b o e).1 (I.ok.bs b o e).2 (I.ok.nofr e) (I.ok.noex b o e),I.base.free b o (I.ok.bs b o e).1 (I.ok.bs b o e).2 (I.ok.noex b o e)⟩
theorem Inv.bk (I:Inv X pins σ H s):∀ b o,X.base.get? b=some o→s.heap.get? b=some o:=fun b o e=>(I.bs b o e).1
theorem Inv.mod (I:Inv X pins σ H s):Mod X.K X.mg X.base:=I.ok.mod
theorem Inv.kIn (I:Inv X pins σ H s):X.K.In s.heap:=I.ok.mod.kin.keeps I.bk
theorem Inv.lt (I:Inv X pins σ H s):X.env.locals<s.heap.objs.size:=let ⟨_,hn,_⟩:=I.loc;hn.lt
theorem Inv.sz (I:Inv X pins σ H s):X.s₀.heap.objs.size≤s.heap.objs.size:=Nat.le_trans I.ok.above (Nat.le_of_lt I.lt)
theorem Inv.nofs (I:Inv X pins σ H s) {a:Addr} (h:s.heap.objs.size≤a):a∉X.fs:=fun hb=>by
 obtain ⟨_,o,ho,_⟩:=I.ok.funs.mem hb
 exact absurd (Nat.lt_of_lt_of_le (Heap.lt_size ho) (Nat.le_trans I.sz h)) (Nat.lt_irrefl _)
theorem Inv.cne (I:Inv X pins σ H s):∀ x c,X.env.cells.lookup x=some c→c≠X.env.locals:=fun x c e z=>by
 obtain ⟨v,o,ho,hd⟩:=I.cell x c e
 obtain ⟨m,⟨o',es,ep,ho',hd',_⟩,_⟩:=I.loc
 rw [z,ho'] at ho;cases ho;rw [hd'] at hd;cases hd
theorem Inv.funs (I:Inv X pins σ H s):s.heap.FunFrames X.base X.outer:=by
 have all:∀ (l:List Env),(∀ b∈frs l,b∈X.fs)→X.s₀.heap.FunFrames X.base l→s.heap.FunFrames X.base l:=by
  intro l
  induction l with
  | nil=>intro _ _;trivial
  | cons env r ih =>
   intro hs hl
   obtain ⟨hk,⟨L,o,hf,hn,ho,hd⟩,hr⟩:=hl
   have hL:L∈X.fs:=hs L (by unfold frs;rw [List.filterMap_cons,hf];exact List.mem_cons_self)
   obtain ⟨sl,e⟩:=I.base.slot L o ho (I.ok.frf L hL) hL fun z=>I.ok.exfs L z hL
   exact⟨hk,⟨L,_,hf,hn,e,hd⟩,ih (fun b hb=>hs b (by unfold frs;rw [List.filterMap_cons,hf];exact List.mem_cons_of_mem _ hb)) hr⟩
 exact all X.outer (fun _ hb=>hb) I.ok.funs
theorem Inv.stack (I:Inv X pins σ H s):s.heap.FunFrames X.base X.stack:=by
 rcases I.ok.stk with e|⟨e,hf⟩
 ·rw [e];exact I.funs
 ·rw [e]
  obtain ⟨m,hn,_⟩:=I.loc
  refine .cons (by rw [I.ok.kind];decide) hf hn ?_ I.funs
  exact Heap.get?_none_of_le (Nat.le_trans I.ok.bsz I.ok.above)
theorem Inv.stkSub (I:Inv X pins σ H s):∀ b∈frs X.stack,b∈X.env.locals::X.fs:=fun b hb=>by
 rcases I.ok.stk with e|⟨e,hf⟩
 ·rw [e] at hb;exact List.mem_cons_of_mem _ hb
 ·rw [e] at hb
  unfold frs at hb
  rw [List.filterMap_cons,hf] at hb
  exact hb
theorem Inv.stkFree (I:Inv X pins σ H s):∀ b∈frs X.stack,H b=none:=fun b hb=>by
 rcases List.mem_cons.mp (I.stkSub b hb) with e|hb
 ·rw [e];exact I.free
 ·obtain ⟨_,o,ho,_⟩:=I.ok.funs.mem hb
  exact I.base.free b o ho (I.ok.frf b hb) fun z=>I.ok.exfs b z hb
theorem Inv.step {g':Array GenState} {t':Nat} {d':Drawn} {ch:List Addr} (I:Inv X pins σ H s)
  (hch:∀ b∈ch,(b∈X.ex∨X.s₀.heap.objs.size≤b)∧b≠X.env.locals∧(∀ x c,X.env.cells.lookup x=some c→c≠b)∧∀ p∈X.pn++pins,p.1≠b)
  (keep:∀ b o,b≠X.env.locals→b∉X.fs→b∉ch→s.heap.get? b=some o→H b=none→h'.get? b=some o)
  (slot:∀ b o,b≠X.env.locals→b∈X.fs→b∉ch→s.heap.get? b=some o→H b=none→∃ sl,h'.get? b=some { o with slots:=sl }) (free:∀ b o,b∉ch→s.heap.get? b=some o→H b=none→H' b=none)
  (there:∀ b o,b∉ch→s.heap.get? b=some o→∃ o',h'.get? b=some o')
  (tups:∀ b xs,H b=some (.tup xs)→H' b=some (.tup xs)) (frzs:∀ b o u,H b=some (.frz o u)→H' b=some (.frz o u)) (tbls:∀ b ps,H b=some (.tbl ps)→∃ more,H' b=some (.tbl (ps++more)))
  (ns:∀ m,s.heap.Ns X.env.locals m→h'.Ns X.env.locals m) (hok:HOk X.prog X.w H' h') (hg:AllBare g') :
  Inv X pins σ H' { s with heap:=h',gens:=g',drawn:=d',toks:=t' }:=by
 have neL:∀ b o,X.s₀.heap.get? b=some o→b≠X.env.locals:=fun b o e=>Nat.ne_of_lt (Nat.lt_of_lt_of_le (Heap.lt_size e) I.ok.above)
 have neC:∀ b o,X.s₀.heap.get? b=some o→b∉X.ex→b∉ch:=fun b o e hx hb=>by
  rcases (hch b hb).1 with z|z
  ·exact hx z
  ·exact absurd (Nat.lt_of_lt_of_le (Heap.lt_size e) z) (Nat.lt_irrefl _)
 have cellK:∀ x c,X.env.cells.lookup x=some c→∀ v,s.heap.IsCell c v→h'.IsCell c v:=fun x c e v ⟨o,ho,hd⟩=>by
  have nch:c∉ch:=fun z=>(hch c z).2.2.1 x c e rfl
  by_cases hc:c∈X.fs
  ·obtain ⟨sl,q⟩:=slot c o (I.cne x c e) hc nch ho (I.freeC x c e)
   exact⟨_,q,hd⟩
  ·exact⟨o,keep c o (I.cne x c e) hc nch ho (I.freeC x c e),hd⟩
 refine⟨I.ok,I.os,hg,⟨fun b o e n hb hx=>?_,fun b o e n hb hx=>?_,fun b o e n hx=>?_,fun b o e hx=>?_,fun b xs e=>tups b xs (I.base.tups b xs e),fun b o xs e=>frzs b o xs (I.base.frzs b o xs e),fun b ps e=>?_⟩,?_,fun x c e=>?_,?_,fun x c e=>?_,fun p hp=>?_,hok,I.len⟩
 ·exact keep b o (neL b o e) hb (neC b o e hx) (I.base.keep b o e n hb hx) (I.base.free b o e n hx)
 ·obtain ⟨sl,e1⟩:=I.base.slot b o e n hb hx
  obtain ⟨sl',e2⟩:=slot b _ (neL b o e) hb (neC b o e hx) e1 (I.base.free b o e n hx)
  exact⟨sl',e2⟩
 ·obtain ⟨o',e1⟩:=I.base.there b o e hx
  exact free b o' (neC b o e hx) e1 (I.base.free b o e n hx)
 ·obtain ⟨o',e1⟩:=I.base.there b o e hx
  exact there b o' (neC b o e hx) e1
 ·obtain ⟨m1,e1⟩:=I.base.tbls b ps e
  obtain ⟨m2,e2⟩:=tbls b _ e1
  exact⟨m1++m2,by rw [e2,Array.append_assoc]⟩
 ·obtain ⟨m,hn,hl⟩:=I.loc
  refine⟨m,ns m hn,fun i x v e1 e2 e3=>?_⟩
  obtain ⟨u,r,l⟩:=hl i x v e1 e2 e3
  refine⟨u,r,?_⟩
  rcases l with l|⟨k,c,e,z⟩
  ·exact .inl l
  ·exact .inr ⟨k,c,e,cellK x c e _ z⟩
 ·obtain ⟨v,z⟩:=I.cell x c e
  exact⟨v,cellK x c e v z⟩
 ·obtain ⟨m,⟨o,_,_,ho,_⟩,_⟩:=I.loc
  exact free _ o (fun z=>(hch _ z).2.1 rfl) ho I.free
 ·obtain ⟨v,o,ho,hd⟩:=I.cell x c e
  exact free c o (fun z=>(hch c z).2.2.1 x c e rfl) ho (I.freeC x c e)
 ·obtain ⟨e,n,ne,nf,d⟩:=I.pin p hp
  have nch:p.1∉ch:=fun z=>(hch p.1 z).2.2.2 p hp rfl
  exact⟨keep p.1 p.2 ne nf nch e n,free p.1 p.2 nch e n,ne,nf,d⟩
theorem Inv.un {t':Nat} (I:Inv X pins σ H s) (u:Un X.fs [] H H' s.heap h') (hok:HOk X.prog X.w H' h'):Inv X pins σ H' { s with heap:=h',toks:=t' }:=by
 obtain ⟨m,⟨o,es,ep,ho,r⟩,_⟩:=id I.loc
 obtain ⟨sl,hL⟩:=u.any ho I.free (by simp)
 exact I.step (g':=s.gens) (d':=s.drawn) (ch:=[]) (fun _ z=>nomatch z) (fun b o _ hb _ e n=>u.keep b o e n hb (by simp)) (fun b o _ hb _ e n=>u.slot b o e n hb (by simp)) (fun b o _ e n=>u.free b o e n (by simp)) (fun b o _ e=>u.there b o e (by simp)) u.tups u.frzs u.tbls (fun m' hm=>by
  obtain ⟨o',es',ep',ho',r'⟩:=hm
  rw [ho] at ho';cases ho'
  exact⟨_,es',ep',hL,r'⟩) hok I.bare
theorem Inv.call {g':Array GenState} {t':Nat} {d':Drawn} {ch:List Addr} (I:Inv X pins σ H s) (u:Un (frs X.stack) ch H H' s.heap h') (hok:HOk X.prog X.w H' h') (hg:AllBare g')
  (hch:∀ b∈ch,(b∈X.ex∨X.s₀.heap.objs.size≤b)∧b≠X.env.locals∧(∀ x c,X.env.cells.lookup x=some c→c≠b)∧∀ p∈X.pn++pins,p.1≠b) :
  Inv X pins σ H' { s with heap:=h',gens:=g',drawn:=d',toks:=t' }:=by
 obtain ⟨m,⟨o,es,ep,ho,r⟩,_⟩:=id I.loc
 obtain ⟨sl,hL⟩:=u.any ho I.free fun z=>(hch _ z).2.1 rfl
 exact I.step (ch:=ch) hch (fun b o hL hb hc e n=>u.keep b o e n (fun z=>(List.mem_cons.mp (I.stkSub b z)).elim hL hb) hc) (fun b o _ _ hc e n=>u.any e n hc) (fun b o hc e n=>u.free b o e n hc) (fun b o hc e=>u.there b o e hc) u.tups u.frzs u.tbls (fun m' hm=>by
  obtain ⟨o',es',ep',ho',r'⟩:=hm
  rw [ho] at ho';cases ho'
  exact⟨_,es',ep',hL,r'⟩) hok hg
theorem Inv.turned {t':Nat} {it:Addr} (I:Inv X pins σ H s) (k:∀ b o,b≠it→s.heap.get? b=some o→h'.get? b=some o) (hn:H it=none) (hL:it≠X.env.locals)
  (h1:it∈X.ex∨X.s₀.heap.objs.size≤it) (h2:∀ x c,X.env.cells.lookup x=some c→c≠it) (h3:∀ p∈X.pn++pins,p.1≠it):Inv X pins σ H { s with heap:=h',toks:=t' }:=by
 have nit:∀ b u,H b=some u→b≠it:=fun b u e z=>by rw [z,hn] at e;cases e
 refine I.step (g':=s.gens) (d':=s.drawn) (ch:=[it]) (fun b hb=>?_) (fun b o _ _ hc e _=>k b o (fun z=>hc (by simp [z])) e) (fun b o _ _ hc e _=>⟨o.slots,k b o (fun z=>hc (by simp [z])) e⟩) (fun _ _ _ _ n=>n)
  (fun b o hc e=>⟨o,k b o (fun z=>hc (by simp [z])) e⟩) (fun _ _ e=>e) (fun _ _ _ e=>e) (fun b ps e=>⟨#[],by rw [e];simp⟩) (fun m hm=>?_) (fun b u e=>?_) I.bare
 ·have e:b=it:=by simpa using hb
  subst e
  exact⟨h1,hL,h2,h3⟩
 ·obtain ⟨o,es,ep,ho,r⟩:=hm
  exact⟨o,es,ep,k _ o (Ne.symm hL) ho,r⟩
 ·refine (I.hok b u e).stay (fun c v hc q=>k c v ?_ q) (fun _ q=>q) fun _ _ q=>q
  rcases hc with z|z
  ·rw [z];exact nit b u e
  ·exact nit c _ z
theorem Inv.tok (I:Inv X pins σ H s) (t:Nat):Inv X pins σ H { s with toks:=t }:=I.un (h':=s.heap) (t':=t) Un.refl I.hok
theorem Inv.kept {t':Nat} (I:Inv X pins σ H s) (k:∀ b u,s.heap.get? b=some u→h'.get? b=some u):Inv X pins σ H { s with heap:=h',toks:=t' }:=I.un (Un.kept k) (I.hok.kept k)
theorem Inv.laid {a:Addr} {o:HO} {t':Nat} (I:Inv X pins σ H s) (k:∀ b u,s.heap.get? b=some u→h'.get? b=some u) (hp:s.heap.objs.size≤a) (new:ObjOk X.prog X.w (upd H a o) h' a o) :
  Inv X pins σ (upd H a o) { s with heap:=h',toks:=t' }:=I.un (Un.laid k hp (I.hok.fresh hp)) (I.hok.laid k hp new)
theorem Inv.write {x e:Addr} {o:HO} {t':Nat} (I:Inv X pins σ H s) (mu:Mut (H x)) (he:e=x∨H e=some (.own x)) (k:∀ b u,b≠e→s.heap.get? b=some u→h'.get? b=some u) (heo:∃ u,h'.get? e=some u)
  (new:ObjOk X.prog X.w (upd H x o) h' x o):Inv X pins σ (upd H x o) { s with heap:=h',toks:=t' }:=I.un (Un.write mu he k heo) (I.hok.write mu he k heo new)
theorem Inv.pins_of {pins':List (Addr×Obj)} (I:Inv X pins σ H s) (h:∀ p∈pins',s.heap.get? p.1=some p.2∧H p.1=none∧p.1≠X.env.locals∧p.1∉X.fs∧∀ v,p.2.data≠.cell v):Inv X pins' σ H s :=
 ⟨I.ok,I.os,I.bare,I.base,I.loc,I.cell,I.free,I.freeC,fun p hp=>(List.mem_append.mp hp).elim (fun z=>I.pin p (List.mem_append_left _ z)) (h p),I.hok,I.len⟩
theorem nodup_ix {N:List Str} (hN:N.Nodup) {i j:Nat} {x:Str} (a:N[i]?=some x) (b:N[j]?=some x):i=j:=by
 obtain ⟨h1,e1⟩:=List.getElem?_eq_some_iff.mp a
 obtain ⟨h2,e2⟩:=List.getElem?_eq_some_iff.mp b
 exact (List.getElem_inj hN).mp (e1.trans e2.symm)
theorem store_ok2 {M:Model} {A:Around} {E:Value→Shared→Prop} {i:Nat} {x:Str} {v:V} {u:Value} {Q:Unit→Shared→Prop} (I:Inv X pins σ H s) (hN:X.N.Nodup) (hi:X.N[i]?=some x) (hx:Loc X.env.scope x) (r:RelV v u)
  (h:∀ s',Inv X pins (σ.set i (some v)) H s'→(∃ a,Heap.SameBut a s.heap s'.heap∧(a=X.env.locals∨X.env.cells.lookup x=some a))→Q () s') (hf:X.fn x=true∨X.env.scope.names.lookup x=some .local:=by first|exact .inl rfl|exact .inr rfl|assumption):wpAny M A (storeName X.env x u) Q E s:=by
 obtain ⟨m,hn,hl⟩:=id I.loc
 have hcls:(X.env.scope.kind == .class || (X.env.scope.kind == .module && X.env.locals != X.env.globals))=false:=by rw [I.ok.kind];rfl
 have hiσ:i<σ.length:=by rw [I.len];exact (List.getElem?_eq_some_iff.mp hi).1
 have cne:=I.cne
 have tracked:∀ {a:Addr} {h':Heap},(∃ o,s.heap.get? a=some o∧H a=none)→Heap.SameBut a s.heap h'→HOk X.prog X.w H h':=fun {a h'} ha hs b ob e=>by
  obtain ⟨_,_,hfree⟩:=ha
  refine (I.hok b ob e).stay (fun c w' hc q=>(hs.2 c ?_).trans q) (fun _ q=>q) fun _ _ q=>q
  rintro rfl
  rcases hc with rfl|hc
  ·rw [hfree] at e;cases e
  ·rw [hfree] at hc;cases hc
 rcases hx with hk|hk
 ·refine wpAny_storeName_local hk hn (fun h' hn' hs=>?_) hcls
  obtain ⟨oL,_,_,hoL,_⟩:=id hn
  refine h _ ⟨I.ok,I.os,I.bare,⟨fun b o e n hb hx=>?_,fun b o e n hb hx=>?_,I.base.free,fun b o e hx=>?_,I.base.tups,I.base.frzs,I.base.tbls⟩,⟨_,hn',fun j y v' e1 e2 e3=>?_⟩,fun y c e=>?_,I.free,I.freeC,fun p hp=>?_,tracked ⟨oL,hoL,I.free⟩ hs,by simpa using I.len⟩ ⟨_,hs,.inl rfl⟩
  ·exact (hs.2 b (Nat.ne_of_lt (Nat.lt_of_lt_of_le (Heap.lt_size e) I.ok.above))).trans (I.base.keep b o e n hb hx)
  ·obtain ⟨sl,e1⟩:=I.base.slot b o e n hb hx
   exact⟨sl,(hs.2 b (Nat.ne_of_lt (Nat.lt_of_lt_of_le (Heap.lt_size e) I.ok.above))).trans e1⟩
  ·obtain ⟨o',e1⟩:=I.base.there b o e hx
   exact⟨o',(hs.2 b (Nat.ne_of_lt (Nat.lt_of_lt_of_le (Heap.lt_size e) I.ok.above))).trans e1⟩
  ·by_cases hj:j=i
   ·subst hj
    rw [hi] at e1;cases e1
    rw [List.getElem?_set_self hiσ] at e2
    cases e2
    exact⟨u,r,.inl ⟨hk,by simp⟩⟩
   ·rw [List.getElem?_set_ne (Ne.symm hj)] at e2
    obtain ⟨u',r',q⟩:=hl j y v' e1 e2 e3
    refine⟨u',r',?_⟩
    rcases q with ⟨k,e⟩|⟨k,c,e,z⟩
    ·refine .inl ⟨k,?_⟩
     have:y≠x:=fun e=>hj (nodup_ix hN e1 (e ▸ hi))
     simp [this,e]
    ·exact .inr ⟨k,c,e,z.sameBut hs (cne y c e)⟩
  ·obtain ⟨w',z⟩:=I.cell y c e
   exact⟨w',z.sameBut hs (cne y c e)⟩
  ·obtain ⟨e,n,ne,nf,d⟩:=I.pin p hp
   exact⟨(hs.2 p.1 ne).trans e,n,ne,nf,d⟩
 ·have hfn:X.fn x=true:=by
   rcases hf with z|z
   ·exact z
   ·rw [z] at hk;cases hk
  obtain ⟨c,hc⟩:=I.ok.has x (.inl hk)
  obtain ⟨w',z⟩:=I.cell x c hc
  refine wpAny_storeName_cell I.ok.kind hk hc z (fun h' hc' hs=>?_)
  obtain ⟨oc,hoc,hocd⟩:=id z
  refine h { s with heap:=h' } ⟨I.ok,I.os,I.bare,⟨fun b o e n hb hx=>?_,fun b o e n hb hx=>?_,I.base.free,fun b o e hx=>?_,I.base.tups,I.base.frzs,I.base.tbls⟩,⟨m,hn.sameBut hs (Ne.symm (cne x c hc)),fun j y v' e1 e2 e3=>?_⟩,fun y c' e=>?_,I.free,I.freeC,fun p hp=>?_,tracked ⟨oc,hoc,I.freeC x c hc⟩ hs,by simpa using I.len⟩ ⟨c,hs,.inr hc⟩
  ·exact (hs.2 b (Nat.ne_of_lt (Nat.lt_of_lt_of_le (Heap.lt_size e) (I.ok.cab x c hfn hc)))).trans (I.base.keep b o e n hb hx)
  ·obtain ⟨sl,e1⟩:=I.base.slot b o e n hb hx
   exact⟨sl,(hs.2 b (Nat.ne_of_lt (Nat.lt_of_lt_of_le (Heap.lt_size e) (I.ok.cab x c hfn hc)))).trans e1⟩
  ·obtain ⟨o',e1⟩:=I.base.there b o e hx
   exact⟨o',(hs.2 b (Nat.ne_of_lt (Nat.lt_of_lt_of_le (Heap.lt_size e) (I.ok.cab x c hfn hc)))).trans e1⟩
  ·by_cases hj:j=i
   ·subst hj
    rw [hi] at e1;cases e1
    rw [List.getElem?_set_self hiσ] at e2
    cases e2
    exact⟨u,r,.inr ⟨.inl hk,c,hc,hc'⟩⟩
   ·rw [List.getElem?_set_ne (Ne.symm hj)] at e2
    obtain ⟨u',r',q⟩:=hl j y v' e1 e2 e3
    refine⟨u',r',?_⟩
    rcases q with q|⟨k,c',e,z'⟩
    ·exact .inl q
    ·refine .inr ⟨k,c',e,z'.sameBut hs ?_⟩
     rintro rfl
     exact hj (nodup_ix hN e1 (I.ok.inj _ _ _ e hc ▸ hi))
  ·by_cases hcc:c'=c
   ·subst hcc;exact⟨_,hc'⟩
   ·obtain ⟨w2,z2⟩:=I.cell y c' e
    exact⟨w2,z2.sameBut hs hcc⟩
  ·obtain ⟨e,n,ne,nf,d⟩:=I.pin p hp
   refine⟨(hs.2 p.1 ?_).trans e,n,ne,nf,d⟩
   intro q
   rw [q,hoc] at e
   have q':oc=p.2:=Option.some.inj e
   exact d w' (by rw [← q'];exact hocd)
theorem store_ok {M:Model} {A:Around} {E:Value→Shared→Prop} {i:Nat} {x:Str} {v:V} {u:Value} {Q:Unit→Shared→Prop} (I:Inv X pins σ H s) (hN:X.N.Nodup) (hi:X.N[i]?=some x) (hx:Loc X.env.scope x) (r:RelV v u)
  (h:∀ s',Inv X pins (σ.set i (some v)) H s'→Q () s') (hf:X.fn x=true∨X.env.scope.names.lookup x=some .local:=by first|exact .inl rfl|exact .inr rfl|assumption):wpAny M A (storeName X.env x u) Q E s :=
 store_ok2 I hN hi hx r (fun s' I' _=>h s' I') hf
theorem Inv.call' {s':Shared} {ch:List Addr} (I:Inv X pins σ H s) (ho:s'.os=s.os) (u:Un (frs X.stack) ch H H' s.heap s'.heap) (hok:HOk X.prog X.w H' s'.heap) (hg:AllBare s'.gens)
  (hch:∀ b∈ch,(b∈X.ex∨X.s₀.heap.objs.size≤b)∧b≠X.env.locals∧(∀ x c,X.env.cells.lookup x=some c→c≠b)∧∀ p∈X.pn++pins,p.1≠b):Inv X pins σ H' s':=by
 obtain ⟨h',g',d',t',o'⟩:=s'
 have e:o'=s.os:=ho
 subst e
 exact I.call (g':=g') (t':=t') (d':=d') u hok hg hch
end
noncomputable abbrev XK:=Value→Option Addr→Hp→Prop
noncomputable abbrev St:=List (Option V)
noncomputable abbrev VK:=V→Hp→Prop
noncomputable abbrev TE:=St→Hp→VK→Prop
noncomputable abbrev TT:=St→Hp→(Bool→Hp→Prop)→Prop
noncomputable abbrev TA:=St→Hp→(List V→Hp→Prop)→Prop
structure Ends where
 nx:St→Hp→Prop
 rt:VK
 bk:St→Hp→Prop:=fun _ _=>False
 ct:St→Hp→Prop:=fun _ _=>False
noncomputable abbrev TS:=Ends→St→Hp→Prop
noncomputable def EP (X:Cx) (pins:List (Addr×Obj)) (σ:St) (Q:VK) (u:Value) (s':Shared):Prop:=∃ v H',Inv X pins σ H' s'∧RelV v u∧Q v H'
noncomputable def TP (X:Cx) (pins:List (Addr×Obj)) (σ:St) (Q:Bool→Hp→Prop) (b:Bool) (s':Shared):Prop:=∃ H',Inv X pins σ H' s'∧Q b H'
noncomputable def AP (X:Cx) (pins:List (Addr×Obj)) (σ:St) (Q:List V→Hp→Prop) (us:List Value) (s':Shared):Prop:=∃ vs H',Inv X pins σ H' s'∧Vals vs us∧Q vs H'
noncomputable def SP (X:Cx) (pins:List (Addr×Obj)) (D:Ends) (f:Flow) (s':Shared):Prop :=
 match f with
 | .next=>∃ σ' H',Inv X pins σ' H' s'∧D.nx σ' H'
 | .brk=>∃ σ' H',Inv X pins σ' H' s'∧D.bk σ' H'
 | .cont=>∃ σ' H',Inv X pins σ' H' s'∧D.ct σ' H'
 | .ret u=>∃ v σ' H',Inv X pins σ' H' s'∧RelV v u∧D.rt v H'
noncomputable def PE (X:Cx) (e:Expr) (t:TE):Prop :=
 ∀ (pins:List (Addr×Obj)) (s:Shared) (σ:St) (H:Hp) (Q:VK),Inv X pins σ H s→t σ H Q→wpAny (model X.prog X.w) X.A (eval e X.env) (EP X pins σ Q) X.xe s
noncomputable def PT (X:Cx) (e:Expr) (t:TT):Prop :=
 ∀ (pins:List (Addr×Obj)) (s:Shared) (σ:St) (H:Hp) (Q:Bool→Hp→Prop),Inv X pins σ H s→t σ H Q→wpAny (model X.prog X.w) X.A (isTrue e X.env (eval e X.env)) (TP X pins σ Q) X.xe s
noncomputable def PW (X:Cx) (e:Expr) (t:TT):Prop :=
 ∀ (whole:Sem Value) (pins:List (Addr×Obj)) (s:Shared) (σ:St) (H:Hp) (Q:Bool→Hp→Prop),Inv X pins σ H s→t σ H Q→wpAny (model X.prog X.w) X.A (isTrue e X.env whole) (TP X pins σ Q) X.xe s
theorem PW.pt {X:Cx} {e:Expr} {t:TT} (h:PW X e t):PT X e t:=h _
noncomputable def PA (X:Cx) (es:List Expr) (t:TA):Prop :=
 ∀ (pos:Pos) (pins:List (Addr×Obj)) (s:Shared) (σ:St) (H:Hp) (Q:List V→Hp→Prop),Inv X pins σ H s→t σ H Q→wpAny (model X.prog X.w) X.A (spliced (backTo pos (starEach es X.env))) (AP X pins σ Q) X.xe s
noncomputable def PS (X:Cx) (st:Stmt) (t:TS):Prop :=
 ∀ (pins:List (Addr×Obj)) (s:Shared) (σ:St) (H:Hp) (D:Ends),Inv X pins σ H s→t D σ H→wpAny (model X.prog X.w) X.A (exec st X.env) (SP X pins D) X.xe s
noncomputable def PSs (X:Cx) (st:List Stmt) (t:TS):Prop :=
 ∀ (pins:List (Addr×Obj)) (s:Shared) (σ:St) (H:Hp) (D:Ends),Inv X pins σ H s→t D σ H→wpAny (model X.prog X.w) X.A (execs st X.env) (SP X pins D) X.xe s
theorem thn {α:Type} {t:Sem α} {Q Q':α→Shared→Prop} {M:Model} {A:Around} {E:Value→Shared→Prop} {s:Shared} (h:wpAny M A t Q E s) (hQ:∀ a s,Q a s→Q' a s):wpAny M A t Q' E s:=wpAny_mono h hQ fun _ _ x=>x
end L2
namespace L2
open PySem PySem.Spec PyProof.Rows
section
variable {X:Cx}
theorem bin {a b:Expr} {ta tb:TE} (ha:PE X a ta) (hb:PE X b tb) {pins:List (Addr×Obj)} {s:Shared} {σ:St} {H:Hp} {R:V→V→Hp→Prop} (I:Inv X pins σ H s) (h:ta σ H fun x H1=>tb σ H1 fun y H2=>R x y H2)
  {α:Type} {Q:α→Shared→Prop} {f:Value→Value→Sem α}
  (hf:∀ v u s2 x y H2,Inv X pins σ H2 s2→RelV x v→RelV y u→R x y H2→wpAny (model X.prog X.w) X.A (f v u) Q X.xe s2) :
  wpAny (model X.prog X.w) X.A (eval a X.env) (fun v s₁=>wpAny (model X.prog X.w) X.A (eval b X.env) (fun u s₂=>wpAny (model X.prog X.w) X.A (f v u) Q X.xe s₂) X.xe s₁) X.xe s:=by
 refine thn (ha pins s σ H _ I h) fun v s1 ⟨x,H1,I1,r1,q1⟩=>?_
 refine thn (hb pins s1 σ H1 _ I1 q1) fun u s2 ⟨y,H2,I2,r2,q2⟩=>?_
 exact hf v u s2 x y H2 I2 r1 r2 q2
noncomputable def tVar (i:Nat):TE:=fun σ H Q=>∃ v,σ[i]?=some (some v)∧Q v H
noncomputable def tC (v:V):TE:=fun _ H Q=>Q v H
theorem pe_var {i:Nat} {x:Str} {pos:Pos} (hN:X.N[i]?=some x) (hv:Vis X.env.scope x) (hd:(x == ("__debug__":Str))=false:=by decide) (hcd:(x == ("__classdict__":Str))=false:=by decide):PE X (.Name x pos) (tVar i):=by
 intro pins s σ H Q I h
 obtain ⟨v,e,h⟩:=h
 obtain ⟨m,hn,hl⟩:=I.loc
 obtain ⟨u,r,l⟩:=hl i x v hN e hv
 have fin:EP X pins σ Q u s:=⟨v,H,I,r,h⟩
 rcases l with ⟨hk,hm⟩|⟨hk,c,hc,hcell⟩
 ·exact wpAny_Name (wpAny_loadName_local I.ok.kind hk hn hm fin) hd
 ·rcases hk with hk|hk
  ·exact wpAny_Name (wpAny_loadName_cell I.ok.kind hk hc hcell fin) hd
  ·exact wpAny_Name (wpAny_loadName_free I.ok.kind hk hc hcell fin hcd) hd
theorem pe_int {i j pos}:PE X (.Constant (.int i) j pos) (tC (.int i)):=fun _ _ _ H _ I h=>wpAny_Constant_int ⟨.int i,H,I.tok _,⟨_,rfl⟩,h⟩
theorem pe_bl {b j pos}:PE X (.Constant (.bool b) j pos) (tC (.bl b)):=fun _ _ _ H _ I h=>Constant_bool ⟨.bl b,H,I,rfl,h⟩
theorem pe_non {j pos}:PE X (.Constant .none j pos) (tC .non):=fun _ _ _ H _ I h=>Constant_none ⟨.non,H,I,rfl,h⟩
theorem pe_str {x j pos}:PE X (.Constant (.str x) j pos) (tC (.str x)):=fun _ _ _ H _ I h=>Calls.Constant_str ⟨.str x,H,I.tok _,⟨_,rfl⟩,h⟩
noncomputable def Gl (X:Cx) (x:Str):Prop:=X.env.kindOf x=some .globalImplicit
theorem ld_glob {E:Value→Shared→Prop} {pins:List (Addr×Obj)} {s:Shared} {σ:St} {H:Hp} {x:Str} {u:Value} {pos:Pos} {Q:Value→Shared→Prop} (I:Inv X pins σ H s) (hg:Gl X x) (hm:X.mg x=some u) (h:Q u s)
  (hd:(x == ("__debug__":Str))=false:=by decide):wpAny (model X.prog X.w) X.A (eval (.Name x pos) X.env) Q E s :=
 Calls.Name_function_global I.ok.kind hg (Calls.loadGlobal_global (by rw [I.ok.glob];exact I.mod.glob.keeps I.bk) hm h) hd
theorem ld_blt {E:Value→Shared→Prop} {pins:List (Addr×Obj)} {s:Shared} {σ:St} {H:Hp} {x:Str} {u:Value} {pos:Pos} {Q:Value→Shared→Prop} (I:Inv X pins σ H s) (hg:Gl X x) (hm:X.mg x=none) (hv:bootBuiltins x=some u) (h:Q u s)
  (hn:x≠"__name__":=by decide) (hd:(x == ("__debug__":Str))=false:=by decide):wpAny (model X.prog X.w) X.A (eval (.Name x pos) X.env) Q E s:=by
 obtain ⟨mb,h1,h2⟩:=I.mod.blt
 exact Calls.Name_function_global I.ok.kind hg (Calls.loadGlobal_builtin (by rw [I.ok.glob];exact I.mod.glob.keeps I.bk) hm (by rw [I.ok.blt];exact h1.keeps I.bk) ((h2 x hn).trans hv) h) hd
theorem pe_glob {x:Str} {v:V} {u:Value} {pos:Pos} (hg:Gl X x) (hm:X.mg x=some u) (r:RelV v u) (hd:(x == ("__debug__":Str))=false:=by decide):PE X (.Name x pos) (tC v) :=
 fun _ _ _ H _ I h=>ld_glob I hg hm ⟨v,H,I,r,h⟩ hd
theorem pe_bltn {x:Str} {v:V} {u:Value} {pos:Pos} (hg:Gl X x) (hm:X.mg x=none) (hv:bootBuiltins x=some u) (r:RelV v u) (hn:x≠"__name__":=by decide) (hd:(x == ("__debug__":Str))=false:=by decide):PE X (.Name x pos) (tC v) :=
 fun _ _ _ H _ I h=>ld_blt I hg hm hv ⟨v,H,I,r,h⟩ hn hd
variable {a b:Expr} {ta tb:TE} {pos:Pos}
noncomputable def PC (X:Cx) (op:CmpOp) (a b:Expr) (t:TE):Prop :=
 ∀ (pins:List (Addr×Obj)) (s:Shared) (σ:St) (H:Hp) (Q:VK),Inv X pins σ H s→t σ H Q →
  wpAny (model X.prog X.w) X.A (eval a X.env) (fun v s₁=>wpAny (model X.prog X.w) X.A (eval b X.env) (fun u s₂=>wpAny (model X.prog X.w) X.A (compareOp op v u) (EP X pins σ Q) X.xe s₂) X.xe s₁) X.xe s
noncomputable def tB (t:TE):TT:=fun σ H Q=>t σ H fun x H1=>∃ c,x=.bl c∧Q c H1
theorem pt_cmp {op:CmpOp} {t:TE} (h:PC X op a b t) (h1:behindInMarks op b=false:=by first|exact nobehind _ (by decide) (by decide)|rfl):PT X (.Compare a [op] [b] pos) (tB t):=by
 intro pins s σ H Q I hw
 refine wpAny_isTrue_Compare1 (thn (h pins s σ H _ I hw) fun v s1 h1=>thn h1 fun u s2 h2=>thn h2 fun c s3 ⟨x,H1,I1,r1,q1⟩=>?_) h1
 obtain ⟨d,rfl,q⟩:=q1
 cases r1
 exact wpAny_truthy_bool ⟨H1,I1,q⟩
theorem pt_val {e:Expr} {t:TE} (h:PE X e t) (he:∀ whole,isTrue e X.env whole=(do let v ← whole;standAt e.pos;holding [v] (truthy v)):=by intro _;rfl):PT X e (tB t):=by
 intro pins s σ H Q I hw
 refine isTrue_plain (thn (h pins s σ H _ I hw) fun v s1 ⟨x,H1,I1,r1,q1⟩=>?_) (he _)
 obtain ⟨d,rfl,q⟩:=q1
 cases r1
 exact wpAny_truthy_bool ⟨H1,I1,q⟩
variable {tA tB':TT} {rest:List Expr}
noncomputable def tAnd (t u:TT):TT:=fun σ H Q=>t σ H fun c H1=>if c=true then u σ H1 Q else Q false H1
noncomputable def tOr (t u:TT):TT:=fun σ H Q=>t σ H fun c H1=>if c=true then Q true H1 else u σ H1 Q
noncomputable def tNot (t:TT):TT:=fun σ H Q=>t σ H fun c H1=>Q (!c) H1
theorem pw_and1 (ha:PT X a tA):PW X (.BoolOp .And [a] pos) tA:=by
 intro wh pins s σ H Q I h
 refine isTrue_and (thn (ha pins s σ H Q I h) fun c s1 e=>?_)
 cases c with
 | true=>exact isTrue_and_nil e
 | false=>exact e
theorem pw_or1 (ha:PT X a tA):PW X (.BoolOp .Or [a] pos) tA:=by
 intro wh pins s σ H Q I h
 refine isTrue_or (thn (ha pins s σ H Q I h) fun c s1 e=>?_)
 cases c with
 | false=>exact isTrue_or_nil e
 | true=>exact e
theorem pw_and (ha:PT X a tA) (hb:PW X (.BoolOp .And (b::rest) pos) tB'):PW X (.BoolOp .And (a::b::rest) pos) (tAnd tA tB'):=by
 intro wh pins s σ H Q I h
 refine isTrue_and (thn (ha pins s σ H _ I h) fun c s1 ⟨H1,I1,q1⟩=>?_)
 cases c with
 | true=>exact hb wh pins s1 σ H1 Q I1 q1
 | false=>exact⟨H1,I1,q1⟩
theorem pw_or (ha:PT X a tA) (hb:PW X (.BoolOp .Or (b::rest) pos) tB'):PW X (.BoolOp .Or (a::b::rest) pos) (tOr tA tB'):=by
 intro wh pins s σ H Q I h
 refine isTrue_or (thn (ha pins s σ H _ I h) fun c s1 ⟨H1,I1,q1⟩=>?_)
 cases c with
 | true=>exact⟨H1,I1,q1⟩
 | false=>exact hb wh pins s1 σ H1 Q I1 q1
theorem pt_not (ha:PT X a tA):PT X (.UnaryOp .Not a pos) (tNot tA):=by
 intro pins s σ H Q I h
 exact isTrue_not (ha pins s σ H (fun c H1=>Q (!c) H1) I h)
noncomputable def tAndV (ta tb:TE):TE:=fun σ H Q=>ta σ H fun x H1=>∃ c,x=.bl c∧if c=true then tb σ H1 Q else Q (.bl false) H1
noncomputable def tNotV (ta:TE):TE:=fun σ H Q=>ta σ H fun x H1=>∃ c,x=.bl c∧Q (.bl (!c)) H1
theorem pe_one {op} {t:TE} (h:PE X a t):PE X (.BoolOp op [a] pos) t:=fun pins s σ H Q I hw=>BoolOp_one (h pins s σ H Q I hw)
theorem pe_and (ha:PE X a ta) (hb:PE X (.BoolOp .And (b::rest) pos) tb):PE X (.BoolOp .And (a::b::rest) pos) (tAndV ta tb):=by
 intro pins s σ H Q I h
 refine BoolOp_and (thn (ha pins s σ H _ I h) fun v s1 ⟨x,H1,I1,r1,q1⟩=>?_)
 obtain ⟨c,rfl,q1⟩:=q1
 cases r1
 refine wpAny_truthy_bool ?_
 cases c with
 | true=>exact hb pins s1 σ H1 Q I1 q1
 | false=>exact⟨.bl false,H1,I1,rfl,q1⟩
theorem pe_not (ha:PE X a ta):PE X (.UnaryOp .Not a pos) (tNotV ta):=by
 intro pins s σ H Q I h
 refine UnaryOp_ (thn (ha pins s σ H _ I h) fun v s1 ⟨x,H1,I1,r1,q1⟩=>?_)
 obtain ⟨c,rfl,q1⟩:=q1
 cases r1
 exact not_of (wpAny_truthy_bool ⟨.bl (!c),H1,I1,rfl,q1⟩)
noncomputable def tIf (t:TT) (ta tb:TE):TE:=fun σ H Q=>t σ H fun c H1=>if c=true then ta σ H1 Q else tb σ H1 Q
theorem pe_ifExp {c:Expr} (hc:PT X c tA) (ha:PE X a ta) (hb:PE X b tb):PE X (.IfExp c a b pos) (tIf tA ta tb):=by
 intro pins s σ H Q I h
 refine wpAny_IfExp (thn (hc pins s σ H _ I h) fun d s1 ⟨H1,I1,q1⟩=>?_)
 cases d with
 | true=>exact ha pins s1 σ H1 Q I1 q1
 | false=>exact hb pins s1 σ H1 Q I1 q1
end
end L2
namespace L2
open PySem PySem.Spec PyProof.Rows
noncomputable def SqL (K:PySem.W.Frag) (H:Hp) (a:Addr) (xs:List V):Prop :=
 Rd H a (.lst xs) ∨
  ∃ (o:Obj) (its:Array Value) (n:Nat),K.lookup a=some o∧o.cls=.type "list"∧o.dict=none∧o.data=.seq its n∧its.size≤sizeLine∧Vals xs its.toList
noncomputable def SqT (K:PySem.W.Frag) (H:Hp) (a:Addr) (xs:List V):Prop :=
 Rd H a (.tup xs) ∨
  ∃ (o:Obj) (its:Array Value) (n:Nat),K.lookup a=some o∧o.cls=.type "tuple"∧o.data=.seq its n∧its.size≤sizeLine∧Vals xs its.toList
noncomputable def absV:Value→Option V
 | .none=>some .non
 | .bool b=>some (.bl b)
 | .int i _=>some (.int i)
 | .str x _=>some (.str x)
 | .bytes b _=>some (.byt b)
 | .float b _=>some (.flt b)
 | .ref a=>some (.ref a)
 | .type n=>some (.ty n)
 | _=>none
theorem RelV.abs {x:V} {u:Value} (r:RelV x u):absV u=some x:=by
 cases x with
 | non=>cases r;rfl
 | bl _=>cases r;rfl
 | int _=>obtain ⟨t,rfl⟩:=r;rfl
 | str _=>obtain ⟨t,rfl⟩:=r;rfl
 | byt _=>obtain ⟨t,rfl⟩:=r;rfl
 | flt _=>obtain ⟨t,rfl⟩:=r;rfl
 | ref _=>cases r;rfl
 | ty _=>cases r;rfl
theorem RelV.inj {x y:V} {u:Value} (r:RelV x u) (q:RelV y u):x=y:=Option.some.inj (r.abs.symm.trans q.abs)
theorem Vals.inj:∀ {xs ys:List V} {us:List Value},Vals xs us→Vals ys us→xs=ys
 | _,_,_,.nil,.nil=>rfl
 | _,_,_,.cons r t,.cons r' t'=>by rw [r.inj r',Vals.inj t t']
section
variable {X:Cx} {pins:List (Addr×Obj)} {σ:St} {H:Hp} {s:Shared} {a:Addr} {xs ys:List V}
theorem SqL.of {K:PySem.W.Frag} (h:H a=some (.lst xs)):SqL K H a xs:=.inl (.inl h)
theorem SqT.of {K:PySem.W.Frag} (h:H a=some (.tup xs)):SqT K H a xs:=.inl (.inl h)
theorem Inv.list (I:Inv X pins σ H s) (h:SqL X.K H a xs):∃ its:List Value,Vals xs its∧PlainL s.heap a its.toArray∧xs.length≤sizeLine:=by
 rcases h with h|⟨o,its,n,hk,hc,hd,hs,hz,r⟩
 ·obtain ⟨z,its,n,r,e⟩:=h.ok I.hok
  exact⟨its,r,⟨_,n,e,rfl,rfl,rfl⟩,z⟩
 ·refine⟨its.toList,r,⟨o,n,I.kIn a o hk,hc,hd,by simpa using hs⟩,?_⟩
  have e:=r.length
  simp only [Array.length_toList] at e
  lia
theorem Inv.tuple (I:Inv X pins σ H s) (h:SqT X.K H a xs):∃ its:List Value,Vals xs its∧IsTup s.heap a its.toArray∧xs.length≤sizeLine:=by
 rcases h with h|⟨o,its,n,hk,hc,hs,hz,r⟩
 ·obtain ⟨z,its,r,p⟩:=h.ok I.hok
  exact⟨its,r,p,z⟩
 ·refine⟨its.toList,r,⟨o,I.kIn a o hk,hc,n,by simpa using hs⟩,?_⟩
  have e:=r.length
  simp only [Array.length_toList] at e
  lia
theorem Inv.list_inj (I:Inv X pins σ H s) (h:SqL X.K H a xs) (h':SqL X.K H a ys):xs=ys:=by
 obtain ⟨its,r,⟨o,n,e,_,_,d⟩,_⟩:=I.list h
 obtain ⟨its',r',⟨o',n',e',_,_,d'⟩,_⟩:=I.list h'
 rw [e] at e';cases e'
 rw [d] at d'
 injection d' with d1 _
 have:its=its':=by simpa using congrArg Array.toList d1
 subst this
 exact r.inj r'
theorem Inv.tuple_inj (I:Inv X pins σ H s) (h:SqT X.K H a xs) (h':SqT X.K H a ys):xs=ys:=by
 obtain ⟨its,r,⟨o,e,_,n,d⟩,_⟩:=I.tuple h
 obtain ⟨its',r',⟨o',e',_,n',d'⟩,_⟩:=I.tuple h'
 rw [e] at e';cases e'
 rw [d] at d'
 injection d' with d1 _
 have:its=its':=by simpa using congrArg Array.toList d1
 subst this
 exact r.inj r'
end
noncomputable abbrev Cx.wish (X:Cx) (E:Value→Shared→Prop):Cx:={ X with xe:=E }
noncomputable abbrev Cx.nox (X:Cx):Cx:=X.wish fun _ _=>False
theorem Cx.Ok.wish {X:Cx} (ok:X.Ok) (E:Value→Shared→Prop):(X.wish E).Ok :=
 ⟨ok.mod,ok.kind,ok.glob,ok.blt,ok.above,ok.inj,ok.has,ok.cab,ok.hd,ok.frames,ok.stk,ok.exf,ok.bs,ok.bsz,ok.noex,ok.exfs,ok.funs,ok.frf⟩
theorem Cx.Ok.unwish {X:Cx} {E:Value→Shared→Prop} (ok:(X.wish E).Ok):X.Ok :=
 ⟨ok.mod,ok.kind,ok.glob,ok.blt,ok.above,ok.inj,ok.has,ok.cab,ok.hd,ok.frames,ok.stk,ok.exf,ok.bs,ok.bsz,ok.noex,ok.exfs,ok.funs,ok.frf⟩
section
variable {X:Cx} {pins:List (Addr×Obj)} {σ:St} {H:Hp} {s:Shared} {E:Value→Shared→Prop}
theorem Inv.wish (I:Inv X pins σ H s) (E:Value→Shared→Prop):Inv (X.wish E) pins σ H s:=⟨I.ok.wish E,I.os,I.bare,I.base,I.loc,I.cell,I.free,I.freeC,I.pin,I.hok,I.len⟩
theorem Inv.unwish (I:Inv (X.wish E) pins σ H s):Inv X pins σ H s:=⟨I.ok.unwish,I.os,I.bare,I.base,I.loc,I.cell,I.free,I.freeC,I.pin,I.hok,I.len⟩
theorem SP.unwish {D:Ends} {f:Flow} {s':Shared} (h:SP (X.wish E) pins D f s'):SP X pins D f s':=by
 cases f with
 | next=>obtain ⟨σ',H',I,q⟩:=h;exact⟨σ',H',I.unwish,q⟩
 | brk=>obtain ⟨σ',H',I,q⟩:=h;exact⟨σ',H',I.unwish,q⟩
 | cont=>obtain ⟨σ',H',I,q⟩:=h;exact⟨σ',H',I.unwish,q⟩
 | ret u=>obtain ⟨v,σ',H',I,r,q⟩:=h;exact⟨v,σ',H',I.unwish,r,q⟩
theorem PSs.nox {st:List Stmt} {t:TS} (h:PSs X.nox st t):PSs X st t:=fun pins s σ H D I hw =>
 wpAny_mono (h pins s σ H D (I.wish _) hw) (fun _ _ q=>q.unwish) fun _ _ z=>False.elim z
end
section
variable {X:Cx} {st:Stmt} {rest:List Stmt} {t u:TS} {e:Expr} {te:TE} {pos:Pos}
noncomputable def tNext:TS:=fun D σ H=>D.nx σ H
noncomputable def tSeq (t u:TS):TS:=fun D σ H=>t { D with nx:=u D } σ H
theorem pss_nil:PSs X [] tNext:=fun _ _ σ H _ I h=>wpAny_execs_nil ⟨σ,H,I,h⟩
theorem pss_cons (h1:PS X st t) (h2:PSs X rest u):PSs X (st::rest) (tSeq t u):=by
 intro pins s σ H D I h
 refine wpAny_execs_cons (thn (h1 pins s σ H { D with nx:=u D } I h) fun f s1 q=>?_)
 cases f with
 | next =>
  obtain ⟨σ',H',I',q⟩:=q
  exact h2 pins s1 σ' H' D I' q
 | ret v=>exact q
 | brk=>exact q
 | cont=>exact q
theorem pss_one (h1:PS X st t):PSs X [st] t:=by
 intro pins s σ H D I h
 refine wpAny_execs_cons (thn (h1 pins s σ H D I h) fun f s1 q=>?_)
 cases f with
 | next=>exact wpAny_execs_nil q
 | ret v=>exact q
 | brk=>exact q
 | cont=>exact q
theorem Inv.quiet {pins:List (Addr×Obj)} {σ:St} {H:Hp} {s:Shared} (I:Inv X pins σ H s):interactive X.env=false:=by simp [interactive,I.ok.kind]
noncomputable def tDrop (te:TE):TS:=fun D σ H=>te σ H fun _ H1=>D.nx σ H1
theorem ps_expr (he:PE X e te) (hs:swapsWith e none pos.line X.env=pure false:=by rfl):PS X (.Expr e pos) (tDrop te):=by
 intro pins s σ H D I h
 exact wpAny_Expr_any (thn (he pins s σ H _ I h) fun v s1 ⟨x,H1,I1,r1,q1⟩=>⟨σ,H1,I1,q1⟩) I.quiet hs
noncomputable def tRet (te:TE):TS:=fun D σ H=>te σ H D.rt
theorem ps_ret (he:PE X e te):PS X (.Return (some e) pos) (tRet te):=by
 intro pins s σ H D I h
 exact wpAny_Return_some (thn (he pins s σ H _ I h) fun v s1 ⟨x,H1,I1,r1,q1⟩=>⟨x,σ,H1,I1,r1,q1⟩)
noncomputable def tIfS (c:TT) (t u:TS):TS:=fun D σ H=>c σ H fun b H1=>if b=true then t D σ H1 else u D σ H1
theorem ps_if {c:Expr} {a b:List Stmt} {tc:TT} (hc:PT X c tc) (ha:PSs X a t) (hb:PSs X b u):PS X (.If c a b pos) (tIfS tc t u):=by
 intro pins s σ H D I h
 refine wpAny_If (thn (hc pins s σ H _ I h) fun d s1 ⟨H1,I1,q1⟩=>?_)
 cases d with
 | true=>exact ha pins s1 σ H1 D I1 q1
 | false=>exact hb pins s1 σ H1 D I1 q1
end
noncomputable abbrev TG:=V→St→Hp→(St→Hp→Prop)→Prop
noncomputable abbrev TGs:=List V→St→Hp→(St→Hp→Prop)→Prop
noncomputable def PG (X:Cx) (target:Expr) (t:TG):Prop :=
 ∀ (pins:List (Addr×Obj)) (s:Shared) (σ:St) (H:Hp) (v:V) (u:Value) (Q:St→Hp→Prop),Inv X pins σ H s→RelV v u→t v σ H Q →
  wpAny (model X.prog X.w) X.A (assign target X.env u) (fun _ s'=>∃ σ' H',Inv X pins σ' H' s'∧Q σ' H') X.xe s
noncomputable def PGs (X:Cx) (ts:List Expr) (t:TGs):Prop :=
 ∀ (pins:List (Addr×Obj)) (s:Shared) (σ:St) (H:Hp) (vs:List V) (us:List Value) (Q:St→Hp→Prop),Inv X pins σ H s→Vals vs us→t vs σ H Q →
  wpAny (model X.prog X.w) X.A (assignInOrder ((assignEach ts X.env).map (·.2)) us) (fun _ s'=>∃ σ' H',Inv X pins σ' H' s'∧Q σ' H') X.xe s
section
variable {X:Cx} {pos:Pos}
noncomputable def gName (i:Nat):TG:=fun v σ H Q=>Q (σ.set i (some v)) H
theorem pg_name {i:Nat} {x:Str} (hN:X.N.Nodup) (hi:X.N[i]?=some x) (hx:Loc X.env.scope x) (hf:X.fn x=true∨X.env.scope.names.lookup x=some .local:=by first|exact .inl rfl|exact .inr rfl|assumption):PG X (.Name x pos) (gName i):=by
 intro pins s σ H v u Q I r h
 exact wpAny_assign_Name (store_ok I hN hi hx r (fun s' I'=>⟨_,H,I',h⟩) hf)
noncomputable def gNil:TGs:=fun vs σ H Q=>vs=[]∧Q σ H
noncomputable def gCons (t:TG) (u:TGs):TGs:=fun vs σ H Q=>∃ v r,vs=v::r∧t v σ H fun σ' H'=>u r σ' H' Q
theorem pgs_nil:PGs X [] gNil:=by
 intro pins s σ H vs us Q I r h
 obtain ⟨e,h⟩:=h
 subst e
 cases r
 exact assignInOrder_nil ⟨σ,H,I,h⟩
theorem pgs_cons {e:Expr} {es:List Expr} {t:TG} {u:TGs} (h1:PG X e t) (h2:PGs X es u)
  (hs:(assignEach (e::es) X.env).map (·.2)=assign e X.env::(assignEach es X.env).map (·.2):=by rfl):PGs X (e::es) (gCons t u):=by
 intro pins s σ H vs us Q I r h
 obtain ⟨v,vr,e1,h⟩:=h
 subst e1
 cases r with
 | cons r rr =>
  rw [hs]
  refine assignInOrder_cons (thn (h1 pins s σ H _ _ _ I r h) fun _ s1 ⟨σ1,H1,I1,q1⟩=>?_)
  exact h2 pins s1 σ1 H1 _ _ Q I1 rr q1
noncomputable def gTup (K:PySem.W.Frag) (n:Nat) (t:TGs):TG:=fun v σ H Q=>∃ a xs,v=.ref a∧SqT K H a xs∧xs.length=n∧t xs σ H Q
theorem pg_tup {es:List Expr} {k:Nat} {t:TGs} {n:Nat} (hc:X.calm=true) (h:PGs X es t)
  (hn:(assignEach es X.env).length=n:=by rfl) (hst:(assignEach es X.env).findIdx? (·.1)=none:=by rfl):PG X (.Tuple es k pos) (gTup X.K n t):=by
 intro pins s σ H v u Q I r hw
 obtain ⟨a,xs,e1,hq,hl,hw⟩:=hw
 subst e1
 cases r
 obtain ⟨its,rv,ht,hz⟩:=I.tuple hq
 refine assign_Tuple_tuple (I.ok.hd hc) ht (by simp [hn,← hl,rv.length]) hst fun h' hx=>?_
 have I1:Inv X pins σ H { s with heap:=h' }:=I.kept (t':=s.toks) fun b o e=>hx b o (Nat.ne_of_lt (Heap.lt_size e)) e
 exact h pins _ σ H xs _ Q I1 (by simpa using rv) hw
noncomputable def tAsg (te:TE) (g:TG):TS:=fun D σ H=>te σ H fun x H1=>g x σ H1 D.nx
theorem ps_set {i:Nat} {x:Str} {e:Expr} {te:TE} {pos':Pos} (hN:X.N.Nodup) (hi:X.N[i]?=some x) (hx:Loc X.env.scope x) (he:PE X e te) (hs:swapsWith e (some (.Name x pos')) pos.line X.env=pure false:=by rfl) (hf:X.fn x=true∨X.env.scope.names.lookup x=some .local:=by first|exact .inl rfl|exact .inr rfl|assumption) :
  PS X (.Assign [.Name x pos'] e pos) (tAsg te (gName i)):=by
 intro pins s σ H D I h
 refine wpAny_Assign_Name (thn (he pins s σ H _ I h) fun v s1 ⟨y,H1,I1,r1,q1⟩=>?_) hs
 exact store_ok I1 hN hi hx r1 (fun s2 I2=>⟨_,H1,I2,q1⟩) hf
end
section
variable {X:Cx} {pos:Pos}
noncomputable def tWhile (c:TT) (tb:TS):TS:=fun D σ H=>∃ W:Nat→St→Hp→Prop,(∃ m,W m σ H)∧∀ m σ H,W m σ H →
 c σ H fun b H1=>if b=true then ∃ N:St→Hp→Prop,(∀ σ' H',N σ' H'→∃ m',m'<m∧W m' σ' H')∧tb { D with nx:=N,ct:=N,bk:=D.nx } σ H1 else D.nx σ H1
theorem ps_while {c:Expr} {body:List Stmt} {tc:TT} {tb:TS} (hp:PassesOwn (model X.prog X.w) X.A X.env X.xe) (hc:PT X c tc) (hb:PSs X body tb):PS X (.While c body [] pos) (tWhile tc tb):=by
 intro pins s σ H D I h
 obtain ⟨W,⟨m0,w0⟩,turn⟩:=h
 refine wpAny_While (codeAny_whileLoop (fun n s'=>∃ σ' H',Inv X pins σ' H' s'∧W n σ' H') ?_ m0 ⟨σ,H,I,w0⟩)
 rintro n s1 ⟨σ1,H1,I1,w1⟩
 refine wpAny_passesOwn hp (thn (hc pins s1 σ1 H1 _ I1 (turn n σ1 H1 w1)) fun b s2 ⟨H2,I2,q2⟩=>?_)
 cases b with
 | true =>
  obtain ⟨N,hN,q2⟩:=q2
  rw [if_pos rfl]
  refine wpAny_passesOwn hp (thn (hb pins s2 σ1 H2 _ I2 q2) fun f s3 q3=>?_)
  cases f with
  | next =>
   obtain ⟨σ3,H3,I3,n3⟩:=q3
   obtain ⟨m',hm,w3⟩:=hN σ3 H3 n3
   exact⟨m',hm,σ3,H3,I3,w3⟩
  | cont =>
   obtain ⟨σ3,H3,I3,n3⟩:=q3
   obtain ⟨m',hm,w3⟩:=hN σ3 H3 n3
   exact⟨m',hm,σ3,H3,I3,w3⟩
  | brk=>exact q3
  | ret v=>exact q3
 | false =>
  rw [if_neg Bool.false_ne_true]
  exact wpAny_execs_nil ⟨σ1,H2,I2,q2⟩
end
structure It where
 go:Nat→Hp→Prop
 yld:Nat→Hp→V→Hp→Prop
 stop:Nat→Hp→Prop
noncomputable def FpOk (X:Cx) (pins:List (Addr×Obj)) (H:Hp) (b:Addr):Prop :=
 H b=none∧b≠X.env.locals∧b∉X.fs∧(b∈X.ex∨X.s₀.heap.objs.size≤b)∧(∀ x c,X.env.cells.lookup x=some c→c≠b)∧∀ p∈X.pn++pins,p.1≠b
theorem Inv.fpOk {X:Cx} {pins:List (Addr×Obj)} {σ:St} {H H':Hp} {s:Shared} {b:Addr} (I:Inv X pins σ H s) (hb:s.heap.objs.size≤b) (hn:H' b=none):FpOk X pins H' b:=by
 refine⟨hn,Nat.ne_of_gt (Nat.lt_of_lt_of_le I.lt hb),I.nofs hb,.inr (Nat.le_trans I.sz hb),fun x c e z=>?_,fun p hp z=>?_⟩
 ·obtain ⟨v,q⟩:=I.cell x c e
  exact absurd (Nat.lt_of_lt_of_le q.lt (by rw [z];exact hb)) (Nat.lt_irrefl _)
 ·exact absurd (Nat.lt_of_lt_of_le (Heap.lt_size (I.pin p hp).1) (by rw [z];exact hb)) (Nat.lt_irrefl _)
structure Turn (P:Program) (w:World) (K:PySem.W.Frag) (tg:Expr) (J:It) (fp:List Addr) (it:Addr) (tn:Nat→Heap→Prop):Prop where
 mem:it∈fp
 obj:∀ i h,tn i h→∀ b∈fp,∃ o,h.get? b=some o∧∀ v,o.data≠.cell v
 keep:∀ i h h',tn i h→(∀ b∈fp,∀ o,h.get? b=some o→h'.get? b=some o)→tn i h'
 item:∀ (X:Cx),X.prog=P→X.w=w→X.K=K→X.calm=true→∀ (i:Nat) (pins:List (Addr×Obj)) (s:Shared) (σ:St) (H:Hp) (E:Value→Shared→Prop),Inv X pins σ H s→(∀ b∈fp,FpOk X pins H b)→tn i s.heap→J.go i H →
  wpAny (model P w) X.A (pyNext (.ref it)) (fun r s1=>∃ u,r=some u ∧
   wpAny (model P w) X.A (letOwnedTupleGo tg (.ref it) u) (fun _ s2=>∃ x H',Inv X pins σ H' s2∧RelV x u∧J.yld i H x H'∧tn (i+1) s2.heap∧∀ b∈fp,H' b=none) E s1) E s
 done:∀ (X:Cx),X.prog=P→X.w=w→X.K=K→X.calm=true→∀ (i:Nat) (pins:List (Addr×Obj)) (s:Shared) (σ:St) (H:Hp) (E:Value→Shared→Prop),Inv X pins σ H s→(∀ b∈fp,FpOk X pins H b)→tn i s.heap→J.stop i H →
  wpAny (model P w) X.A (pyNext (.ref it)) (fun r s1=>r=none∧Inv X pins σ H s1) E s
 self:∀ (A:Around) (i:Nat) (s:Shared) (Q:Value→Shared→Prop) (E:Value→Shared→Prop),tn i s.heap→Q (.ref it) s→wpAny (model P w) A (pyIter (.ref it)) Q E s
noncomputable abbrev TI:=St→Hp→(It→Hp→Prop)→Prop
noncomputable def PIE (X:Cx) (pins:List (Addr×Obj)) (σ:St) (tg:Expr) (R:It→Hp→Prop) (itv:Value) (s2:Shared):Prop :=
 ∃ (it:Addr) (fp:List Addr) (tn:Nat→Heap→Prop) (J:It) (H':Hp),itv=.ref it∧Inv X pins σ H' s2∧Turn X.prog X.w X.K tg J fp it tn∧tn 0 s2.heap∧(∀ b∈fp,FpOk X pins H' b)∧R J H'
noncomputable def PI (X:Cx) (tg iter:Expr) (wi:TI):Prop :=
 ∀ (pins:List (Addr×Obj)) (s:Shared) (σ:St) (H:Hp) (R:It→Hp→Prop),Inv X pins σ H s→wi σ H R →
  wpAny (model X.prog X.w) X.A (eval iter X.env) (fun v s1=>wpAny (model X.prog X.w) X.A (pyIter v) (PIE X pins σ tg R) X.xe s1) X.xe s
theorem go_of {M : Model} {A : Around} {E : Value → Shared → Prop} {s : Shared} {tg : Expr} {it : Addr} {u : Value} {o : Obj} {n : String} {vs : Array Value} {Q : Unit → Shared → Prop} (ho : s.heap.get? it=some o) (hc : o.cls=.type n) (hd : o.data=.fields vs)
    (hn : ["enumerate", "zip", "dict_itemiterator", "dict_reverseitemiterator", "odict_iterator", "itertools.zip_longest", "itertools.pairwise"].contains n=false) (hQ : Q () s) : wpAny M A (letOwnedTupleGo tg (.ref it) u) Q E s := by
  unfold letOwnedTupleGo
  cases tg <;> first
    | exact wpAny_pure hQ
    | (cases u <;> first
        | exact wpAny_pure hQ
        | (refine wpAny_bind (wpAny_load ho ?_)
           rw [hc, hd]
           show wpAny M A (if (["enumerate", "zip", "dict_itemiterator", "dict_reverseitemiterator", "odict_iterator", "itertools.zip_longest", "itertools.pairwise"].contains n && vs[0]? == some (rawInt _))=true then _ else _) Q E s
           rw [if_neg (by intro h;rw [hn, Bool.false_and] at h;cases h)]
           exact wpAny_pure hQ))
noncomputable def Itl (K:PySem.W.Frag) (a:Addr):It :=
 ⟨fun i H=>∃ xs x,SqL K H a xs∧xs[i]?=some x,fun i H x H'=>H'=H∧∀ xs,SqL K H a xs→xs[i]?=some x,fun i H=>∃ xs,SqL K H a xs∧xs.length≤i⟩
noncomputable def Itt (K:PySem.W.Frag) (a:Addr):It :=
 ⟨fun i H=>∃ xs x,SqT K H a xs∧xs[i]?=some x,fun i H x H'=>H'=H∧∀ xs,SqT K H a xs→xs[i]?=some x,fun i H=>∃ xs,SqT K H a xs∧xs.length≤i⟩
noncomputable def Itr (lo:Int) (n:Nat):It:=⟨fun i _=>i<n,fun i H x H'=>H'=H∧x=.int (lo+i),fun i _=>n≤i⟩
theorem turn_list {P:Program} {w:World} {K:PySem.W.Frag} {tg:Expr} (a it:Addr):Turn P w K tg (Itl K a) [it] it (fun i h=>h.IsListIter it a i) where
 mem:=by simp
 obj:=fun i h st b hb=>by
  have e:b=it:=by simpa using hb
  subst e
  obtain ⟨o,e,c,d⟩:=st
  exact⟨o,e,fun v z=>by rw [d] at z;cases z⟩
 keep:=fun i h h' st k=>st.at fun o e=>k it (by simp) o e
 item:=by
  intro X hP hw hK hc i pins s σ H E I hf st hg
  subst hP hw hK
  obtain ⟨xs,x,hq,hx⟩:=hg
  obtain ⟨its,rv,p,hz⟩:=I.list hq
  obtain ⟨u,hu,ru⟩:=rv.get hx
  obtain ⟨f0,f1,f2,f3,f4,f5⟩:=hf it (by simp)
  refine wpAny_pyNext_list_item st p.isList (x:=u) (by simpa using hu) fun h' st' sb=>?_
  have I1:Inv X pins σ H { s with heap:=h' }:=I.turned (t':=s.toks) (fun b o hb e=>(sb.2 b hb).trans e) f0 f1 f3 f4 f5
  obtain ⟨o,e,c,d⟩:=id st'
  exact⟨u,rfl,go_of (s:={ s with heap:=h' }) e c d (by decide) ⟨x,H,I1,ru,⟨rfl,fun ys hy=>by rw [I.list_inj hy hq];exact hx⟩,st',fun b hb=>(hf b hb).1⟩⟩
 done:=by
  intro X hP hw hK hc i pins s σ H E I hf st hg
  subst hP hw hK
  obtain ⟨xs,hq,hx⟩:=hg
  obtain ⟨its,rv,p,hz⟩:=I.list hq
  obtain ⟨f0,f1,f2,f3,f4,f5⟩:=hf it (by simp)
  have hl:=rv.length
  exact wpAny_pyNext_list_end (I.ok.hd hc) st p.isList (by simp;lia) fun h' eb=>⟨rfl,I.turned (t':=s.toks) (fun b o hb e=>eb b o hb e) f0 f1 f3 f4 f5⟩
 self:=fun _ _ _ _ _ st h=>wpAny_pyIter_listiter st h
theorem turn_tuple {P:Program} {w:World} {K:PySem.W.Frag} {tg:Expr} (a it:Addr):Turn P w K tg (Itt K a) [it] it (fun i h=>h.IsTupleIter it a i) where
 mem:=by simp
 obj:=fun i h st b hb=>by
  have e:b=it:=by simpa using hb
  subst e
  obtain ⟨o,e,c,d⟩:=st
  exact⟨o,e,fun v z=>by rw [d] at z;cases z⟩
 keep:=fun i h h' st k=>st.at fun o e=>k it (by simp) o e
 item:=by
  intro X hP hw hK hc i pins s σ H E I hf st hg
  subst hP hw hK
  obtain ⟨xs,x,hq,hx⟩:=hg
  obtain ⟨its,rv,p,hz⟩:=I.tuple hq
  obtain ⟨u,hu,ru⟩:=rv.get hx
  obtain ⟨f0,f1,f2,f3,f4,f5⟩:=hf it (by simp)
  refine wpAny_pyNext_tuple_item st (show s.heap.IsTuple a its.toArray from p) (x:=u) (by simpa using hu) fun h' st' sb=>?_
  have I1:Inv X pins σ H { s with heap:=h' }:=I.turned (t':=s.toks) (fun b o hb e=>(sb.2 b hb).trans e) f0 f1 f3 f4 f5
  obtain ⟨o,e,c,d⟩:=id st'
  exact⟨u,rfl,go_of (s:={ s with heap:=h' }) e c d (by decide) ⟨x,H,I1,ru,⟨rfl,fun ys hy=>by rw [I.tuple_inj hy hq];exact hx⟩,st',fun b hb=>(hf b hb).1⟩⟩
 done:=by
  intro X hP hw hK hc i pins s σ H E I hf st hg
  subst hP hw hK
  obtain ⟨xs,hq,hx⟩:=hg
  obtain ⟨its,rv,p,hz⟩:=I.tuple hq
  obtain ⟨f0,f1,f2,f3,f4,f5⟩:=hf it (by simp)
  have hl:=rv.length
  exact wpAny_pyNext_tuple_end (I.ok.hd hc) st (show s.heap.IsTuple a its.toArray from p) (by simp;lia) fun h' eb=>⟨rfl,I.turned (t':=s.toks) (fun b o hb e=>eb b o hb e) f0 f1 f3 f4 f5⟩
 self:=fun _ _ _ _ _ st h=>wpAny_pyIter_tupleiter st h
theorem turn_range {P:Program} {w:World} {K:PySem.W.Frag} {tg:Expr} (it:Addr) (lo:Int) (n:Nat):Turn P w K tg (Itr lo n) [it] it (fun i h=>IsRangeIter h it (lo+(i:Nat)*1) ((n:Int) - (i:Nat)) 1) where
 mem:=by simp
 obj:=fun i h st b hb=>by
  have e:b=it:=by simpa using hb
  subst e
  exact⟨_,st,fun v z=>by
   have z':Data.fields _=Data.cell v:=z
   cases z'⟩
 keep:=fun i h h' st k=>k it (by simp) _ st
 item:=by
  intro X hP hw hK hc i pins s σ H E I hf st hg
  subst hP hw hK
  obtain ⟨f0,f1,f2,f3,f4,f5⟩:=hf it (by simp)
  have W:=Walks.range (prog:=X.prog) (w:=X.w) (I.ok.hd hc) it lo 1 n
  refine W.item i s _ _ hg st fun v h' tk hv st' kk=>?_
  obtain ⟨t,rfl⟩:=hv
  have I1:Inv X pins σ H { s with heap:=h',toks:=tk }:=I.turned (fun b o hb e=>kk b o (by simpa using hb) e) f0 f1 f3 f4 f5
  refine⟨_,rfl,go_of (s:={ s with heap:=h',toks:=tk }) (n:="range_iterator") st' rfl rfl (by decide) ⟨.int (lo+i),H,I1,⟨t,?_⟩,⟨rfl,rfl⟩,st',fun b hb=>(hf b hb).1⟩⟩
  rw [Int.mul_one]
 done:=by
  intro X hP hw hK hc i pins s σ H E I hf st hg
  subst hP hw hK
  obtain ⟨f0,f1,f2,f3,f4,f5⟩:=hf it (by simp)
  exact wpAny_pyNext_range_end (I.ok.hd hc) st (by have:n≤i:=hg;lia) fun h' eb=>⟨rfl,I.turned (t':=s.toks) (fun b o hb e=>eb b o hb e) f0 f1 f3 f4 f5⟩
 self:=fun _ _ _ _ _ st h=>wpAny_pyIter_rangeiter st h
end L2
namespace L2
open PySem PySem.Spec PyProof.Rows
section
variable {X:Cx} {tg:Expr}
noncomputable def iList (K:PySem.W.Frag) (tl:TE):TI:=fun σ H R=>tl σ H fun x H1=>∃ a,x=.ref a∧(∃ xs,SqL K H1 a xs)∧R (Itl K a) H1
noncomputable def iTup (K:PySem.W.Frag) (tl:TE):TI:=fun σ H R=>tl σ H fun x H1=>∃ a,x=.ref a∧(∃ xs,SqT K H1 a xs)∧R (Itt K a) H1
theorem pi_list {l:Expr} {tl:TE} (hl:PE X l tl):PI X tg l (iList X.K tl):=by
 intro pins s σ H R I h
 refine thn (hl pins s σ H _ I h) fun v s1 ⟨x,H1,I1,r1,q1⟩=>?_
 obtain ⟨a,e,⟨xs,hq⟩,q⟩:=q1
 subst e
 cases r1
 obtain ⟨its,rv,p,hz⟩:=I1.list hq
 refine wpAny_pyIter_list p.isList ?_
 refine⟨s1.heap.objs.size,[s1.heap.objs.size],_,_,H1,rfl,I1.kept (t':=s1.toks) fun b o e=>Heap.get?_push_of_some _ e,turn_list a _,⟨_,Heap.get?_push_size _ rfl,rfl,rfl⟩,fun b hb=>?_,q⟩
 have e:b=s1.heap.objs.size:=by simpa using hb
 subst e
 exact I1.fpOk (Nat.le_refl _) (I1.hok.fresh (Nat.le_refl _))
theorem pi_tup {l:Expr} {tl:TE} (hl:PE X l tl):PI X tg l (iTup X.K tl):=by
 intro pins s σ H R I h
 refine thn (hl pins s σ H _ I h) fun v s1 ⟨x,H1,I1,r1,q1⟩=>?_
 obtain ⟨a,e,⟨xs,hq⟩,q⟩:=q1
 subst e
 cases r1
 obtain ⟨its,rv,p,hz⟩:=I1.tuple hq
 refine wpAny_pyIter_tuple (show s1.heap.IsTuple a its.toArray from p) ?_
 refine⟨s1.heap.objs.size,[s1.heap.objs.size],_,_,H1,rfl,I1.kept (t':=s1.toks) fun b o e=>Heap.get?_push_of_some _ e,turn_tuple a _,⟨_,Heap.get?_push_size _ rfl,rfl,rfl⟩,fun b hb=>?_,q⟩
 have e:b=s1.heap.objs.size:=by simpa using hb
 subst e
 exact I1.fpOk (Nat.le_refl _) (I1.hok.fresh (Nat.le_refl _))
theorem range_it {pins:List (Addr×Obj)} {σ:St} {H:Hp} {s:Shared} {R:It→Hp→Prop} {E:Value→Shared→Prop} {lo hi:Int} {t u v:Tok} {tk:Nat} (I:Inv X pins σ H s) (h1:-(2 ^ 62)≤lo) (h2:lo<2 ^ 62) (h3:-(2 ^ 62)≤hi) (h4:hi<2 ^ 62)
  (q:R (Itr lo (hi - lo).toNat) H):wpAny (model X.prog X.w) X.A (pyIter (.ref s.heap.objs.size)) (PIE X pins σ tg R) E { s with heap:=s.heap.push { cls:=.type "range",data:=.fields #[.int lo t,.int hi u,.int 1 v] },toks:=tk }:=by
 refine wpAny_pyIter_range (IsRange.new ..) (small_one h1 h2 h3 h4) ?_
 have I1:Inv X pins σ H { s with heap:=s.heap.push { cls:=.type "range",data:=.fields #[.int lo t,.int hi u,.int 1 v] },toks:=tk }:=I.kept fun b o e=>Heap.get?_push_of_some _ e
 refine⟨(s.heap.push { cls:=.type "range",data:=.fields #[.int lo t,.int hi u,.int 1 v] }).objs.size,[(s.heap.push { cls:=.type "range",data:=.fields #[.int lo t,.int hi u,.int 1 v] }).objs.size],_,_,H,rfl,
  I1.kept (t':=tk) fun b o e=>Heap.get?_push_of_some _ e,turn_range _ lo (hi - lo).toNat,?_,fun b hb=>?_,q⟩
 ·have e1:lo+((0:Nat):Int)*1=lo:=by simp
  have e2:(((hi - lo).toNat:Nat):Int) - ((0:Nat):Int)=Builtin.Range.rangeSize lo hi 1:=by rw [rangeSize_one];split <;> lia
  show IsRangeIter _ _ (lo+((0:Nat):Int)*1) ((((hi - lo).toNat:Nat):Int) - ((0:Nat):Int)) 1
  rw [e1,e2]
  exact Heap.get?_push_size _ rfl
 ·have e:b=(s.heap.push { cls:=.type "range",data:=.fields #[.int lo t,.int hi u,.int 1 v] }).objs.size:=by simpa using hb
  subst e
  exact I1.fpOk (Nat.le_refl _) (I1.hok.fresh (Nat.le_refl _))
noncomputable def iRng1 (ta:TA):TI:=fun σ H R=>ta σ H fun vs H1=>∃ j:Int,vs=[.int j]∧-(2 ^ 62)≤j∧j<2 ^ 62∧R (Itr 0 j.toNat) H1
theorem pi_range1 {a:Expr} {ta:TA} {p pos:Pos} (hg:Gl X "range") (hm:X.mg "range"=none) (ha:PA X [a] ta) (hs:starEach [a] X.env=[(false,eval a X.env)]:=by rfl):PI X tg (.Call (.Name "range" p) [a] [] pos) (iRng1 ta):=by
 intro pins s σ H R I h
 refine Call_ (ld_blt I hg hm boot_range (PyProof.Rows.callWith_type1 (thn (ha pos pins s σ H _ I h) fun us s1 ⟨vs,H1,I1,r1,q1⟩=>?_) hs rfl))
 obtain ⟨j,e,q1,q2,q⟩:=q1
 subst e
 cases r1 with
 | cons r rr =>
  cases rr
  obtain ⟨t,rfl⟩:=r
  exact call_range_1 (range_it I1 (by lia) (by lia) q1 q2 (by simpa using q))
noncomputable def tFor (wi:TI) (g:TG) (tb:TS):TS:=fun D σ H=>wi σ H fun J H1=>∃ W:Nat→Nat→St→Hp→Prop,(∃ m,W 0 m σ H1)∧∀ i m σ H,W i m σ H →
 (J.stop i H∧D.nx σ H)∨(J.go i H∧∃ N:St→Hp→Prop,(∀ σ' H',N σ' H'→∃ m',m'<m∧W (i+1) m' σ' H')∧∀ x H',J.yld i H x H'→g x σ H' fun σ2 H2=>tb { D with nx:=N,ct:=N,bk:=D.nx } σ2 H2)
noncomputable def pinsAt (fp:List Addr) (h:Heap):List (Addr×Obj):=fp.filterMap fun b=>(h.get? b).map fun o=>(b,o)
theorem mem_pinsAt {fp:List Addr} {h:Heap} {b:Addr} {o:Obj} (hb:b∈fp) (e:h.get? b=some o):(b,o)∈pinsAt fp h:=List.mem_filterMap.mpr ⟨b,hb,by rw [e];rfl⟩
theorem of_pinsAt {fp:List Addr} {h:Heap} {p:Addr×Obj} (hp:p∈pinsAt fp h):p.1∈fp∧h.get? p.1=some p.2:=by
 obtain ⟨b,hb,e⟩:=List.mem_filterMap.mp hp
 cases q:h.get? b with
 | none=>rw [q] at e;cases e
 | some o =>
  rw [q] at e
  have e':(b,o)=p:=Option.some.inj e
  subst e'
  exact⟨hb,q⟩
theorem Inv.pinned {pins:List (Addr×Obj)} {σ:St} {H:Hp} {s:Shared} {fp:List Addr} (I:Inv X pins σ H s) (hf:∀ b∈fp,FpOk X pins H b) (ho:∀ b∈fp,∃ o,s.heap.get? b=some o∧∀ v,o.data≠.cell v):Inv X (pins++pinsAt fp s.heap) σ H s :=
 I.pins_of fun p hp=>(List.mem_append.mp hp).elim (fun z=>I.pin p (List.mem_append_right _ z)) fun z=>by
  obtain ⟨hb,e⟩:=of_pinsAt z
  obtain ⟨f0,f1,f2,_⟩:=hf p.1 hb
  obtain ⟨o,e',d⟩:=ho p.1 hb
  rw [e] at e';cases e'
  exact⟨e,f0,f1,f2,d⟩
theorem Inv.unpinned {pins pl:List (Addr×Obj)} {σ:St} {H:Hp} {s:Shared} (I:Inv X (pins++pl) σ H s):Inv X pins σ H s:=I.pins_of fun p hp=>I.pin p (List.mem_append_right _ (List.mem_append_left _ hp))
theorem ps_for {iter:Expr} {body:List Stmt} {wi:TI} {g:TG} {tb:TS} {pos:Pos} (hp:PassesOwn (model X.prog X.w) X.A X.env X.xe) (hc:X.calm=true) (hi:PI X tg iter wi) (hg:PG X tg g) (hb:PSs X body tb)
  (hs:∀ x,foldedSetIterable iter X.env x=pure x:=by intro _;rfl):PS X (.For tg iter body [] pos) (tFor wi g tb):=by
 intro pins s σ H D I h
 refine wpAny_For (thn (hi pins s σ H _ I h) fun v s1 h1=>thn h1 fun itv s2 h2=>?_) hs
 obtain ⟨it,fp,tn,J,H2,e,I2,T,st2,f2,W,⟨m0,w0⟩,turn⟩:=h2
 subst e
 have stat:∀ {H':Hp},(∀ b∈fp,H' b=none)→∀ b∈fp,FpOk X pins H' b:=fun hn b hb=>⟨hn b hb,(f2 b hb).2⟩
 refine codeAny_forLoop_any (fun n s'=>∃ i σ' H',Inv X pins σ' H' s'∧tn i s'.heap∧(∀ b∈fp,H' b=none)∧W i n σ' H') ?_ m0 ⟨0,σ,H2,I2,st2,fun b hb=>(f2 b hb).1,w0⟩
 rintro n s3 ⟨i,σ3,H3,I3,st3,fr3,w3⟩
 rcases turn i n σ3 H3 w3 with ⟨stop,qn⟩|⟨go,N,hN,step⟩
 ·refine wpAny_passesOwn hp (thn (T.done X rfl rfl rfl hc i pins s3 σ3 H3 X.xe I3 (stat fr3) st3 stop) fun r s4 ⟨hr,I4⟩=>?_)
  subst hr
  exact wpAny_execs_nil ⟨σ3,H3,I4,qn⟩
 ·refine wpAny_passesOwn hp (thn (T.item X rfl rfl rfl hc i pins s3 σ3 H3 X.xe I3 (stat fr3) st3 go) fun r s4 ⟨u,hr,h4⟩=>?_)
  subst hr
  refine wpAny_passesOwn hp (thn h4 fun _ s5 ⟨x,H5,I5,r5,y5,st5,fr5⟩=>?_)
  have I5':=I5.pinned (stat fr5) (T.obj _ _ st5)
  refine wpAny_passesOwn hp (thn (hg _ s5 σ3 H5 x u _ I5' r5 (step x H5 y5)) fun _ s6 ⟨σ6,H6,I6,q6⟩=>?_)
  refine wpAny_passesOwn hp (thn (hb _ s6 σ6 H6 _ I6 q6) fun f s7 q7=>?_)
  have again:∀ {σ7:St} {H7:Hp},Inv X (pins++pinsAt fp s5.heap) σ7 H7 s7→N σ7 H7→∃ m,m<n∧∃ i σ' H',Inv X pins σ' H' s7∧tn i s7.heap∧(∀ b∈fp,H' b=none)∧W i m σ' H':=fun {σ7 H7} I7 n7=>by
   obtain ⟨m',hm,w7⟩:=hN σ7 H7 n7
   refine⟨m',hm,i+1,σ7,H7,I7.unpinned,T.keep _ _ _ st5 fun b hb o e=>(I7.pin (b,o) (List.mem_append_right _ (List.mem_append_right _ (mem_pinsAt hb e)))).1,fun b hb=>?_,w7⟩
   obtain ⟨o,e,d⟩:=T.obj _ _ st5 b hb
   exact (I7.pin (b,o) (List.mem_append_right _ (List.mem_append_right _ (mem_pinsAt hb e)))).2.1
  cases f with
  | next=>obtain ⟨σ7,H7,I7,n7⟩:=q7;exact again I7 n7
  | cont=>obtain ⟨σ7,H7,I7,n7⟩:=q7;exact again I7 n7
  | brk=>obtain ⟨σ7,H7,I7,q7⟩:=q7;exact⟨σ7,H7,I7.unpinned,q7⟩
  | ret v=>obtain ⟨x7,σ7,H7,I7,r7,q7⟩:=q7;exact⟨x7,σ7,H7,I7.unpinned,r7,q7⟩
end
theorem for_list {K:PySem.W.Frag} {a:Addr} {xs:List V} {g:TG} {tb:TS} {D:Ends} {σ:St} {H:Hp} (Pv:Nat→St→Hp→Prop) (h0:Pv 0 σ H) (hl:∀ i σ H,i≤xs.length→Pv i σ H→SqL K H a xs)
  (hs:∀ i x σ H,xs[i]?=some x→Pv i σ H→g x σ H fun σ2 H2=>tb { D with nx:=Pv (i+1),ct:=Pv (i+1),bk:=D.nx } σ2 H2) (hd:∀ σ H,Pv xs.length σ H→D.nx σ H) :
  ∃ W:Nat→Nat→St→Hp→Prop,(∃ m,W 0 m σ H)∧∀ i m σ H,W i m σ H →
   ((Itl K a).stop i H∧D.nx σ H)∨((Itl K a).go i H∧∃ N:St→Hp→Prop,(∀ σ' H',N σ' H'→∃ m',m'<m∧W (i+1) m' σ' H')∧∀ x H',(Itl K a).yld i H x H'→g x σ H' fun σ2 H2=>tb { D with nx:=N,ct:=N,bk:=D.nx } σ2 H2):=by
 refine⟨fun i m σ H=>m=xs.length - i∧i≤xs.length∧Pv i σ H,⟨xs.length,by simp,Nat.zero_le _,h0⟩,?_⟩
 rintro i m σ H ⟨rfl,hi,p⟩
 have q:=hl i σ H hi p
 by_cases hlt:i<xs.length
 ·refine .inr ⟨⟨xs,xs[i],q,by simp [hlt]⟩,Pv (i+1),fun σ' H' p'=>⟨xs.length - (i+1),by lia,rfl,hlt,p'⟩,fun x H' y=>?_⟩
  obtain ⟨e,y⟩:=y
  subst e
  exact hs i x σ _ (y xs q) p
 ·have e:i=xs.length:=by lia
  subst e
  exact .inl ⟨⟨xs,q,Nat.le_refl _⟩,hd σ H p⟩
theorem for_tup {K:PySem.W.Frag} {a:Addr} {xs:List V} {g:TG} {tb:TS} {D:Ends} {σ:St} {H:Hp} (Pv:Nat→St→Hp→Prop) (h0:Pv 0 σ H) (hl:∀ i σ H,i≤xs.length→Pv i σ H→SqT K H a xs)
  (hs:∀ i x σ H,xs[i]?=some x→Pv i σ H→g x σ H fun σ2 H2=>tb { D with nx:=Pv (i+1),ct:=Pv (i+1),bk:=D.nx } σ2 H2) (hd:∀ σ H,Pv xs.length σ H→D.nx σ H) :
  ∃ W:Nat→Nat→St→Hp→Prop,(∃ m,W 0 m σ H)∧∀ i m σ H,W i m σ H →
   ((Itt K a).stop i H∧D.nx σ H)∨((Itt K a).go i H∧∃ N:St→Hp→Prop,(∀ σ' H',N σ' H'→∃ m',m'<m∧W (i+1) m' σ' H')∧∀ x H',(Itt K a).yld i H x H'→g x σ H' fun σ2 H2=>tb { D with nx:=N,ct:=N,bk:=D.nx } σ2 H2):=by
 refine⟨fun i m σ H=>m=xs.length - i∧i≤xs.length∧Pv i σ H,⟨xs.length,by simp,Nat.zero_le _,h0⟩,?_⟩
 rintro i m σ H ⟨rfl,hi,p⟩
 have q:=hl i σ H hi p
 by_cases hlt:i<xs.length
 ·refine .inr ⟨⟨xs,xs[i],q,by simp [hlt]⟩,Pv (i+1),fun σ' H' p'=>⟨xs.length - (i+1),by lia,rfl,hlt,p'⟩,fun x H' y=>?_⟩
  obtain ⟨e,y⟩:=y
  subst e
  exact hs i x σ _ (y xs q) p
 ·have e:i=xs.length:=by lia
  subst e
  exact .inl ⟨⟨xs,q,Nat.le_refl _⟩,hd σ H p⟩
theorem for_range {lo:Int} {n:Nat} {g:TG} {tb:TS} {D:Ends} {σ:St} {H:Hp} (Pv:Nat→St→Hp→Prop) (h0:Pv 0 σ H)
  (hs:∀ i σ H,i<n→Pv i σ H→g (.int (lo+i)) σ H fun σ2 H2=>tb { D with nx:=Pv (i+1),ct:=Pv (i+1),bk:=D.nx } σ2 H2) (hd:∀ σ H,Pv n σ H→D.nx σ H) :
  ∃ W:Nat→Nat→St→Hp→Prop,(∃ m,W 0 m σ H)∧∀ i m σ H,W i m σ H →
   ((Itr lo n).stop i H∧D.nx σ H)∨((Itr lo n).go i H∧∃ N:St→Hp→Prop,(∀ σ' H',N σ' H'→∃ m',m'<m∧W (i+1) m' σ' H')∧∀ x H',(Itr lo n).yld i H x H'→g x σ H' fun σ2 H2=>tb { D with nx:=N,ct:=N,bk:=D.nx } σ2 H2):=by
 refine⟨fun i m σ H=>m=n - i∧i≤n∧Pv i σ H,⟨n,by simp,Nat.zero_le _,h0⟩,?_⟩
 rintro i m σ H ⟨rfl,hi,p⟩
 by_cases hlt:i<n
 ·refine .inr ⟨hlt,Pv (i+1),fun σ' H' p'=>⟨n - (i+1),by lia,rfl,hlt,p'⟩,fun x H' y=>?_⟩
  obtain ⟨e,y⟩:=y
  subst e y
  exact hs i σ _ hlt p
 ·have e:i=n:=by lia
  subst e
  exact .inl ⟨Nat.le_refl _,hd σ H p⟩
end L2
namespace L2
open PySem PySem.Spec PyProof.Rows
noncomputable abbrev R2:=V→V→Hp→VK→Prop
noncomputable def OpR (X:Cx) (f:Value→Value→Sem Value) (r:R2):Prop :=
 ∀ (pins:List (Addr×Obj)) (s:Shared) (σ:St) (H:Hp) (x y:V) (v u:Value) (Q:VK),Inv X pins σ H s→RelV x v→RelV y u→r x y H Q →
  wpAny (model X.prog X.w) X.A (f v u) (EP X pins σ Q) X.xe s
noncomputable def UnR (X:Cx) (f:Value→Sem Value) (r:V→Hp→VK→Prop):Prop :=
 ∀ (pins:List (Addr×Obj)) (s:Shared) (σ:St) (H:Hp) (x:V) (v:Value) (Q:VK),Inv X pins σ H s→RelV x v→r x H Q →
  wpAny (model X.prog X.w) X.A (f v) (EP X pins σ Q) X.xe s
noncomputable def CallR (X:Cx) (f:Value) (r:List V→Hp→VK→Prop):Prop :=
 ∀ (pins:List (Addr×Obj)) (s:Shared) (σ:St) (H:Hp) (xs:List V) (us:List Value) (Q:VK),Inv X pins σ H s→Vals xs us→r xs H Q →
  wpAny (model X.prog X.w) X.A (call f us) (EP X pins σ Q) X.xe s
noncomputable def tOp (r:R2) (ta tb:TE):TE:=fun σ H Q=>ta σ H fun x H1=>tb σ H1 fun y H2=>r x y H2 Q
noncomputable def tUn (r:V→Hp→VK→Prop) (ta:TE):TE:=fun σ H Q=>ta σ H fun x H1=>r x H1 Q
noncomputable def rI (C:Int→Int→Prop) (g:Int→Int→V):R2:=fun x y H Q=>∃ i j,x=.int i∧y=.int j∧C i j∧Q (g i j) H
noncomputable def rI0 (g:Int→Int→V):R2:=fun x y H Q=>∃ i j,x=.int i∧y=.int j∧Q (g i j) H
noncomputable def rU (g:Int→V):V→Hp→VK→Prop:=fun x H Q=>∃ i,x=.int i∧Q (g i) H
section
variable {X:Cx} {a b c:Expr} {ta tb tc:TE} {pos:Pos}
theorem binT (ha:PE X a ta) (hb:PE X b tb) {pins:List (Addr×Obj)} {s:Shared} {σ:St} {H:Hp} {R:V→V→Hp→Prop} (I:Inv X pins σ H s)
  (h:ta σ H fun x H1=>tb σ H1 fun y H2=>R x y H2) {Q:Value→Shared→Prop} {f:Value→Value→Sem Value}
  (hf:∀ v u s2 x y H2,Inv X pins σ H2 s2→RelV x v→RelV y u→R x y H2→wpAny (model X.prog X.w) X.A (f v u) Q X.xe s2) :
  wpAny (model X.prog X.w) X.A (eval a X.env) (fun v s₁=>wpAny (model X.prog X.w) X.A (eval b X.env) (fun u s₂=>wpAny (model X.prog X.w) X.A (f v u) Q X.xe s₂) X.xe s₁) X.xe s:=by
 refine thn (ha pins s σ H _ I h) fun v s1 ⟨x,H1,I1,r1,q1⟩=>?_
 refine thn (hb pins s1 σ H1 _ I1 q1) fun u s2 ⟨y,H2,I2,r2,q2⟩=>?_
 exact hf v u s2 x y H2 I2 r1 r2 q2
theorem pe_op {op:Operator} {r:R2} (ho:OpR X (binaryOp op) r) (ha:PE X a ta) (hb:PE X b tb):PE X (.BinOp a op b pos) (tOp r ta tb):=by
 intro pins s σ H Q I h
 exact wpAny_BinOp (binT ha hb I h fun v u s2 x y H2 I2 rx ry q=>ho pins s2 σ H2 x y v u Q I2 rx ry q)
theorem pe_un {op:UnaryOp} {r:V→Hp→VK→Prop} (ho:UnR X (unaryOp op) r) (ha:PE X a ta):PE X (.UnaryOp op a pos) (tUn r ta):=by
 intro pins s σ H Q I h
 exact UnaryOp_ (thn (ha pins s σ H _ I h) fun v s1 ⟨x,H1,I1,r1,q1⟩=>ho pins s1 σ H1 x v Q I1 r1 q1)
theorem opI {f:Value→Value→Sem Value} {C:Int→Int→Prop} {g:Int→Int→Int}
  (rule:∀ (i j:Int) (t u:Tok) (s:Shared) (Q:Value→Shared→Prop) (E:Value→Shared→Prop),C i j→Q (.int (g i j) s.toks) { s with toks:=s.toks+1 }→wpAny (model X.prog X.w) X.A (f (.int i t) (.int j u)) Q E s) :
  OpR X f (rI C fun i j=>.int (g i j)):=by
 intro pins s σ H x y v u Q I rx ry h
 obtain ⟨i,j,rfl,rfl,hc,q⟩:=h
 obtain ⟨t,rfl⟩:=rx
 obtain ⟨t',rfl⟩:=ry
 exact rule i j t t' s _ _ hc ⟨.int (g i j),H,I.tok _,⟨_,rfl⟩,q⟩
theorem opI0 {f:Value→Value→Sem Value} {g:Int→Int→Int}
  (rule:∀ (i j:Int) (t u:Tok) (s:Shared) (Q:Value→Shared→Prop) (E:Value→Shared→Prop),Q (.int (g i j) s.toks) { s with toks:=s.toks+1 }→wpAny (model X.prog X.w) X.A (f (.int i t) (.int j u)) Q E s) :
  OpR X f (rI0 fun i j=>.int (g i j)):=by
 intro pins s σ H x y v u Q I rx ry h
 obtain ⟨i,j,rfl,rfl,q⟩:=h
 obtain ⟨t,rfl⟩:=rx
 obtain ⟨t',rfl⟩:=ry
 exact rule i j t t' s _ _ ⟨.int (g i j),H,I.tok _,⟨_,rfl⟩,q⟩
theorem opB0 {f:Value→Value→Sem Value} {g:Int→Int→Bool}
  (rule:∀ (i j:Int) (t u:Tok) (s:Shared) (Q:Value→Shared→Prop) (E:Value→Shared→Prop),Q (.bool (g i j)) s→wpAny (model X.prog X.w) X.A (f (.int i t) (.int j u)) Q E s) :
  OpR X f (rI0 fun i j=>.bl (g i j)):=by
 intro pins s σ H x y v u Q I rx ry h
 obtain ⟨i,j,rfl,rfl,q⟩:=h
 obtain ⟨t,rfl⟩:=rx
 obtain ⟨t',rfl⟩:=ry
 exact rule i j t t' s _ _ ⟨.bl (g i j),H,I,rfl,q⟩
noncomputable def CDiv (i j:Int):Prop:=0<j∧j<1073741824
noncomputable def CMul (i j:Int):Prop:=(-(2 ^ 64)<i∧i<2 ^ 64)∨(-(2 ^ 64)<j∧j<2 ^ 64)
theorem CMul.ok {i j:Int} (h:CMul i j):IntMulOk i j:=by
 rcases h with ⟨h1,h2⟩|⟨h1,h2⟩
 ·exact .of_left (intBits_le_64 h1 h2)
 ·exact .of_right (intBits_le_64 h1 h2)
theorem op_add:OpR X (binaryOp .Add) (rI0 fun i j=>.int (i+j)):=opI0 fun _ _ _ _ _ _ _ q=>add_int q
theorem op_sub:OpR X (binaryOp .Sub) (rI0 fun i j=>.int (i - j)):=opI0 fun _ _ _ _ _ _ _ q=>sub_int q
theorem op_mul:OpR X (binaryOp .Mult) (rI CMul fun i j=>.int (i*j)):=opI fun _ _ _ _ _ _ _ hc q=>mul_int q hc.ok
theorem op_fdiv:OpR X (binaryOp .FloorDiv) (rI CDiv fun i j=>.int (i / j)):=opI fun i j _ _ _ _ _ hc q=>by
 have h1:(0:Int)<j:=hc.1
 have h2:j<1073741824:=hc.2
 exact floordiv_int (by lia) (by rw [Int.fdiv_eq_ediv_of_nonneg i (by lia)];exact q) (.inl (PyProof.noPylong_small (by lia)))
theorem op_mod:OpR X (binaryOp .Mod) (rI (fun _ j=>0<j) fun i j=>.int (i % j)):=opI fun i j _ _ _ _ _ hc q=>by
 have h1:(0:Int)<j:=hc
 exact mod_int' (by lia) (by rw [Int.fmod_eq_emod_of_nonneg i (by lia)];exact q)
theorem unI {f:Value→Sem Value} {g:Int→Int}
  (rule:∀ (i:Int) (t:Tok) (s:Shared) (Q:Value→Shared→Prop) (E:Value→Shared→Prop),Q (.int (g i) s.toks) { s with toks:=s.toks+1 }→wpAny (model X.prog X.w) X.A (f (.int i t)) Q E s) :
  UnR X f (rU fun i=>.int (g i)):=by
 intro pins s σ H x v Q I rx h
 obtain ⟨i,rfl,q⟩:=h
 obtain ⟨t,rfl⟩:=rx
 exact rule i t s _ _ ⟨.int (g i),H,I.tok _,⟨_,rfl⟩,q⟩
theorem un_neg:UnR X (unaryOp .USub) (rU fun i=>.int (-i)):=unI fun _ _ _ _ _ q=>neg_int q
end
noncomputable def scal:V→V→Bool
 | .non,.non=>true|.non,.int _=>true|.int _,.non=>true|.non,.bl _=>true|.bl _,.non=>true|.non,.str _=>true|.str _,.non=>true
 | .int _,.int _=>true|.bl _,.bl _=>true|.str _,.str _=>true|.byt _,.byt _=>true
 | .int _,.str _=>true|.str _,.int _=>true|.bl _,.str _=>true|.str _,.bl _=>true
 | _,_=>false
noncomputable def rEq:R2:=fun x y H Q=>scal x y=true∧Q (.bl (decide (x=y))) H
noncomputable def rNe:R2:=fun x y H Q=>scal x y=true∧Q (.bl (!decide (x=y))) H
theorem dec_int {i j:Int}:decide (V.int i=V.int j)=(i == j):=by
 rw [Bool.eq_iff_iff]
 simp
theorem dec_bl {i j:Bool}:decide (V.bl i=V.bl j)=(i == j):=by
 rw [Bool.eq_iff_iff]
 simp
theorem dec_str {i j:Str}:decide (V.str i=V.str j)=(i == j):=by
 rw [Bool.eq_iff_iff]
 simp
theorem dec_byt {i j:Array UInt8}:decide (V.byt i=V.byt j)=(i.toList == j.toList):=by
 rw [Bool.eq_iff_iff]
 cases i
 cases j
 simp
section
variable {X:Cx} {a b c:Expr} {ta tb tc:TE} {pos:Pos}
theorem fin_bl {pins:List (Addr×Obj)} {σ:St} {H:Hp} {s:Shared} {Q:VK} {k k':Bool} (I:Inv X pins σ H s) (q:Q (.bl k) H) (e:k=k'):EP X pins σ Q (.bool k') s:=by
 subst e
 exact⟨.bl k,H,I,rfl,q⟩
theorem op_eq:OpR X (compareOp .Eq) rEq:=by
 intro pins s σ H x y v u Q I rx ry h
 obtain ⟨hs,q⟩:=h
 cases x with
 | non =>
  cases rx
  cases y with
  | non=>cases ry;exact PySem.EqNone.eq_none_none (fin_bl I q (by simp))
  | bl j=>cases ry;exact PySem.EqNone.eq_none_bool (fin_bl I q (by simp))
  | int j=>obtain ⟨t',rfl⟩:=ry;exact PySem.EqNone.eq_none_int (fin_bl I q (by simp))
  | str j=>obtain ⟨t',rfl⟩:=ry;exact PySem.EqNone.eq_none_str (fin_bl I q (by simp))
  | _=>exact absurd (show false=true from hs) Bool.false_ne_true
 | bl i =>
  cases rx
  cases y with
  | non=>cases ry;exact PySem.EqNone.eq_bool_none (fin_bl I q (by simp))
  | bl j=>cases ry;exact eq_bool (fin_bl I q dec_bl)
  | str j=>obtain ⟨t',rfl⟩:=ry;exact PySem.EqMixed.eq_bool_str (fin_bl I q (by simp))
  | _=>exact absurd (show false=true from hs) Bool.false_ne_true
 | int i =>
  obtain ⟨t,rfl⟩:=rx
  cases y with
  | non=>cases ry;exact PySem.EqNone.eq_int_none (fin_bl I q (by simp))
  | int j=>obtain ⟨t',rfl⟩:=ry;exact eq_int (fin_bl I q dec_int)
  | str j=>obtain ⟨t',rfl⟩:=ry;exact PySem.EqMixed.eq_int_str (fin_bl I q (by simp))
  | _=>exact absurd (show false=true from hs) Bool.false_ne_true
 | str i =>
  obtain ⟨t,rfl⟩:=rx
  cases y with
  | non=>cases ry;exact PySem.EqNone.eq_str_none (fin_bl I q (by simp))
  | bl j=>cases ry;exact PySem.EqMixed.eq_str_bool (fin_bl I q (by simp))
  | int j=>obtain ⟨t',rfl⟩:=ry;exact PySem.EqMixed.eq_str_int (fin_bl I q (by simp))
  | str j=>obtain ⟨t',rfl⟩:=ry;exact eq_str (fin_bl I q dec_str)
  | _=>exact absurd (show false=true from hs) Bool.false_ne_true
 | byt i =>
  obtain ⟨t,rfl⟩:=rx
  cases y with
  | byt j=>obtain ⟨t',rfl⟩:=ry;exact PySem.W.eq_bytes (fin_bl I q dec_byt)
  | _=>exact absurd (show false=true from hs) Bool.false_ne_true
 | _=>cases y <;> exact absurd (show false=true from hs) Bool.false_ne_true
theorem op_ne:OpR X (compareOp .NotEq) rNe:=by
 intro pins s σ H x y v u Q I rx ry h
 obtain ⟨hs,q⟩:=h
 cases x with
 | non =>
  cases rx
  cases y with
  | non=>cases ry;exact PySem.EqNone.ne_none_none (fin_bl I q (by simp))
  | bl j=>cases ry;exact PySem.EqNone.ne_none_bool (fin_bl I q (by simp))
  | int j=>obtain ⟨t',rfl⟩:=ry;exact PySem.EqNone.ne_none_int (fin_bl I q (by simp))
  | str j=>obtain ⟨t',rfl⟩:=ry;exact PySem.EqNone.ne_none_str (fin_bl I q (by simp))
  | _=>exact absurd (show false=true from hs) Bool.false_ne_true
 | bl i =>
  cases rx
  cases y with
  | non=>cases ry;exact PySem.EqNone.ne_bool_none (fin_bl I q (by simp))
  | bl j=>cases ry;exact ne_bool (fin_bl I q (congrArg not dec_bl))
  | str j=>obtain ⟨t',rfl⟩:=ry;exact PySem.EqMixed.ne_bool_str (fin_bl I q (by simp))
  | _=>exact absurd (show false=true from hs) Bool.false_ne_true
 | int i =>
  obtain ⟨t,rfl⟩:=rx
  cases y with
  | non=>cases ry;exact PySem.EqNone.ne_int_none (fin_bl I q (by simp))
  | int j=>obtain ⟨t',rfl⟩:=ry;exact ne_int (fin_bl I q (congrArg not dec_int))
  | str j=>obtain ⟨t',rfl⟩:=ry;exact PySem.EqMixed.ne_int_str (fin_bl I q (by simp))
  | _=>exact absurd (show false=true from hs) Bool.false_ne_true
 | str i =>
  obtain ⟨t,rfl⟩:=rx
  cases y with
  | non=>cases ry;exact PySem.EqNone.ne_str_none (fin_bl I q (by simp))
  | bl j=>cases ry;exact PySem.EqMixed.ne_str_bool (fin_bl I q (by simp))
  | int j=>obtain ⟨t',rfl⟩:=ry;exact PySem.EqMixed.ne_str_int (fin_bl I q (by simp))
  | str j=>obtain ⟨t',rfl⟩:=ry;exact ne_str (fin_bl I q (congrArg not dec_str))
  | _=>exact absurd (show false=true from hs) Bool.false_ne_true
 | byt i =>
  obtain ⟨t,rfl⟩:=rx
  cases y with
  | byt j=>obtain ⟨t',rfl⟩:=ry;exact PySem.W.ne_bytes (fin_bl I q (congrArg not dec_byt))
  | _=>exact absurd (show false=true from hs) Bool.false_ne_true
 | _=>cases y <;> exact absurd (show false=true from hs) Bool.false_ne_true
theorem op_lt:OpR X (compareOp .Lt) (rI0 fun i j=>.bl (decide (i<j))):=opB0 fun _ _ _ _ _ _ _ q=>lt_int q
theorem op_le:OpR X (compareOp .LtE) (rI0 fun i j=>.bl (decide (i≤j))):=opB0 fun _ _ _ _ _ _ _ q=>le_int q
theorem op_gt:OpR X (compareOp .Gt) (rI0 fun i j=>.bl (decide (j<i))):=opB0 fun _ _ _ _ _ _ _ q=>gt_int q
theorem op_ge:OpR X (compareOp .GtE) (rI0 fun i j=>.bl (decide (j≤i))):=opB0 fun _ _ _ _ _ _ _ q=>ge_int q
theorem op_in_str:OpR X (compareOp .In) (fun x y H Q=>∃ i j,x=.str i∧y=.str j∧Q (.bl (!(Builtin.Str.occurrences j i 0 j.length 1).isEmpty)) H):=by
 intro pins s σ H x y v u Q I rx ry h
 obtain ⟨i,j,rfl,rfl,q⟩:=h
 obtain ⟨t,rfl⟩:=rx
 obtain ⟨t',rfl⟩:=ry
 exact in_str (fin_bl I q rfl)
theorem op_notN:OpR X (compareOp .IsNot) (fun x y H Q=>y=.non∧Q (.bl (!decide (x=.non))) H):=by
 intro pins s σ H x y v u Q I rx ry h
 obtain ⟨rfl,q⟩:=h
 cases ry
 refine isnot_none_gen (fin_bl I q ?_)
 cases x <;> first
  | (cases rx;rfl)
  | (obtain ⟨t,rfl⟩:=rx;rfl)
theorem nomark (b:Expr) {op:CmpOp} (h:op≠.In:=by decide) (h2:op≠.NotIn:=by decide):behindInMarks op b=false:=by
 have e1:(op == CmpOp.In)=false:=by cases op <;> first|rfl|exact absurd rfl h
 have e2:(op == CmpOp.NotIn)=false:=by cases op <;> first|rfl|exact absurd rfl h2
 cases b <;> simp [behindInMarks,e1,e2]
theorem pe_cmpR {op:CmpOp} {r:R2} (ho:OpR X (compareOp op) r) (ha:PE X a ta) (hb:PE X b tb) (hm:behindInMarks op b=false):PE X (.Compare a [op] [b] pos) (tOp r ta tb):=by
 intro pins s σ H Q I h
 exact wpAny_Compare1 (binT ha hb I h fun v u s2 x y H2 I2 rx ry q=>ho pins s2 σ H2 x y v u Q I2 rx ry q) hm
noncomputable def tTest (t:TE):TT:=fun σ H Q=>t σ H fun x H'=>∃ k,x=.bl k∧Q k H'
theorem pt_cmpR {op:CmpOp} {r:R2} (ho:OpR X (compareOp op) r) (ha:PE X a ta) (hb:PE X b tb) (hm:behindInMarks op b=false):PT X (.Compare a [op] [b] pos) (tTest (tOp r ta tb)):=by
 intro pins s σ H Q I h
 refine wpAny_isTrue_Compare1 (thn (ha pins s σ H _ I h) fun v s1 ⟨x,H1,I1,r1,q1⟩=>thn (hb pins s1 σ H1 _ I1 q1) fun u s2 ⟨y,H2,I2,r2,q2⟩ =>
  thn (ho pins s2 σ H2 x y v u _ I2 r1 r2 q2) fun c s3 ⟨z,H3,I3,r3,k,e,q3⟩=>?_) hm
 subst e
 cases r3
 exact wpAny_truthy_bool ⟨H3,I3,q3⟩
noncomputable def tChain (r r':R2) (ta tb tc:TE):TE:=fun σ H Q=>ta σ H fun x H1=>tb σ H1 fun y H2=>r x y H2 fun z H3=>∃ k,z=.bl k ∧
 (if k=true then tc σ H3 fun w' H4=>r' y w' H4 Q else Q (.bl false) H3)
theorem pt_chain {op op':CmpOp} {r r':R2} (ho:OpR X (compareOp op) r) (ho':OpR X (compareOp op') r') (ha:PE X a ta) (hb:PE X b tb) (hc:PE X c tc)
  (hm:lastMarks [op,op'] [b,c]=false:=by with_unfolding_all rfl):PT X (.Compare a [op,op'] [b,c] pos) (tTest (tChain r r' ta tb tc)):=by
 intro pins s σ H Q I h
 refine isTrue_chain (thn (ha pins s σ H _ I h) fun v s1 ⟨x,H1,I1,r1,q1⟩=>test_link (thn (hb pins s1 σ H1 _ I1 q1) fun u s2 ⟨y,H2,I2,r2,q2⟩ =>
  thn (ho pins s2 σ H2 x y v u _ I2 r1 r2 q2) fun d s3 ⟨z,H3,I3,r3,k,e,q3⟩=>?_)) hm
 subst e
 cases r3
 refine wpAny_truthy_bool ?_
 cases k with
 | false =>
  obtain ⟨k',e',q'⟩:=q3
  cases e'
  exact ite_ff ⟨H3,I3,q'⟩
 | true =>
  refine ite_tt (test_last (thn (hc pins s3 σ H3 _ I3 q3) fun w' s4 ⟨z',H4,I4,r4,q4⟩=>thn (ho' pins s4 σ H4 y z' u w' _ I4 r2 r4 q4) fun d' s5 ⟨z2,H5,I5,r5,k2,e2,q5⟩=>?_))
  subst e2
  cases r5
  exact wpAny_truthy_bool ⟨H5,I5,q5⟩
theorem line63:(sizeLine:Nat)<2 ^ 63:=by rw [sizeLine_eq];decide
theorem op_add_str:OpR X (binaryOp .Add) (fun x y H Q=>∃ i j,x=.str i∧y=.str j∧i.length+j.length≤sizeLine∧Q (.str (i++j)) H):=by
 intro pins s σ H x y v u Q I rx ry h
 obtain ⟨i,j,rfl,rfl,hz,q⟩:=h
 obtain ⟨t,rfl⟩:=rx
 obtain ⟨t',rfl⟩:=ry
 exact add_str (fun t' tk=>⟨.str (i++j),H,I.tok _,⟨_,rfl⟩,q⟩) hz
theorem vals1 {x:V} {us:List Value} (r:Vals [x] us):∃ u,us=[u]∧RelV x u:=by
 cases r with
 | cons r1 r2=>cases r2;exact⟨_,rfl,r1⟩
theorem vals2 {x y:V} {us:List Value} (r:Vals [x,y] us):∃ u w',us=[u,w']∧RelV x u∧RelV y w':=by
 cases r with
 | cons r1 r2 =>
  cases r2 with
  | cons r3 r4=>cases r4;exact⟨_,_,rfl,r1,r3⟩
theorem call_abs:CallR X (.builtin "abs") (fun xs H Q=>∃ i,xs=[.int i]∧Q (.int (if i<0 then -i else i)) H):=by
 intro pins s σ H xs us Q I r h
 obtain ⟨i,rfl,q⟩:=h
 obtain ⟨u,rfl,t,rfl⟩:=vals1 r
 exact call_abs_int fun u tk=>⟨.int (if i<0 then -i else i),H,I.tok _,⟨_,rfl⟩,q⟩
theorem call_max2 (hc:X.calm=true):CallR X (.builtin "max") (fun xs H Q=>∃ i j,xs=[.int i,.int j]∧Q (.int (if j > i then j else i)) H):=by
 intro pins s σ H xs us Q I r h
 obtain ⟨i,j,rfl,q⟩:=h
 obtain ⟨u,w',rfl,⟨t,rfl⟩,⟨t',rfl⟩⟩:=vals2 r
 refine max_two_ints (I.ok.hd hc) fun h' tk k=>⟨_,H,I.kept k,?_,q⟩
 by_cases hj:j > i
 ·rw [if_pos hj,if_pos hj];exact⟨_,rfl⟩
 ·rw [if_neg hj,if_neg hj];exact⟨_,rfl⟩
theorem call_int1:CallR X (.type "int") (fun xs H Q=>(∃ i,xs=[.int i]∧Q (.int i) H)∨∃ k,xs=[.bl k]∧Q (.int (if k then 1 else 0)) H):=by
 intro pins s σ H xs us Q I r h
 rcases h with ⟨i,rfl,q⟩|⟨k,rfl,q⟩
 ·obtain ⟨u,rfl,t,rfl⟩:=vals1 r
  exact call_int_int ⟨.int i,H,I,⟨_,rfl⟩,q⟩
 ·obtain ⟨u,rfl,r1⟩:=vals1 r
  cases r1
  exact call_int_bool ⟨.int (if k then 1 else 0),H,I.tok _,⟨_,rfl⟩,q⟩
theorem call_str_int:CallR X (.type "str") (fun xs H Q=>∃ i,xs=[.int i]∧i.natAbs.log2<1920∧Q (.str (toString i)) H):=by
 intro pins s σ H xs us Q I r h
 obtain ⟨i,rfl,hz,q⟩:=h
 obtain ⟨u,rfl,t,rfl⟩:=vals1 r
 exact PySem.P.str_of_int hz ⟨.str _,H,I.tok _,⟨_,rfl⟩,q⟩
end
end L2
namespace L2
open PySem PySem.Spec PyProof.Rows
structure ObjM (h:Heap) (x dx C:Addr) (mA:Str→Option Value):Prop where
 obj:h.get? x=some (PySem.W.instObj C dx)
 ns:h.Ns1 dx mA
 ne:dx≠x
theorem lookIn_ns {h:Heap} {dx:Addr} {mA:Str→Option Value} (n:h.Ns1 dx mA):∃ od,h.get? dx=some od∧∀ name,PySem.W.lookIn name od=some (mA name):=by
 obtain ⟨o,es,ep,ho,hd,hk,_,hm⟩:=n
 refine⟨o,ho,fun name=>?_⟩
 have e:=hm name
 unfold nsFind findBy at e
 rw [← Array.find?_toList] at e
 unfold PySem.W.lookIn
 rw [hd]
 dsimp only
 split
 ·rename_i y q
  rw [q] at e
  exact congrArg some e
 ·rename_i q
  rw [q] at e
  have a:es.toList.any (·.refKey)=false:=by
   rw [List.any_eq_false]
   intro y hy
   obtain ⟨z,t,hkey⟩:=hk y (Array.mem_toList_iff.mp hy)
   simp [DictEntry.refKey,hkey]
  have a':¬ es.toList.any (·.refKey)=true:=by rw [a];exact Bool.false_ne_true
  rw [if_neg a']
  exact congrArg some e
theorem ObjM.look {h:Heap} {x dx C:Addr} {mA:Str→Option Value} (I:ObjM h x dx C mA):∃ od,PySem.W.InstAt h x (PySem.W.instObj C dx) C (some od)∧∀ name,PySem.W.lookIn name od=some (mA name) :=
 let ⟨od,ho,hl⟩:=lookIn_ns I.ns
 ⟨od,⟨I.obj,rfl,rfl,ho⟩,hl⟩
theorem RelO.some_of {v:V} {o:Option Value} (r:RelO (some v) o):∃ u,o=some u∧RelV v u:=by
 cases o with
 | none=>exact (show False from r).elim
 | some u=>exact⟨u,rfl,r⟩
section
variable {P:Program} {w:World} {H H':Hp} {h h':Heap} {a C dx:Addr} {fs fs':List (Str×V)}
theorem ins_get (hok:HOk P w H h) (e:H a=some (.ins C dx fs)):∃ mA,ObjM h a dx C mA∧(∀ f,RelO (fs.lookup f) (mA f))∧PySem.Within mA (fs.map (·.1))∧fs.length≤1000∧H dx=some (.own a):=by
 obtain ⟨d,z,ne,ob,mA,n,r,q⟩:=(show ObjOk P w H h a (.ins C dx fs) from hok a _ e)
 exact⟨mA,⟨ob,n,ne⟩,r,q,z,d⟩
end
structure Cls (K:PySem.W.Frag) (C:Addr):Prop where
 pg:PySem.W.plainGet K C Str.empty=true
 hd:PySem.W.hasDictIn K C=true
 po:PySem.W.plainOver K C=true
 sa:PySem.W.findIn K (.ref C) "__setattr__"=some (some (.builtin "object.__setattr__"))
theorem Cls.get {K:PySem.W.Frag} {C:Addr} (c:Cls K C) (f:Str):PySem.W.plainGet K C f=true:=c.pg
section
variable {X:Cx} {pins:List (Addr×Obj)} {σ:St} {H:Hp} {s:Shared} {A:Around} {E:Value→Shared→Prop} {Q:Value→Shared→Prop} {c:Value} {b:Bool}
inductive TyOf (K:PySem.W.Frag) (H:Hp):V→Value→Prop where
 | non:TyOf K H .non (.type "NoneType")
 | bl (x:Bool):TyOf K H (.bl x) (.type "bool")
 | int (i:Int):TyOf K H (.int i) (.type "int")
 | str (x:Str):TyOf K H (.str x) (.type "str")
 | flt (x:UInt64):TyOf K H (.flt x) (.type "float")
 | lst {a:Addr} {xs:List V} (e:H a=some (.lst xs)):TyOf K H (.ref a) (.type "list")
 | frz {a:Addr} {o:Obj} {xs:List V} (e:H a=some (.frz o (.lst xs))):TyOf K H (.ref a) (.type "list")
 | tup {a:Addr} {xs:List V} (e:H a=some (.tup xs)):TyOf K H (.ref a) (.type "tuple")
 | dK {a:Addr} {kvs:List (Key×V)} (e:H a=some (.dK kvs)):TyOf K H (.ref a) (.type "dict")
 | dT {a:Addr} {kvs:List (List Key×V)} (e:H a=some (.dT kvs)):TyOf K H (.ref a) (.type "dict")
 | ins {a C dx:Addr} {fs:List (Str×V)} (e:H a=some (.ins C dx fs)) (cl:Cls K C) (ha:PySem.W.findIn K (.ref C) "__class__"=some (some (.builtin "object.__class__")))
   (hn:PySem.W.specialIn K (.builtin "object.__class__") "__get__"=some (some (.builtin "getset_descriptor.__get__"))) (htk:PySem.W.takesIn K (.builtin "object.__class__")=some true)
   (hm:PySem.W.mroIn K C (.type "object")=some true):TyOf K H (.ref a) (.ref C)
theorem isinst_ok {x:V} {u t:Value} (I:Inv X pins σ H s) (rx:RelV x u) (ty:TyOf X.K H x t) (e:PySem.W.kitOne X.K t c=some b) (h:∀ tk,Q (.bool b) { s with toks:=tk }) :
  wpAny (model X.prog X.w) A (call (.builtin "isinstance") [u,c]) Q E s:=by
 cases ty with
 | non=>cases (show u=Value.none from rx);exact PySem.W.kia_one PySem.W.kitx_none I.kIn True.intro e (fun z=>nomatch z) h
 | bl y=>cases (show u=Value.bool y from rx);exact PySem.W.kia_one PySem.W.kitx_bool I.kIn True.intro e (fun z=>nomatch z) h
 | int i=>obtain ⟨t,q⟩:=(show ∃ t,u=Value.int i t from rx);cases q;exact PySem.W.kia_one PySem.W.kitx_int I.kIn True.intro e (fun z=>nomatch z) h
 | str y=>obtain ⟨t,q⟩:=(show ∃ t,u=Value.str y t from rx);cases q;exact PySem.W.kia_one PySem.W.kitx_str I.kIn True.intro e (fun z=>nomatch z) h
 | flt y=>obtain ⟨t,q⟩:=(show ∃ t,u=Value.float y t from rx);cases q;exact PySem.W.kia_one PySem.W.kitx_float I.kIn True.intro e (fun z=>nomatch z) h
 | @lst a xs ea =>
  cases (show u=Value.ref a from rx)
  obtain ⟨_,_,n,_,h1⟩:=(show ObjOk X.prog X.w H s.heap a (.lst xs) from I.hok a _ ea)
  exact PySem.W.kia_one PySem.W.kitx_list I.kIn ⟨_,h1,rfl⟩ e (fun z=>nomatch z) h
 | @frz a ob xs ea =>
  cases (show u=Value.ref a from rx)
  obtain ⟨_,_,_,n,_,h1⟩:=(show ObjOk X.prog X.w H s.heap a (.frz ob (.lst xs)) from I.hok a _ ea)
  exact PySem.W.kia_one PySem.W.kitx_list I.kIn ⟨_,h1,rfl⟩ e (fun z=>nomatch z) h
 | @tup a xs ea =>
  cases (show u=Value.ref a from rx)
  obtain ⟨_,_,_,p⟩:=(show ObjOk X.prog X.w H s.heap a (.tup xs) from I.hok a _ ea)
  obtain ⟨o,h1,h2,_⟩:=p
  exact PySem.W.kia_one PySem.W.kitx_tuple I.kIn ⟨o,h1,h2⟩ e (fun z=>nomatch z) h
 | @dK a kvs ea =>
  cases (show u=Value.ref a from rx)
  obtain ⟨_,_,vs,_,p⟩:=(show ObjOk X.prog X.w H s.heap a (.dK kvs) from I.hok a _ ea)
  obtain ⟨o,es,ep,h1,h2,_⟩:=p
  exact PySem.W.kia_one PySem.W.kitx_dict I.kIn ⟨o,h1,h2.1⟩ e (fun z=>nomatch z) h
 | @dT a kvs ea =>
  cases (show u=Value.ref a from rx)
  obtain ⟨_,_,xs,_,o,es,ep,h1,h2,_⟩:=(show ObjOk X.prog X.w H s.heap a (.dT kvs) from I.hok a _ ea)
  exact PySem.W.kia_one PySem.W.kitx_dict I.kIn ⟨o,h1,h2.1⟩ e (fun z=>nomatch z) h
 | @ins a C dx fs ea cl ha hn htk hm =>
  cases (show u=Value.ref a from rx)
  obtain ⟨mA,O,_⟩:=ins_get I.hok ea
  obtain ⟨od,J,_⟩:=O.look
  exact PySem.W.kia_one (PySem.W.kitx_own (cl.get _) cl.hd ha hn htk hm) I.kIn J e (fun z=>nomatch z) h
end
end L2
namespace L2
open PySem PySem.Spec PyProof.Rows
structure Room (k:Nat) (A:Around):Prop where
 hd:A.handled=none
 dp:A.depth+3*k+5<recursionLimit
 un:A.units+16*k+200<cLine
theorem Room.mono {j k:Nat} {A:Around} (r:Room k A) (h:j≤k):Room j A:=⟨r.hd,by have:=r.dp;lia,by have:=r.un;lia⟩
theorem Room.deeper {k:Nat} {A:Around} (r:Room (k+1) A) (env:Env):Room k (A.deeper env) :=
 ⟨r.hd,by have:=r.dp;show A.depth+1+3*k+5<_;lia,by have:=r.un;show A.units+3+16*k+200<_;lia⟩
theorem Room.in1 {k:Nat} {A:Around} (r:Room (k+1) A):Room k A.in1 :=
 ⟨r.hd,by have:=r.dp;show A.depth+3*k+5<_;lia,by have:=r.un;show A.units+1+16*k+200<_;lia⟩
theorem Room.depth {k:Nat} {A:Around} (r:Room k A):A.depth<recursionLimit:=by have:=r.dp;lia
theorem Room.units {k:Nat} {A:Around} (r:Room k A):A.units+64<cLine:=by have:=r.un;lia
noncomputable def tNil:TA:=fun _ H Q=>Q [] H
noncomputable def tCons (ta:TE) (tr:TA):TA:=fun σ H Q=>ta σ H fun x H1=>tr σ H1 fun xs H2=>Q (x::xs) H2
section
variable {X:Cx} {e:Expr} {es:List Expr} {te:TE} {t:TA} {pos:Pos}
theorem pa_nil:PA X [] tNil:=fun _ _ _ _ H Q I h=>Calls.spliced_nil ⟨[],H,I,.nil,h⟩
theorem pa_cons (ha:PE X e te) (hr:PA X es t) (hs:starEach (e::es) X.env=(false,eval e X.env)::starEach es X.env:=by rfl):PA X (e::es) (tCons te t):=by
 intro pos pins s σ H Q I h
 rw [hs]
 show wpAny _ _ (spliced ((false,eval e X.env)::backTo pos (starEach es X.env))) _ _ s
 refine Calls.spliced_cons (thn (ha pins s σ H _ I h) fun u s1 ⟨x,H1,I1,r1,q1⟩=>?_)
 exact thn (hr pos pins s1 σ H1 _ I1 q1) fun us s2 ⟨xs,H2,I2,r2,q2⟩=>⟨x::xs,H2,I2,.cons r1 r2,q2⟩
noncomputable def tTup (t:TA):TE:=fun σ H Q=>t σ H fun xs H1=>xs.length≤sizeLine∧∀ p,H1 p=none→Q (.ref p) (upd H1 p (.tup xs))
noncomputable def tLst (t:TA):TE:=fun σ H Q=>t σ H fun xs H1=>xs.length≤sizeLine∧∀ p,H1 p=none→Q (.ref p) (upd H1 p (.lst xs))
theorem pe_tup {x1} (h:PA X es t):PE X (.Tuple es x1 pos) (tTup t):=by
 intro pins s σ H Q I hq
 refine wpAny_Tuple_spliced (thn (h pos pins s σ H _ I hq) fun us s1 ⟨xs,H1,I1,r,z,q⟩=>⟨by rw [← r.length];exact z,?_⟩)
 have hf:H1 s1.heap.objs.size=none:=I1.hok.fresh (Nat.le_refl _)
 refine⟨.ref s1.heap.objs.size,upd H1 s1.heap.objs.size (.tup xs),I1.laid (t':=s1.toks) (fun b u e=>Heap.get?_push_of_some _ e) (Nat.le_refl _) ?_,rfl,q _ hf⟩
 exact⟨z,us,r,⟨_,Heap.get?_push_size _ rfl,rfl,_,rfl⟩⟩
theorem pe_lst (h:PA X es t):PE X (.List es pos) (tLst t):=by
 intro pins s σ H Q I hq
 refine wpAny_List_spliced (thn (h pos pins s σ H _ I hq) fun us s1 ⟨xs,H1,I1,r,z,q⟩=>⟨by rw [← r.length];exact z,?_⟩)
 have hf:H1 s1.heap.objs.size=none:=I1.hok.fresh (Nat.le_refl _)
 refine⟨.ref s1.heap.objs.size,upd H1 s1.heap.objs.size (.lst xs),I1.laid (t':=s1.toks) (fun b u e=>Heap.get?_push_of_some _ e) (Nat.le_refl _) ?_,rfl,q _ hf⟩
 exact⟨z,us,0,r,Heap.get?_push_size _ rfl⟩
end
noncomputable abbrev Sp:=List V→Hp→VK→XK→Prop
noncomputable abbrev CXT:=List Env→Hp→Shared→XK→Value→Shared→Prop
structure Env0 (P:Program) (w:World) (K:PySem.W.Frag) (mg:Str→Option Value) (base:Heap) (A:Around) (outer:List Env) (s:Shared) (H:Hp):Prop where
 frames:A.frames=some outer
 mod:Mod K mg base
 bs:∀ b o,base.get? b=some o→s.heap.get? b=some o∧H b=none
 bsz:base.objs.size≤s.heap.objs.size
 funs:s.heap.FunFrames base outer
 frf:∀ b∈frs outer,H b=none
 hok:HOk P w H s.heap
 bare:AllBare s.gens
noncomputable def CE (outer:List Env) (P:Program) (w:World) (H:Hp) (s:Shared) (Q:VK) (u:Value) (s':Shared):Prop :=
 ∃ v H',s'.os=s.os∧AllBare s'.gens∧Un (frs outer) [] H H' s.heap s'.heap∧HOk P w H' s'.heap∧RelV v u∧Q v H'
noncomputable def CR (CX:CXT) (outer:List Env) (P:Program) (w:World) (H:Hp) (s:Shared) (Q:VK) (E:XK) (r:Result) (s':Shared):Prop :=
 match r with
 | .ok (.ret u)=>CE outer P w H s Q u s'
 | .ok _=>False
 | .error e=>CX outer H s E e s'
structure FnOk (P:Program) (w:World) (K:PySem.W.Frag) (mg:Str→Option Value) (base:Heap) (CX:CXT) (k:Nat) (f:Addr) (fd:FuncData) (ps:List Str) (sp:Sp):Prop where
 len:∀ vs H Q E,sp vs H Q E→vs.length=ps.length
 run:∀ (A:Around) (outer:List Env) (s:Shared) (H:Hp) (args:Args) (us:List Value) (vs:List V) (Q:VK) (E:XK),Room k A→Env0 P w K mg base A outer s H→BindsTo s fd args (ps.zip us)→Vals vs us→sp vs H Q E →
  codeAny (model P w) A (.call (.ref f) args) (CR CX outer P w H s Q E) s
section
variable {X:Cx} {pins:List (Addr×Obj)} {σ:St} {H:Hp} {s s':Shared}
theorem Inv.env0 (I:Inv X pins σ H s):Env0 X.prog X.w X.K X.mg X.base X.A X.stack s H :=
 ⟨I.ok.frames,I.ok.mod,I.bs,Nat.le_trans I.ok.bsz I.sz,I.stack,I.stkFree,I.hok,I.bare⟩
theorem Inv.after {Q:VK} {u:Value} (I:Inv X pins σ H s) (h:CE X.stack X.prog X.w H s Q u s'):EP X pins σ Q u s':=by
 obtain ⟨v,H',os,bare,un,hok,r,q⟩:=h
 obtain ⟨hh,g,d,t,os'⟩:=s'
 obtain rfl:os'=s.os:=os
 exact⟨v,H',I.call (h':=hh) (g':=g) (d':=d) (t':=t) (ch:=[]) un hok bare (fun b z=>absurd z (by simp)),r,q⟩
end
noncomputable def tCall (sp:Sp) (dvs:List V) (E:XK) (t:TA):TE:=fun σ H Q=>t σ H fun vs H1=>sp (vs++dvs) H1 Q E
noncomputable def Binds (K:PySem.W.Frag) (fd:FuncData) (ps:List Str) (ds:List Value):Prop :=
 ∀ (s:Shared) (us:List Value),K.In s.heap→(us++ds).length=ps.length→BindsTo s fd ⟨us,[]⟩ (ps.zip (us++ds))
theorem Binds.all {K:PySem.W.Frag} {fd:FuncData} {ps:List Str} (h:∀ us:List Value,us.length=ps.length→bindArgs fd ⟨us,[]⟩=pure (ps.zip us)):Binds K fd ps []:=fun s us _ hl=>by
 rw [List.append_nil] at hl ⊢
 exact .of_eq (h us hl)
noncomputable def Passes (CX:CXT) (X:Cx) (E:XK):Prop:=∀ (pins:List (Addr×Obj)) (σ:St) (H:Hp) (s:Shared) (e:Value) (s':Shared),Inv X pins σ H s→CX X.stack H s E e s'→X.xe e s'
section
variable {X:Cx} {CX:CXT} {k:Nat} {f C:Addr} {fd:FuncData} {ps:List Str} {sp:Sp} {dvs:List V} {ds:List Value} {E:XK} {x m:Str} {p pos apos:Pos} {e o:Expr} {es:List Expr} {ta:TE} {t:TA}
theorem run_fn {pins:List (Addr×Obj)} {σ:St} {H:Hp} {s:Shared} {Q:VK} {us:List Value} {vs:List V} (F:FnOk X.prog X.w X.K X.mg X.base CX k f fd ps sp) (hr:Room k X.A) (hb:Binds X.K fd ps ds) (hd:Vals dvs ds) (hx:Passes CX X E)
  (I:Inv X pins σ H s) (r:Vals vs us) (h:sp (vs++dvs) H Q E):wpAny (model X.prog X.w) X.A (call (.ref f) us) (EP X pins σ Q) X.xe s:=by
 have r2:Vals (vs++dvs) (us++ds):=r.append hd
 have hl:(us++ds).length=ps.length:=by rw [← r2.length];exact F.len _ _ _ _ h
 refine wpAny_call (codeAny_mono (F.run X.A X.stack s H ⟨us,[]⟩ (us++ds) (vs++dvs) Q E hr I.env0 (hb s us I.kIn hl) r2 h) fun r s' hq=>?_)
 cases r with
 | error e=>exact hx pins σ H s e s' I hq
 | ok fl =>
  cases fl with
  | ret u=>exact I.after hq
  | next=>exact False.elim hq
  | brk=>exact False.elim hq
  | cont=>exact False.elim hq
theorem pe_call (F:FnOk X.prog X.w X.K X.mg X.base CX k f fd ps sp) (hr:Room k X.A) (hg:Gl X x) (hm:X.mg x=some (.ref f)) (hk:PySem.W.keepIn X.K (.ref f)=true) (hb:Binds X.K fd ps ds) (hd:Vals dvs ds) (hx:Passes CX X E)
  (ha:PA X (e::es) t) (hdb:(x == ("__debug__":Str))=false:=by decide) (he:starEach (e::es) X.env=(false,eval e X.env)::starEach es X.env:=by rfl) (hpl:(backTo pos (starEach es X.env)).any (·.1)=false:=by rfl) :
  PE X (.Call (.Name x p) (e::es) [] pos) (tCall sp dvs E t):=by
 intro pins s σ H Q I h
 refine wpAny_Call_Name_kw (ld_glob I hg hm ?_ hdb)
 refine PySem.W.callWith_K (h₀:=X.base) I.ok.mod.kin hk (thn (ha pos pins s σ H _ I h) fun us s1 ⟨vs,H1,I1,r,q⟩=>⟨I1.kIn,?_⟩) he hpl
 exact run_fn F hr hb hd hx I1 r q
end
noncomputable def PK (X:Cx) (kws:List Keyword) (t:TA):Prop :=
 ∀ (pos:Pos) (pins:List (Addr×Obj)) (s:Shared) (σ:St) (H:Hp) (Q:List V→Hp→Prop),Inv X pins σ H s→t σ H Q→wpAny (model X.prog X.w) X.A (evalAll ((backToKw pos (keywordEach kws X.env)).map (·.2))) (AP X pins σ Q) X.xe s
section
variable {X:Cx} {CX:CXT} {k:Nat} {f C:Addr} {fd:FuncData} {ps ks:List Str} {sp:Sp} {E:XK} {x m:Str} {p pos apos kpos:Pos} {e o:Expr} {es:List Expr} {kws:List Keyword} {te ta:TE} {t tk:TA} {nm:Option Str}
theorem pk_nil:PK X [] tNil:=fun _ _ _ _ H Q I h=>wpAny_evalAll_nil ⟨[],H,I,.nil,h⟩
theorem pk_cons (ha:PE X e te) (hr:PK X kws t):PK X (⟨nm,e,kpos⟩::kws) (tCons te t):=by
 intro pos pins s σ H Q I h
 show wpAny _ _ (evalAll ((do let v ← eval e X.env;standAt pos;pure v)::(backToKw pos (keywordEach kws X.env)).map (·.2))) _ _ s
 refine wpAny_evalAll_cons (wpAny_bind (thn (ha pins s σ H _ I h) fun u s1 ⟨x,H1,I1,r1,q1⟩=>wpAny_bind (wpAny_standAt (wpAny_pure ?_))))
 exact thn (hr pos pins s1 σ H1 _ I1 q1) fun us s2 ⟨xs,H2,I2,r2,q2⟩=>⟨x::xs,H2,I2,.cons r1 r2,q2⟩
variable {g:List Value→List Value→List Value} {gV:List V→List V→List V}
end
structure FnScope (N P:List Str) (sc:Scope):Prop where
 kind:sc.kind=.function
 co:sc.isCoroutine=false
 gen:sc.isGenerator=false
 nd:N.Nodup
 pre:N.take P.length=P
 par:∀ x∈P,sc.names.lookup x=some .local∨sc.names.lookup x=some .cell
 nofree:∀ y∈sc.names,y.2≠.free
theorem bindL_out {kindOf:Str→Option NameKind} {x:Str}:∀ {binds:List (Str×Value)} {m:Str→Option Value},(∀ v,(x,v)∉binds)→bindL kindOf binds m x=m x
 | [],_,_=>rfl
 | (n,v)::r,m,h=>by
  unfold bindL
  rw [bindL_out fun w hw=>h w (List.mem_cons_of_mem _ hw)]
  split
  ·have:x≠n:=by rintro rfl;exact h v List.mem_cons_self
   simp [this]
  ·rfl
theorem bindC_out {kindOf:Str→Option NameKind} {x:Str}:∀ {binds:List (Str×Value)} {m:Str→Option Value},(∀ v,(x,v)∉binds)→bindC kindOf binds m x=m x
 | [],_,_=>rfl
 | (n,v)::r,m,h=>by
  unfold bindC
  rw [bindC_out fun w hw=>h w (List.mem_cons_of_mem _ hw)]
  split
  ·rfl
  ·have:x≠n:=by rintro rfl;exact h v List.mem_cons_self
   simp [this]
theorem bindL_get {kindOf:Str→Option NameKind} {x:Str} {v:Value}:∀ {P:List Str} {vs:List Value} {i:Nat} {m:Str→Option Value},P.Nodup→P[i]?=some x→vs[i]?=some v→kindOf x=some .local →
  bindL kindOf (P.zip vs) m x=some v
 | [],_,_,_,_,h,_,_=>by simp at h
 | _::_,[],_,_,_,_,h,_=>by simp at h
 | p::P,w::vs,0,m,nd,h1,h2,hk=>by
  simp at h1 h2;subst h1;subst h2
  show bindL kindOf ((p,w)::P.zip vs) m p=_
  unfold bindL
  rw [bindL_out fun v hv=>(List.nodup_cons.mp nd).1 (List.of_mem_zip hv).1,if_pos hk]
  simp
 | p::P,w::vs,i+1,m,nd,h1,h2,hk=>by
  show bindL kindOf ((p,w)::P.zip vs) m x=_
  unfold bindL
  exact bindL_get (i:=i) (List.nodup_cons.mp nd).2 (by simpa using h1) (by simpa using h2) hk
theorem bindC_get {kindOf:Str→Option NameKind} {x:Str} {v:Value}:∀ {P:List Str} {vs:List Value} {i:Nat} {m:Str→Option Value},P.Nodup→P[i]?=some x→vs[i]?=some v→kindOf x≠some .local →
  bindC kindOf (P.zip vs) m x=some v
 | [],_,_,_,_,h,_,_=>by simp at h
 | _::_,[],_,_,_,_,h,_=>by simp at h
 | p::P,w::vs,0,m,nd,h1,h2,hk=>by
  simp at h1 h2;subst h1;subst h2
  show bindC kindOf ((p,w)::P.zip vs) m p=_
  unfold bindC
  rw [bindC_out fun v hv=>(List.nodup_cons.mp nd).1 (List.of_mem_zip hv).1,if_neg hk]
  simp
 | p::P,w::vs,i+1,m,nd,h1,h2,hk=>by
  show bindC kindOf ((p,w)::P.zip vs) m x=_
  unfold bindC
  exact bindC_get (i:=i) (List.nodup_cons.mp nd).2 (by simpa using h1) (by simpa using h2) hk
noncomputable def start (N:List Str) (vs:List V):St:=vs.map some++List.replicate (N.length - vs.length) none
noncomputable def cxOf (CX:CXT) (P:Program) (w:World) (K:PySem.W.Frag) (mg:Str→Option Value) (base:Heap) (N:List Str) (qual:Str) (scope:Scope) (f:Addr) (cd:Value) (A:Around) (outer:List Env) (s:Shared) (H:Hp) (E:XK):Cx where
 prog:=P
 w:=w
 K:=K
 mg:=mg
 base:=base
 A:=A.deeper (envOfC qual scope s.heap.objs.size f cd)
 N:=N
 s₀:=s
 H₀:=H
 env:=envOfC qual scope s.heap.objs.size f cd
 outer:=outer
 stack:=envOfC qual scope s.heap.objs.size f cd::outer
 ex:=[]
 calm:=true
 fn:=fun _=>true
 pn:=[]
 xe:=fun e s'=>wpAny (model P w) (A.deeper (envOfC qual scope s.heap.objs.size f cd)) (leaving (envOfC qual scope s.heap.objs.size f cd) e) (fun _ s''=>CX outer H s E e s'') (fun e' s''=>CX outer H s E e' s'') s'
theorem cell_has {sc:Scope} {n:Nat} {x:Str} (h:sc.names.lookup x=some .cell):∃ c,(cellsFrom n sc.names []).lookup x=some c:=by
 have q:=PySem.W.cellsFrom_some sc.names n [] (.inl h)
 exact Option.isSome_iff_exists.mp q
theorem inv_start {CX:CXT} {P:Program} {w:World} {K:PySem.W.Frag} {mg:Str→Option Value} {base:Heap} {N ps:List Str} {qual:Str} {scope:Scope} {f:Addr} {cd:Value} {A:Around} {outer:List Env} {s s1:Shared} {H:Hp} {E:XK} {us:List Value} {vs:List V}
  (S:FnScope N ps scope) (hd:A.handled=none) (e0:Env0 P w K mg base A outer s H) (hl:vs.length=ps.length) (r:Vals vs us)
  (x:InCallC s s.heap.objs.size (bindL (envOfC qual scope s.heap.objs.size f cd).kindOf (ps.zip us) fun _=>none) (cellsFrom (s.heap.objs.size+1) scope.names []) (bindC (envOfC qual scope s.heap.objs.size f cd).kindOf (ps.zip us) fun _=>none) s1) :
  Inv (cxOf CX P w K mg base N qual scope f cd A outer s H E) [] (start N vs) H s1:=by
 have hpl:ps.length≤N.length:=by have:=congrArg List.length S.pre;rw [List.length_take] at this;lia
 obtain ⟨h1,tk,rfl,hk⟩:=x.done
 have noA:∀ b:Addr,b∉(cxOf CX P w K mg base N qual scope f cd A outer s H E).ex:=fun b z=>absurd (show b∈([]:List Addr) from z) (by simp)
 refine⟨⟨e0.mod,S.kind,rfl,rfl,Nat.le_refl _,fun y z c h1 h2=>?_,fun y hy=>?_,fun y c _ h=>?_,fun _=>hd,Around.frames_deeper e0.frames,.inr ⟨rfl,rfl⟩,fun b z=>absurd z (noA b),e0.bs,e0.bsz,fun b _ _=>noA b,fun b z=>absurd z (noA b),e0.funs,e0.frf⟩,
  rfl,e0.bare,Un.kept hk,⟨_,x.toInCall.ns,fun i y v h1 h2 h3=>?_⟩,fun y c h=>⟨_,x.cell y c h⟩,e0.hok.fresh (Nat.le_refl _),fun y c h=>?_,fun p hp=>absurd (show p∈([]:List (Addr×Obj)) from hp) (by simp),e0.hok.kept hk,?_⟩
 ·exact name_of_addr x.apart (PySem.mem_of_lookup h1) (PySem.mem_of_lookup h2)
 ·have hy:scope.names.lookup y=some .cell∨scope.names.lookup y=some .free:=hy
  rcases hy with hy|hy
  ·exact cell_has hy
  ·exact absurd rfl (S.nofree _ (PySem.mem_of_lookup hy))
 ·exact Nat.le_of_lt (x.above y c (PySem.mem_of_lookup h))
 ·have hi:i<vs.length:=by
   unfold start at h2
   by_cases hi:i<vs.length
   ·exact hi
   ·rw [List.getElem?_append_right (by simpa using hi)] at h2
    rw [List.getElem?_replicate] at h2
    split at h2 <;> cases h2
  have ha:vs[i]?=some v:=by
   unfold start at h2
   rw [List.getElem?_append_left (by simpa using hi),List.getElem?_map] at h2
   cases e:vs[i]? with
   | none=>rw [e] at h2;cases h2
   | some a=>rw [e] at h2;cases h2;rfl
  obtain ⟨u,hu,rv⟩:=r.get ha
  have hp:ps[i]?=some y:=by
   rw [← S.pre,List.getElem?_take_of_lt (by lia)];exact h1
  have ndP:ps.Nodup:=by rw [← S.pre];exact S.nd.sublist (List.take_sublist _ _)
  refine⟨u,rv,?_⟩
  rcases S.par y (List.mem_of_getElem? hp) with k|k
  ·exact .inl ⟨k,bindL_get ndP hp hu k⟩
  ·obtain ⟨c,e⟩:=cell_has (n:=s.heap.objs.size+1) k
   refine .inr ⟨.inl k,c,e,?_⟩
   have q:=x.cell y c e
   rw [bindC_get ndP hp hu (by show scope.names.lookup y≠_;rw [k];decide)] at q
   exact q
 ·exact e0.hok.fresh (Nat.le_of_lt (x.above y c (PySem.mem_of_lookup h)))
 ·unfold start
  show _=N.length
  rw [List.length_append,List.length_map,List.length_replicate]
  lia
theorem fn_of {CX:CXT} {P:Program} {w:World} {K:PySem.W.Frag} {mg:Str→Option Value} {base:Heap} {k:Nat} {f:Addr} {name qual:Str} {params:Arguments} {body:List Stmt} {scope:Scope} {dV kV doc pm cdv ct oc:Value} {an od:Option Addr}
  {osl:Array (Option Value)} {N ps:List Str} {sp:Sp} (lk:K.lookup f=some ⟨oc,od,.func (PySem.W.fnOf name qual params body scope dV kV doc pm an cdv ct),osl⟩) (hcd:PySem.W.codeIn K cdv qual=true) (S:FnScope N ps scope)
  (len:∀ vs H Q E,sp vs H Q E→vs.length=ps.length)
  (hbody:∀ (A:Around) (outer:List Env) (s:Shared) (H:Hp) (vs:List V) (Q:VK) (E:XK),Room k (A.deeper (envOfC qual scope s.heap.objs.size f cdv))→sp vs H Q E →
   ∃ t,PSs (cxOf CX P w K mg base N qual scope f cdv A outer s H E) body t∧t { nx:=fun _ H'=>Q .non H',rt:=Q } (start N vs) H) :
  FnOk P w K mg base CX (k+1) f (PySem.W.fnOf name qual params body scope dV kV doc pm an cdv ct) ps sp:=by
 refine⟨len,fun A outer s H args us vs Q E hr e0 hb r hsp=>?_⟩
 have hl:=len _ _ _ _ hsp
 have KX:K.In s.heap:=e0.mod.kin.keeps fun b o e=>(e0.bs b o e).1
 have lim:s.heap.NoLimit:=e0.mod.nolimit.keeps fun b o e=>(e0.bs b o e).1
 have hkind:∀ y∈ps.zip us,scope.names.lookup y.1=some .local∨(scope.names.lookup y.1=some .cell∧((cellsFrom (s.heap.objs.size+1) scope.names []).lookup y.1).isSome=true):=fun ⟨n,v⟩ hy=>by
  rcases S.par n (List.of_mem_zip hy).1 with q|q
  ·exact .inl q
  ·exact .inr ⟨q,PySem.W.cellsFrom_some _ _ _ (.inl q)⟩
 refine codeAny_call_function hr.depth (KX _ _ lk) rfl S.co S.gen rfl (PySem.W.codeRec_of KX hcd) (hb _ _ _ _ ?_)
 refine wpAny_newFunctionEnv_cells S.kind hkind fun env he s1 x=>?_
 subst he
 refine⟨lim.keeps x.toInCall.keep,codeAny_func ?_⟩
 obtain ⟨t,ht,hq⟩:=hbody A outer s H vs Q E (hr.deeper _) hsp
 have I:Inv (cxOf CX P w K mg base N qual scope f cdv A outer s H E) [] (start N vs) H s1:=inv_start S hr.hd e0 hl r x
 refine wpAny_mono (ht [] s1 (start N vs) H _ I hq) (fun fl s' hs=>?_) fun e s' hs=>hs
 have fin:∀ {σ':St} {H':Hp} {v:V} {u:Value},Inv (cxOf CX P w K mg base N qual scope f cdv A outer s H E) [] σ' H' s'→RelV v u→Q v H'→CE outer P w H s Q u s' :=
  fun {σ' H' v u} J rv q=>⟨v,H',J.os,J.bare,J.base,J.hok,rv,q⟩
 cases fl with
 | ret u =>
  obtain ⟨v,σ',H',J,rv,q⟩:=hs
  exact fin J rv q
 | next =>
  obtain ⟨σ',H',J,q⟩:=hs
  exact fin (v:=V.non) (u:=Value.none) J rfl q
 | brk =>
  obtain ⟨_,_,_,q⟩:=hs
  exact False.elim q
 | cont =>
  obtain ⟨_,_,_,q⟩:=hs
  exact False.elim q
end L2
namespace L2
open PySem PySem.Spec PyProof.Rows
section
variable {X:Cx} {x:Str} {p pos:Pos} {e:Expr} {es:List Expr} {t:TA} {id T:String} {r:List V→Hp→VK→Prop}
noncomputable def tCB (r:List V→Hp→VK→Prop) (t:TA):TE:=fun σ H Q=>t σ H fun vs H1=>r vs H1 Q
theorem pe_callB (hc:CallR X (.builtin id) r) (hg:Gl X x) (hm:X.mg x=none) (hv:bootBuiltins x=some (.builtin id)) (ha:PA X (e::es) t) (hn:x≠"__name__":=by decide) (hdb:(x == ("__debug__":Str))=false:=by decide)
  (he:starEach (e::es) X.env=(false,eval e X.env)::starEach es X.env:=by rfl) (hpl:(backTo pos (starEach es X.env)).any (·.1)=false:=by rfl):PE X (.Call (.Name x p) (e::es) [] pos) (tCB r t):=by
 intro pins s σ H Q I h
 refine wpAny_Call_Name_kw (ld_blt I hg hm hv ?_ hn hdb)
 exact PyProof.Rows.callWith_builtin1 (thn (ha pos pins s σ H _ I h) fun us s1 ⟨vs,H1,I1,r1,q1⟩=>hc pins s1 σ H1 vs us Q I1 r1 q1) he hpl
theorem pe_callTy (hc:CallR X (.type T) r) (hg:Gl X x) (hm:X.mg x=none) (hv:bootBuiltins x=some (.type T)) (ha:PA X (e::es) t) (hn:x≠"__name__":=by decide) (hdb:(x == ("__debug__":Str))=false:=by decide)
  (he:starEach (e::es) X.env=(false,eval e X.env)::starEach es X.env:=by rfl) (hpl:(backTo pos (starEach es X.env)).any (·.1)=false:=by rfl):PE X (.Call (.Name x p) (e::es) [] pos) (tCB r t):=by
 intro pins s σ H Q I h
 refine wpAny_Call_Name_kw (ld_blt I hg hm hv ?_ hn hdb)
 exact PyProof.Rows.callWith_type1 (thn (ha pos pins s σ H _ I h) fun us s1 ⟨vs,H1,I1,r1,q1⟩=>hc pins s1 σ H1 vs us Q I1 r1 q1) he hpl
end
end L2
namespace HT
open PySem PyProof.Rows
section
variable {prog:Program} {w:World} {A:Around} {E:Value→Shared→Prop} {s:Shared}
theorem cat_tup {t b:Addr} {vs ws:List Value} {Q:Value→Shared→Prop} (ht:IsTup s.heap t vs.toArray) (hb:IsTup s.heap b ws.toArray) (hv:vs≠[])
  (h1:ws=[]→Q (.ref t) s) (h2:ws≠[]→Q (.ref s.heap.objs.size) { s with heap:=s.heap.push { cls:=.type "tuple",data:=.seq (vs++ws).toArray } })
  (hsz:vs.length+ws.length≤sizeLine):wpAny (model prog w) A (binaryOp .Add (.ref t) (.ref b)) Q E s:=by
 obtain ⟨⟨cls,dd,data,sl⟩,ho,hc,n,hd⟩:=id ht
 obtain ⟨⟨cls2,dd2,data2,sl2⟩,ho2,hc2,n2,hd2⟩:=id hb
 simp only at hc hd hc2 hd2
 subst hc hd hc2 hd2
 have e:vs.toArray++ws.toArray=(vs++ws).toArray:=by simp
 by_cases hw:ws=[]
 ·exact concat_meets ⟨_,ho,rfl⟩ ⟨_,ho2,rfl⟩ noFill_tuple_add seq_tuple_add PySem.F.slot_tuple_add PySem.F.entry_tuple_add (PySem.F.args_tuple_add_2 _ _)
   (tuple_addW1 t b vs.toArray ws.toArray n n2 dd dd2 sl sl2 (by simpa using hv) (by simp [hw])) ⟨ho,ho2,h1 hw⟩
 ·refine concat_meets ⟨_,ho,rfl⟩ ⟨_,ho2,rfl⟩ noFill_tuple_add seq_tuple_add PySem.F.slot_tuple_add PySem.F.entry_tuple_add (PySem.F.args_tuple_add_2 _ _)
   (tuple_addW2 t b vs.toArray ws.toArray n n2 dd dd2 sl sl2 (by simpa using hv) (by simpa using hw) (by rw [List.size_toArray,List.size_toArray];exact hsz)) ⟨ho,ho2,?_⟩
  rw [e]
  exact h2 hw
noncomputable def sIx (n d:Nat):Option Int→Nat
 | none=>d
 | some v=>if v<0 then (v+(n:Int)).toNat else min v.toNat n
theorem sIx_none (n d:Nat):sIx n d none=d:=rfl
theorem sIx_nat (n d k:Nat):sIx n d (some (k:Int))=min k n:=by
 show (if (k:Int)<0 then ((k:Int)+(n:Int)).toNat else min (k:Int).toNat n)=min k n
 rw [if_neg (by lia),Int.toNat_natCast]
theorem sIx_le (n d:Nat) (hd:d≤n) (o:Option Int):sIx n d o≤n:=by
 cases o with
 | none=>exact hd
 | some v =>
  show (if v<0 then (v+(n:Int)).toNat else min v.toNat n)≤n
  by_cases hv:v<0
  ·rw [if_pos hv];lia
  ·rw [if_neg hv];exact Nat.min_le_right _ _
theorem clip_eq (v:Int) (n d:Nat):(if v<0 then max (v+(n:Int)) 0 else min v (n:Int))=((sIx n d (some v):Nat):Int):=by
 show (if v<0 then max (v+(n:Int)) 0 else min v (n:Int))=(((if v<0 then (v+(n:Int)).toNat else min v.toNat n):Nat):Int)
 by_cases hv:v<0
 ·simp only [if_pos hv];lia
 ·simp only [if_neg hv];lia
theorem adjust_gen (lo hi:Option Int) (n:Nat):Builtin.Slice.sliceAdjust lo hi 1 (n:Int)=(((sIx n 0 lo:Nat):Int),((sIx n n hi:Nat):Int)):=by
 have h1:¬ ((1:Int)<0):=by lia
 unfold Builtin.Slice.sliceAdjust
 simp only [h1,if_false]
 refine Prod.ext ?_ ?_
 ·cases lo with
  | none=>rfl
  | some v=>exact clip_eq v n 0
 ·cases hi with
  | none=>rfl
  | some v=>exact clip_eq v n n
theorem places_gen (i j:Nat):Builtin.Slice.slicePlaces (i:Int) (j:Int) 1=j - i:=by
 unfold Builtin.Slice.slicePlaces
 have h1:(1:Int) > 0:=by lia
 simp only [h1,if_true,Int.ediv_one]
 split <;> lia
theorem slicePart_ {v:Value} {o:Option Int} {Q:Option Int→Shared→Prop} (p:IsPart v o) (h:Q o s):wpAny (model prog w) A (Builtin.Slice.slicePartIndex v) Q E s:=by
 cases p with
 | none=>exact slicePart_none h
 | int i t=>exact slicePart_int h
theorem sliceApplied_gen {sl:Addr} {vl vu:Value} {lo hi:Option Int} {n:Nat} {Q:Int×Int×Nat→Shared→Prop} (hs:s.heap.IsSliceOf sl vl vu .none) (pl:IsPart vl lo) (pu:IsPart vu hi)
  (h:Q (((sIx n 0 lo:Nat):Int),1,sIx n n hi - sIx n 0 lo) s):wpAny (model prog w) A (Builtin.Slice.sliceApplied (.ref sl) (pure (n:Int))) Q E s:=by
 obtain ⟨os,hos,hcs,hds⟩:=id hs
 unfold Builtin.Slice.sliceApplied Builtin.Slice.sliceFields
 refine wpAny_bind (wpAny_bind (wpAny_field hos hds (x:=vl) rfl (wpAny_bind (wpAny_field hos hds (x:=vu) rfl (wpAny_bind (wpAny_field hos hds (x:=.none) rfl (wpAny_pure ?_)))))))
 refine wpAny_bind (slicePart_none ?_)
 show wpAny _ _ (if ((1:Int) == 0)=true then _ else _) _ _ s
 rw [if_neg (by decide)]
 refine wpAny_bind (slicePart_ pl (wpAny_bind (slicePart_ pu (wpAny_bind (wpAny_pure ?_)))))
 show wpAny _ _ (match Builtin.Slice.sliceAdjust lo hi 1 (n:Int) with|(lo,hi)=>pure (lo,(1:Int),Builtin.Slice.slicePlaces lo hi 1)) _ _ s
 rw [adjust_gen lo hi n]
 show wpAny _ _ (pure (((sIx n 0 lo:Nat):Int),(1:Int),Builtin.Slice.slicePlaces ((sIx n 0 lo:Nat):Int) ((sIx n n hi:Nat):Int) 1)) _ _ s
 rw [places_gen]
 exact wpAny_pure h
theorem pick_gen (xs:Array Value) (i k:Nat):((List.range k).filterMap fun (m:Nat)=>xs[((i:Int)+(m:Int)*1).toNat]?).toArray=((xs.toList.drop i).take k).toArray:=by
 have e:(fun (m:Nat)=>xs[((i:Int)+(m:Int)*1).toNat]?)=fun m=>xs[i+m]?:=by
  funext m
  have:((i:Int)+(m:Int)*1).toNat=i+m:=by lia
  rw [this]
 rw [e]
 have:=pick_run xs i k
 rw [List.filterMap_map] at this
 have e2:((fun x=>xs[x]?) ∘ fun x=>i+x)=fun m=>xs[i+m]?:=rfl
 rw [e2] at this
 rw [this]
theorem getItem_tuple_cut {t sl:Addr} {items:Array Value} {vl vu:Value} {lo hi:Option Int} {Q:Value→Shared→Prop} (ht:IsTup s.heap t items) (hs:s.heap.IsSliceOf sl vl vu .none) (pl:IsPart vl lo) (pu:IsPart vu hi)
  (hw:¬ (sIx items.size 0 lo=0∧sIx items.size items.size hi=items.size))
  (h:Q (.ref s.heap.objs.size) { s with heap:=s.heap.push { cls:=.type "tuple",data:=.seq ((items.toList.drop (sIx items.size 0 lo)).take (sIx items.size items.size hi - sIx items.size 0 lo)).toArray } })
  (hsz:items.size≤sizeLine):wpAny (model prog w) A (getItem (.ref t) (.ref sl)) Q E s:=by
 have htake:sizeOk (.seq ((items.toList.drop (sIx items.size 0 lo)).take (sIx items.size items.size hi - sIx items.size 0 lo)).toArray):=by
  show ((items.toList.drop (sIx items.size 0 lo)).take (sIx items.size items.size hi - sIx items.size 0 lo)).toArray.size≤sizeLine
  rw [List.size_toArray,List.length_take,List.length_drop,Array.length_toList]
  exact Nat.le_trans (Nat.min_le_right _ _) (Nat.le_trans (Nat.sub_le _ _) hsz)
 have hj:sIx items.size items.size hi≤items.size:=sIx_le _ _ (Nat.le_refl _) hi
 obtain ⟨os,hos,hcs,hds⟩:=id hs
 have hTs:s.TypeIs (.ref sl) "slice":=⟨os,hos,hcs⟩
 unfold getItem
 try with_reducible refine wpAny_holding ?_
 first|refine wpAny_bind (wpAny_pure ?_)|skip
 refine wpAny_bind (wpAny_sequenceKey ht.typeIs (by decide) ?_)
 refine wpAny_bind (wpAny_callSpecial?_slot (name:=Str.ofString "__getitem__") ht.typeIs PyProof.Rows.slot_tuple_getitem
  (wpAny_call_entry PyProof.Rows.slot_tuple_getitem ht.typeIs entry_tuple_getitem ?_ (args_tuple_getitem _ _)))
 show wpAny _ _ (Builtin.Tuple.tupleItemsOf (.ref t) >>= _) _ _ s
 refine wpAny_bind (tupleItemsOf_ ht ?_)
 refine wpAny_bind (wpAny_typeOf hTs ?_)
 rw [if_pos (by decide)]
 refine wpAny_bind (sliceApplied_gen hs pl pu ?_)
 have hno:¬ ((((sIx items.size 0 lo:Nat):Int) == 0 && (1:Int) == 1 && (sIx items.size items.size hi - sIx items.size 0 lo) == items.size)=true):=by
  intro q
  rw [Bool.and_eq_true,Bool.and_eq_true] at q
  have q1:((sIx items.size 0 lo:Nat):Int)=0:=eq_of_beq q.1.1
  have q2:sIx items.size items.size hi - sIx items.size 0 lo=items.size:=eq_of_beq q.2
  exact hw ⟨by lia,by lia⟩
 show wpAny _ _ (if (((sIx items.size 0 lo:Nat):Int) == 0 && (1:Int) == 1 && (sIx items.size items.size hi - sIx items.size 0 lo) == items.size)=true then _ else _) _ _ s
 rw [if_neg hno,pick_gen]
 first
  | exact wpAny_bind (m:=Builtin.Tuple.tupleExact _) (wpAny_newObj_type (wpAny_pure ⟨_,rfl,wpAny_pure h⟩) htake)
  | exact wpAny_bind (m:=Builtin.Tuple.tupleExact _) (wpAny_newObj_type (wpAny_bind (wpAny_pure (wpAny_pure ⟨_,rfl,wpAny_pure h⟩))) htake)
  | exact wpAny_bind (wpAny_bind (m:=Builtin.Tuple.tupleExact _) (wpAny_newObj_type (wpAny_pure (wpAny_pure ⟨_,rfl,wpAny_pure h⟩)) htake))
  | exact wpAny_bind (wpAny_bind (m:=Builtin.Tuple.tupleExact _) (wpAny_newObj_type (wpAny_pure ⟨_,rfl,wpAny_pure h⟩) htake))
end
end HT
namespace L2
open PySem PySem.Spec PyProof.Rows
noncomputable abbrev TO:=St→Hp→(Option Int→Hp→Prop)→Prop
noncomputable def PO (X:Cx) (e:Option Expr) (t:TO):Prop :=
 ∀ (pins:List (Addr×Obj)) (s:Shared) (σ:St) (H:Hp) (Q:Option Int→Hp→Prop),Inv X pins σ H s→t σ H Q →
  wpAny (model X.prog X.w) X.A (evalPart e X.env) (fun u s'=>∃ o H',Inv X pins σ H' s'∧IsPart u o∧Q o H') X.xe s
noncomputable def tNoPart:TO:=fun _ H Q=>Q none H
noncomputable def tPart (t:TE):TO:=fun σ H Q=>t σ H fun x H1=>∃ i,x=.int i∧Q (some i) H1
theorem intsAre_of {ns:List Int}:∀ {us:List Value},Vals (ns.map V.int) us→IntsAre us ns:=by
 induction ns with
 | nil=>intro us r;rw [List.map_nil] at r;cases r;exact .nil
 | cons n ns ih =>
  intro us r
  rw [List.map_cons] at r
  cases r with
  | cons r1 r2 =>
   obtain ⟨t,e⟩:=r1
   subst e
   exact .cons n t (ih r2)
section
variable {X:Cx} {e:Expr} {te:TE} {lo hi:Option Expr} {tl th:TO} {pos p2:Pos}
theorem po_none:PO X none tNoPart:=by
 intro pins s σ H Q I h
 rw [evalPart_none]
 exact wpAny_pure ⟨none,H,I,.none,h⟩
theorem po_some (h:PE X e te):PO X (some e) (tPart te):=by
 intro pins s σ H Q I hw
 rw [evalPart_some]
 refine thn (h pins s σ H _ I hw) fun u s1 ⟨x,H1,I1,r1,q1⟩=>?_
 obtain ⟨i,rfl,q⟩:=q1
 obtain ⟨t,rfl⟩:=r1
 exact⟨some i,H1,I1,.int i t,q⟩
noncomputable def SlR (X:Cx) (r:V→Option Int→Option Int→Hp→VK→Prop):Prop :=
 ∀ (pins:List (Addr×Obj)) (s:Shared) (σ:St) (H:Hp) (x:V) (v vl vu:Value) (lo hi:Option Int) (sl:Addr) (Q:VK),Inv X pins σ H s→RelV x v→s.heap.IsSliceOf sl vl vu .none→IsPart vl lo→IsPart vu hi→r x lo hi H Q →
  ∃ T id,typeLookup (.type T) "__getitem__"=pure (some (.builtin id))∧s.TypeIs v T∧wpAny (model X.prog X.w) X.A (getItem v (.ref sl)) (EP X pins σ Q) X.xe s
noncomputable def tSl (r:V→Option Int→Option Int→Hp→VK→Prop) (te:TE) (tl th:TO):TE:=fun σ H Q=>te σ H fun x H1=>tl σ H1 fun l H2=>th σ H2 fun u H3=>r x l u H3 Q
theorem pe_slice {r:V→Option Int→Option Int→Hp→VK→Prop} (hr:SlR X r) (he:PE X e te) (hl:PO X lo tl) (hu:PO X hi th):PE X (.Subscript e (.Slice lo hi none p2) pos) (tSl r te tl th):=by
 intro pins s σ H Q I h
 refine Subscript_ (thn (he pins s σ H _ I h) fun v s1 ⟨x,H1,I1,r1,q1⟩=>?_)
 refine wpAny_Slice (thn (hl pins s1 σ H1 _ I1 q1) fun vl s2 ⟨l,H2,I2,pl,q2⟩=>thn (hu pins s2 σ H2 _ I2 q2) fun vu s3 ⟨u,H3,I3,pu,q3⟩=>?_)
 rw [evalPart_none]
 refine wpAny_pure ?_
 have I4:Inv X pins σ H3 { s3 with heap:=s3.heap.push { cls:=.type "slice",data:=.fields #[vl,vu,.none] } }:=I3.kept (t':=s3.toks) fun b ob q=>Heap.get?_push_of_some _ q
 obtain ⟨T,id,hT,ht,hg⟩:=hr pins { s3 with heap:=s3.heap.push { cls:=.type "slice",data:=.fields #[vl,vu,.none] } } σ H3 x v vl vu l u s3.heap.objs.size Q I4 r1 (Heap.IsSliceOf.new ..) pl pu q3
 show wpAny (model X.prog X.w) X.A (subscriptTail e (.Slice lo hi none p2) v (.ref s3.heap.objs.size)) (EP X pins σ Q) X.xe { s3 with heap:=s3.heap.push { cls:=.type "slice",data:=.fields #[vl,vu,.none] } }
 exact tail_any (ops:=[.ref s3.heap.objs.size,v]) ht hT hg (by with_unfolding_all rfl)
noncomputable def cutV (xs:List V) (lo hi:Option Int):List V:=(xs.drop (HT.sIx xs.length 0 lo)).take (HT.sIx xs.length xs.length hi - HT.sIx xs.length 0 lo)
theorem cutV_length (xs:List V) (lo hi:Option Int):(cutV xs lo hi).length≤xs.length:=by
 unfold cutV
 rw [List.length_take,List.length_drop]
 lia
noncomputable def rSlT (K:PySem.W.Frag):V→Option Int→Option Int→Hp→VK→Prop:=fun x lo hi H Q=>∃ a xs,x=.ref a∧SqT K H a xs ∧
 ¬ (HT.sIx xs.length 0 lo=0∧HT.sIx xs.length xs.length hi=xs.length)∧∀ p,H p=none→Q (.ref p) (upd H p (.tup (cutV xs lo hi)))
theorem sl_tup:SlR X (rSlT X.K):=by
 intro pins s σ H x v vl vu lo hi sl Q I rx hs pl pu h
 obtain ⟨a,xs,rfl,hx,hw,q⟩:=h
 cases rx
 obtain ⟨its,r,ht,hz⟩:=I.tuple hx
 have hlen:its.toArray.size=xs.length:=by rw [List.size_toArray];exact r.length.symm
 refine⟨"tuple",_,PyProof.Rows.slot_tuple_getitem.lookup,ht.typeIs,?_⟩
 refine HT.getItem_tuple_cut ht hs pl pu (by rw [hlen];exact hw) ?_ (by rw [hlen];exact hz)
 rw [hlen]
 refine⟨.ref s.heap.objs.size,_,I.laid (t':=s.toks) (o:=.tup (cutV xs lo hi)) (fun b ob q=>Heap.get?_push_of_some _ q) (Nat.le_refl _) ?_,rfl,q _ (I.hok.fresh (Nat.le_refl _))⟩
 exact⟨Nat.le_trans (cutV_length xs lo hi) hz,_,(r.drop (HT.sIx xs.length 0 lo)).take (HT.sIx xs.length xs.length hi - HT.sIx xs.length 0 lo),IsTup.new _ _⟩
noncomputable def rCatT (K:PySem.W.Frag):R2:=fun x y H Q=>∃ a b xs ys,x=.ref a∧y=.ref b∧SqT K H a xs∧SqT K H b ys∧xs≠[]∧xs.length+ys.length≤sizeLine ∧
 (ys=[]→Q (.ref a) H)∧(ys≠[]→∀ p,H p=none→Q (.ref p) (upd H p (.tup (xs++ys))))
theorem Vals.nil_iff {xs:List V} {us:List Value} (r:Vals xs us):us=[]↔xs=[]:=by
 cases r with
 | nil=>simp
 | cons _ _=>simp
theorem op_catT:OpR X (binaryOp .Add) (rCatT X.K):=by
 intro pins s σ H x y v u Q I rx ry h
 obtain ⟨a,b,xs,ys,rfl,rfl,ha,hb,hx,hz,q1,q2⟩:=h
 cases rx
 cases ry
 obtain ⟨its,r1,p1,_⟩:=I.tuple ha
 obtain ⟨its2,r2,p2,_⟩:=I.tuple hb
 refine HT.cat_tup p1 p2 (fun z=>hx (r1.nil_iff.mp z)) (fun z=>⟨.ref a,H,I,rfl,q1 (r2.nil_iff.mp z)⟩) (fun z=>?_) (by rw [← r1.length,← r2.length];exact hz)
 refine⟨.ref s.heap.objs.size,_,I.laid (t':=s.toks) (o:=.tup (xs++ys)) (fun b ob q=>Heap.get?_push_of_some _ q) (Nat.le_refl _) ?_,rfl,q2 (fun w=>z (r2.nil_iff.mpr w)) _ (I.hok.fresh (Nat.le_refl _))⟩
 exact⟨by rw [List.length_append];exact hz,_,r1.append r2,IsTup.new _ _⟩
end
end L2
namespace L2
open PySem PySem.Spec PyProof.Rows
noncomputable def ixN (n:Nat) (i:Int):Option Nat:=if 0≤i then (if i<n then some i.toNat else none) else if -(n:Int)≤i then some (i+n).toNat else none
noncomputable def atI {α:Type} (xs:List α) (i:Int):Option α:=(ixN xs.length i).bind fun j=>xs[j]?
theorem ixN_seq {n:Nat} {i:Int} {j:Nat} (h:ixN n i=some j):seqIndex? i n=some j∧j<n∧-(n:Int)≤i∧i<n:=by
 unfold ixN at h
 by_cases h0:0≤i
 ·rw [if_pos h0] at h
  by_cases h1:i<n
  ·rw [if_pos h1] at h
   have e:i.toNat=j:=Option.some.inj h
   exact⟨by rw [seqIndex_of h0 h1,e],by lia,by lia,h1⟩
  ·rw [if_neg h1] at h;cases h
 ·rw [if_neg h0] at h
  by_cases h1:-(n:Int)≤i
  ·rw [if_pos h1] at h
   have e:(i+n).toNat=j:=Option.some.inj h
   exact⟨by rw [seqIndex_neg (by lia) h1,e],by lia,h1,by lia⟩
  ·rw [if_neg h1] at h;cases h
theorem atI_get {α:Type} {xs:List α} {i:Int} {v:α} (h:atI xs i=some v):∃ j,seqIndex? i xs.length=some j∧xs[j]?=some v∧j<xs.length∧-(xs.length:Int)≤i∧i<xs.length:=by
 unfold atI at h
 cases e:ixN xs.length i with
 | none=>rw [e] at h;cases h
 | some j =>
  rw [e] at h
  obtain ⟨h1,h2,h3,h4⟩:=ixN_seq e
  exact⟨j,h1,h,h2,h3,h4⟩
theorem atI_nat {α:Type} {xs:List α} {j:Nat} {v:α} (h:xs[j]?=some v):atI xs (j:Int)=some v:=by
 have hj:j<xs.length:=(List.getElem?_eq_some_iff.mp h).1
 have e:ixN xs.length (j:Int)=some j:=by
  unfold ixN
  rw [if_pos (by lia),if_pos (by lia)];simp
 unfold atI;rw [e];exact h
noncomputable def PlainIx (b:Expr):Prop:=∀ o i,subscripted b false o i=operate [o,i] (getItem o i)
noncomputable def IxR (X:Cx) (r:R2):Prop :=
 ∀ (value slice:Expr) (pins:List (Addr×Obj)) (s:Shared) (σ:St) (H:Hp) (x y:V) (v u:Value) (Q:VK),Inv X pins σ H s→RelV x v→RelV y u→r x y H Q →
  subscripted slice false v u=operate [v,u] (getItem v u)→wpAny (model X.prog X.w) X.A (subscriptTail value slice v u) (EP X pins σ Q) X.xe s
noncomputable def MtR (X:Cx) (id:String) (r:V→List V→Hp→VK→Prop):Prop :=
 ∀ (pins:List (Addr×Obj)) (s:Shared) (σ:St) (H:Hp) (x:V) (xs:List V) (v:Value) (us:List Value) (Q:VK),Inv X pins σ H s→RelV x v→Vals xs us→r x xs H Q →
  wpAny (model X.prog X.w) X.A (call (.builtin id) (v::us)) (EP X pins σ Q) X.xe s
section
variable {X:Cx} {a b:Expr} {ta tb:TE} {pos:Pos}
theorem IxR.or {r r':R2} (h:IxR X r) (h':IxR X r'):IxR X (fun x y H Q=>r x y H Q∨r' x y H Q):=by
 intro value slice pins s σ H x y v u Q I rx ry q hs
 rcases q with q|q
 ·exact h value slice pins s σ H x y v u Q I rx ry q hs
 ·exact h' value slice pins s σ H x y v u Q I rx ry q hs
theorem pe_ix {r:R2} (hr:IxR X r) (ha:PE X a ta) (hb:PE X b tb) (hs:PlainIx b):PE X (.Subscript a b pos) (tOp r ta tb):=by
 intro pins s σ H Q I h
 exact Subscript_ (binT ha hb I h fun v u s2 x y H2 I2 rx ry q=>hr a b pins s2 σ H2 x y v u Q I2 rx ry q (hs _ _))
noncomputable def rIxL (K:PySem.W.Frag):R2:=fun x y H Q=>∃ p xs i v,x=.ref p∧y=.int i∧SqL K H p xs∧atI xs i=some v∧Q v H
noncomputable def rIxT (K:PySem.W.Frag):R2:=fun x y H Q=>∃ p xs i v,x=.ref p∧y=.int i∧SqT K H p xs∧atI xs i=some v∧Q v H
noncomputable def rIxS:R2:=fun x y H Q=>∃ z i c,x=.str z∧y=.int i∧z.length≤sizeLine∧atI z.cps.toList i=some c∧Q (.str ⟨#[c]⟩) H
theorem ix_list:IxR X (rIxL X.K):=by
 intro value slice pins s σ H x y v u Q I rx ry h hs
 obtain ⟨p,xs,i,z,rfl,rfl,hq,he,q⟩:=h
 cases rx
 obtain ⟨t,rfl⟩:=ry
 obtain ⟨its,r,pl,hz⟩:=I.list hq
 obtain ⟨j,h1,h2,h3,h4,h5⟩:=atI_get he
 obtain ⟨w,ew,rw'⟩:=r.get h2
 have hl:=r.length
 have hn:=line63
 have fin:EP X pins σ Q w s:=⟨z,H,I,rw',q⟩
 by_cases h0:0≤i
 ·have hj:i.toNat=j:=by
   rw [seqIndex_of h0 h5] at h1
   exact Option.some.inj h1
  exact item_listR pl.isList h0 (by lia) (by rw [hj];simpa using ew) fin hs
 ·have hj:(i+(its.toArray.size:Int)).toNat=j:=by
   rw [seqIndex_neg (by lia) h4] at h1
   rw [List.size_toArray,← hl]
   exact Option.some.inj h1
  exact subscriptTail_builtinR (x:=w) pl.isList.typeIs slot_list_getitem.lookup
   (wpAny_getItem_list_neg (Q:=fun r s'=>r=w∧EP X pins σ Q r s') pl.isList (by lia) (by rw [List.size_toArray] <;> lia) (by lia) (by rw [hj];simpa using ew) ⟨rfl,fin⟩) hs
theorem ix_tup:IxR X (rIxT X.K):=by
 intro value slice pins s σ H x y v u Q I rx ry h hs
 obtain ⟨p,xs,i,z,rfl,rfl,hq,he,q⟩:=h
 cases rx
 obtain ⟨t,rfl⟩:=ry
 obtain ⟨its,r,pl,hz⟩:=I.tuple hq
 obtain ⟨j,h1,h2,h3,h4,h5⟩:=atI_get he
 obtain ⟨w,ew,rw'⟩:=r.get h2
 have hl:=r.length
 have hn:=line63
 have fin:EP X pins σ Q w s:=⟨z,H,I,rw',q⟩
 exact subscriptTail_builtinR (x:=w) pl.typeIs slot_tuple_getitem.lookup
  (getItem_tuple (j:=j) (Q:=fun r s'=>r=w∧EP X pins σ Q r s') pl (by lia) (by lia) (by rw [List.size_toArray,← hl];exact h1) (by simpa using ew) ⟨rfl,fin⟩) hs
theorem ix_str:IxR X rIxS:=by
 intro value slice pins s σ H x y v u Q I rx ry h hs
 obtain ⟨z,i,c,rfl,rfl,hz,he,q⟩:=h
 obtain ⟨t,rfl⟩:=rx
 obtain ⟨t',rfl⟩:=ry
 obtain ⟨j,h1,h2,h3,h4,h5⟩:=atI_get he
 have hl:z.cps.toList.length=z.length:=by simp [Str.length]
 rw [hl] at h1 h4 h5
 have hn:=line63
 exact tail_any (typeIs_str s z t) slot_str_getitem.lookup (getItem_str (c:=c) (by
  have e1:decide (i < -(2 ^ 63:Int))=false:=decide_eq_false (by lia)
  have e2:decide (i ≥ 2 ^ 63)=false:=decide_eq_false (by lia)
  rw [e1,e2,Bool.or_false]) (by rw [h1];simpa using h2) ⟨.str ⟨#[c]⟩,H,I.tok _,⟨_,rfl⟩,q⟩) hs
noncomputable def rIx (K:PySem.W.Frag):R2:=fun x y H Q=>rIxL K x y H Q∨rIxT K x y H Q∨rIxS x y H Q
theorem ix_seq:IxR X (rIx X.K):=ix_list.or (ix_tup.or ix_str)
theorem slice_bounds (lo hi:Option Int) (n:Nat):(sliceBounds lo hi none n).1=((HT.sIx n 0 lo:Nat):Int)∧(sliceBounds lo hi none n).2.1=((HT.sIx n n hi:Nat):Int)∧(sliceBounds lo hi none n).2.2=1:=by
 refine⟨?_,?_,rfl⟩
 ·cases lo with
  | none=>simp [sliceBounds,HT.sIx]
  | some i =>
   simp only [sliceBounds,HT.sIx,Option.getD_none,show (1:Int) > 0 by decide,if_true]
   by_cases h:i<0
   ·simp only [h,if_true] <;> lia
   ·simp only [h,if_false] <;> lia
 ·cases hi with
  | none=>simp [sliceBounds,HT.sIx]
  | some i =>
   simp only [sliceBounds,HT.sIx,Option.getD_none,show (1:Int) > 0 by decide,if_true]
   by_cases h:i<0
   ·simp only [h,if_true] <;> lia
   ·simp only [h,if_false] <;> lia
theorem slicePick_cut (its:List Value) (lo hi:Option Int):slicePick its.toArray lo hi none=((its.drop (HT.sIx its.length 0 lo)).take (HT.sIx its.length its.length hi - HT.sIx its.length 0 lo)).toArray:=by
 obtain ⟨h1,h2,h3⟩:=slice_bounds lo hi its.toArray.size
 unfold slicePick
 rw [h1,h2,h3]
 simp only [sliceRange_one,pick_run,List.size_toArray] <;> rfl
noncomputable def rSlL (K:PySem.W.Frag):V→Option Int→Option Int→Hp→VK→Prop:=fun x lo hi H Q=>∃ a xs,x=.ref a∧SqL K H a xs∧∀ p,H p=none→Q (.ref p) (upd H p (.lst (cutV xs lo hi)))
theorem sl_list:SlR X (rSlL X.K):=by
 intro pins s σ H x v vl vu lo hi sl Q I rx hs pl pu h
 obtain ⟨a,xs,rfl,hx,q⟩:=h
 cases rx
 obtain ⟨its,r,ht,hz⟩:=I.list hx
 have hlen:=r.length
 refine⟨"list",_,slot_list_getitem.lookup,ht.isList.typeIs,?_⟩
 refine wpAny_getItem_list_slice ht.isList hs pl pu .none (by simp) ?_ (by rw [List.size_toArray] <;> lia)
 rw [slicePick_cut,← hlen]
 refine⟨.ref s.heap.objs.size,_,I.laid (t':=s.toks) (o:=.lst (cutV xs lo hi)) (fun b ob q=>Heap.get?_push_of_some _ q) (Nat.le_refl _) ?_,rfl,q _ (I.hok.fresh (Nat.le_refl _))⟩
 exact⟨Nat.le_trans (cutV_length xs lo hi) hz,_,0,(r.drop (HT.sIx xs.length 0 lo)).take (HT.sIx xs.length xs.length hi - HT.sIx xs.length 0 lo),Heap.get?_push_size _ rfl⟩
theorem call_len_seq:CallR X (.builtin "len") (fun xs H Q=>∃ p ys,xs=[.ref p]∧(SqL X.K H p ys∨SqT X.K H p ys)∧Q (.int ys.length) H):=by
 intro pins s σ H xs us Q I r h
 obtain ⟨p,ys,rfl,hq,q⟩:=h
 obtain ⟨u,rfl,rx⟩:=vals1 r
 cases rx
 have hn:=line63
 rcases hq with hq|hq
 ·obtain ⟨its,r',pl,hz⟩:=I.list hq
  have hlen:=r'.length
  exact Calls.call_len_list pl.isList (by simp only [List.size_toArray] <;> lia) ⟨.int ys.length,H,I.tok _,⟨s.toks+1,by rw [List.size_toArray,hlen]⟩,q⟩
 ·obtain ⟨its,r',pl,hz⟩:=I.tuple hq
  have hlen:=r'.length
  exact len_tuple pl (by simp only [List.size_toArray] <;> lia) ⟨.int ys.length,H,I.tok _,⟨s.toks+1,by rw [List.size_toArray,hlen]⟩,q⟩
theorem call_len_str:CallR X (.builtin "len") (fun xs H Q=>∃ z,xs=[.str z]∧z.length≤sizeLine∧Q (.int z.length) H):=by
 intro pins s σ H xs us Q I r h
 obtain ⟨z,rfl,hz,q⟩:=h
 obtain ⟨u,rfl,t,rfl⟩:=vals1 r
 have hn:=line63
 exact len_str (by lia) ⟨.int z.length,H,I.tok _,⟨_,rfl⟩,q⟩
theorem call_list_of:CallR X (.type "list") (fun xs H Q=>∃ p ys,xs=[.ref p]∧(SqL X.K H p ys∨SqT X.K H p ys)∧∀ l,H l=none→Q (.ref l) (upd H l (.lst ys))):=by
 intro pins s σ H xs us Q I r h
 obtain ⟨p,ys,rfl,hq,q⟩:=h
 obtain ⟨u,rfl,rx⟩:=vals1 r
 cases rx
 have fin:∀ (its:List Value),Vals ys its→ys.length≤sizeLine→∀ (h':Heap) (c':Nat),(∀ b o',s.heap.get? b=some o'→h'.get? b=some o') →
   h'.get? s.heap.objs.size=some { cls:=.type "list",dict:=none,data:=.seq its.toArray c',slots:=#[] }→EP X pins σ Q (.ref s.heap.objs.size) { s with heap:=h' }:=fun its r' hz h' c' kp e =>
  ⟨.ref s.heap.objs.size,_,I.laid (t':=s.toks) kp (Nat.le_refl _) (show ObjOk X.prog X.w _ h' _ (.lst ys) from ⟨hz,its,c',r',e⟩),rfl,q _ (I.hok.fresh (Nat.le_refl _))⟩
 rcases hq with hq|hq
 ·obtain ⟨its,r',pl,hz⟩:=I.list hq
  have hlen:=r'.length
  obtain ⟨o,ho,hc,n,hd⟩:=pl.isList
  exact call_list_seq p (.inl rfl) ho hc hd (fun h' c' kp e=>fin its r' hz h' c' kp e) (by simp only [List.size_toArray] <;> lia)
 ·obtain ⟨its,r',pl,hz⟩:=I.tuple hq
  have hlen:=r'.length
  obtain ⟨o,ho,hc,n,hd⟩:=pl
  exact call_list_seq p (.inr rfl) ho hc hd (fun h' c' kp e=>fin its r' hz h' c' kp e) (by simp only [List.size_toArray] <;> lia)
theorem call_tuple_of:CallR X (.type "tuple") (fun xs H Q=>∃ p ys,xs=[.ref p]∧((SqL X.K H p ys∧∀ l,H l=none→Q (.ref l) (upd H l (.tup ys)))∨(SqT X.K H p ys∧Q (.ref p) H))):=by
 intro pins s σ H xs us Q I r h
 obtain ⟨p,ys,rfl,h⟩:=h
 obtain ⟨u,rfl,rx⟩:=vals1 r
 cases rx
 rcases h with ⟨hq,q⟩|⟨hq,q⟩
 ·obtain ⟨its,r',pl,hz⟩:=I.list hq
  have hlen:=r'.length
  refine call_tuple_list pl.isList (fun h' kp=>?_) (by simp only [List.size_toArray] <;> lia)
  have I1:Inv X pins σ H { s with heap:=h' }:=I.kept (t':=s.toks) kp
  have I2:Inv X pins σ (upd H h'.objs.size (.tup ys)) { s with heap:=h'.push { cls:=.type "tuple",data:=.seq its.toArray } } :=
   I1.laid (t':=s.toks) (fun b o e=>Heap.get?_push_of_some _ e) (Nat.le_refl _) (show ObjOk X.prog X.w _ _ _ (.tup ys) from ⟨hz,its,r',IsTup.new _ _⟩)
  exact⟨.ref h'.objs.size,_,I2,rfl,q _ (I1.hok.fresh (Nat.le_refl _))⟩
 ·obtain ⟨its,r',pl,hz⟩:=I.tuple hq
  exact call_tuple_same pl ⟨.ref p,H,I,rfl,q⟩
noncomputable def tyV (K:PySem.W.Frag) (T:String) (x:V) (H:Hp):Prop:=match x with
 | .str _=>T = "str"
 | .int _=>T = "int"
 | .ref p=>(T = "list"∧∃ xs,SqL K H p xs)∨(T = "tuple"∧∃ o,K.lookup p=some o∧o.cls=.type "tuple"∧o.dict=none) ∨
   (T = "dict"∧((∃ kvs,H p=some (.dK kvs))∨∃ kvs,H p=some (.dT kvs)))∨(T = "set"∧∃ S n,H p=some (.set S n))
 | _=>False
theorem tyV_is {pins:List (Addr×Obj)} {σ:St} {H:Hp} {s:Shared} {T:String} {x:V} {v:Value} (I:Inv X pins σ H s) (r:RelV x v) (ty:tyV X.K T x H) :
  s.TypeIs v T∧∀ a,v=.ref a→∃ ob,s.heap.get? a=some ob∧ob.dict=none:=by
 cases x with
 | str z =>
  obtain ⟨t,rfl⟩:=r
  cases (show T = "str" from ty)
  exact⟨typeIs_str s z t,fun _ e=>nomatch e⟩
 | int i =>
  obtain ⟨t,rfl⟩:=r
  cases (show T = "int" from ty)
  exact⟨typeIs_int s i t,fun _ e=>nomatch e⟩
 | ref p =>
  cases r
  rcases ty with ⟨rfl,xs,hq⟩|⟨rfl,o,hk,hc,hd⟩|⟨rfl,hk⟩|⟨rfl,S,n,hk⟩
  ·obtain ⟨its,_,pl,_⟩:=I.list hq
   refine⟨pl.isList.typeIs,fun a e=>?_⟩
   cases e
   obtain ⟨o,n,e,c,hd,_⟩:=pl
   exact⟨o,e,hd⟩
  ·refine⟨⟨o,I.kIn p o hk,hc⟩,fun a e=>?_⟩
   cases e
   exact⟨o,I.kIn _ o hk,hd⟩
  ·have z:∃ o,s.heap.get? p=some o∧o.ExactDict:=by
    rcases hk with ⟨kvs,hk⟩|⟨kvs,hk⟩
    ·obtain ⟨_,_,_,_,o,_,_,e,ex,_⟩:=I.hok p _ hk
     exact⟨o,e,ex⟩
    ·obtain ⟨_,_,_,_,o,_,_,e,ex,_⟩:=I.hok p _ hk
     exact⟨o,e,ex⟩
   obtain ⟨o,e,ex⟩:=z
   refine⟨⟨o,e,ex.1⟩,fun a e2=>?_⟩
   cases e2
   exact⟨o,e,ex.2.1⟩
  ·obtain ⟨o,_,_,_,e,ex,_⟩:=I.hok p _ hk
   refine⟨⟨o,e,ex.1⟩,fun a e2=>?_⟩
   cases e2
   exact⟨o,e,ex.2.1⟩
 | _=>exact False.elim ty
noncomputable def tBM0 (K:PySem.W.Frag) (T:String) (r:V→List V→Hp→VK→Prop) (to:TE):TE:=fun σ H Q=>to σ H fun x H1=>tyV K T x H1∧r x [] H1 Q
noncomputable def tBM (K:PySem.W.Frag) (T:String) (r:V→List V→Hp→VK→Prop) (to:TE) (t:TA):TE:=fun σ H Q=>to σ H fun x H1=>tyV K T x H1∧t σ H1 fun xs H2=>r x xs H2 Q
variable {o e:Expr} {es:List Expr} {to:TE} {t:TA} {name:Str} {apos cpos:Pos} {T id:String} {r:V→List V→Hp→VK→Prop}
theorem pe_bm0 (pa:PlainAttrs T) (slot:Slot T name id) (hty:typeOf (.builtin id)=pure (.type "method_descriptor")) (hm:MtR X id r) (ho:PE X o to)
  (hbase:attributeBase o name X.env (eval o X.env)=eval o X.env:=by rfl) (hline:(apos.endLine == cpos.line)=true:=by rfl):PE X (.Call (.Attribute o name apos) [] [] cpos) (tBM0 X.K T r to):=by
 intro pins s σ H Q I h
 refine wpAny_Call_method0_late hbase hline (thn (ho pins s σ H _ I h) fun v s1 ⟨x,H1,I1,r1,ty,q1⟩=>?_)
 obtain ⟨h1,h2⟩:=tyV_is I1 r1 ty
 exact⟨T,id,pa,slot,hty,h1,h2,Calls.callWith_builtin rfl (PySem.evalArgs_none (hm pins s1 σ H1 x [] v [] Q I1 r1 .nil q1))⟩
theorem pe_bm (pa:PlainAttrs T) (slot:Slot T name id) (hty:typeOf (.builtin id)=pure (.type "method_descriptor")) (hm:MtR X id r) (ho:PE X o to) (ha:PA X (e::es) t)
  (hbase:attributeBase o name X.env (eval o X.env)=eval o X.env:=by rfl)
  (hfew:((backTo cpos (starEach (e::es) X.env)).all (fun x=>!x.1) && (backToKw cpos (keywordEach [] X.env)).all (fun x=>x.1.isSome)
   && decide ((e::es).length+([]:List Keyword).length+(if ([]:List Keyword).isEmpty then 0 else 1)<30))=true:=by rfl)
  (hline:(apos.endLine == cpos.line)=true:=by rfl) (hs:starEach (e::es) X.env=(false,eval e X.env)::starEach es X.env:=by rfl) (hplain:(backTo cpos (starEach es X.env)).any (·.1)=false:=by rfl) :
  PE X (.Call (.Attribute o name apos) (e::es) [] cpos) (tBM X.K T r to t):=by
 intro pins s σ H Q I h
 refine wpAny_Call_method_late hbase hfew hline rfl (thn (ho pins s σ H _ I h) fun v s1 ⟨x,H1,I1,r1,ty,q1⟩=>?_)
 obtain ⟨h1,h2⟩:=tyV_is I1 r1 ty
 refine⟨T,id,pa,slot,hty,h1,h2,?_⟩
 have hA:=ha cpos pins s1 σ H1 _ I1 q1
 rw [hs] at hA ⊢
 refine Calls.callWith_builtin (by show (false || (backTo cpos (starEach es X.env)).any (·.1))=false;rw [hplain] <;> rfl) (Calls.evalArgs_plain ?_)
 exact thn hA fun us s2 ⟨vs,H2,I2,r2,q2⟩=>hm pins s2 σ H2 x vs v us Q I2 r1 r2 q2
/- xs.append(e),list.index on a module's tuple .. are MtR facts of 06m -/
end
end L2
namespace L2
open PySem PySem.Spec PyProof.Rows
noncomputable def MtM (X:Cx) (id:String) (r:V→List V→Hp→VK→Prop):Prop :=
 ∀ (pins:List (Addr×Obj)) (s:Shared) (σ:St) (H:Hp) (x:V) (xs:List V) (v:Value) (us:List Value) (Q:VK),Inv X pins σ H s→RelV x v→Vals xs us→r x xs H Q →
  wpAny (model X.prog X.w) X.A (call (.builtin id) (v::us)) (EP X pins σ Q) X.xe s
theorem Vals.one:∀ {x:V} {us:List Value},Vals [x] us→∃ u,us=[u]∧RelV x u
 | _,_,.cons r .nil=>⟨_,rfl,r⟩
theorem Vals.rep {xs:List V} {us:List Value} (h:Vals xs us):∀ k:Nat,Vals (List.replicate k xs).flatten (List.replicate k us).flatten
 | 0=>.nil
 | k+1=>by
  rw [List.replicate_succ,List.replicate_succ,List.flatten_cons,List.flatten_cons]
  exact Vals.append h (Vals.rep h k)
section
variable {X:Cx} {pins:List (Addr×Obj)} {σ:St} {H:Hp} {s:Shared} {l b:Addr} {xs ys zs:List V}
theorem Inv.lset {its its':List Value} {n:Nat} {f:Array Value→Array Value} {t':Nat} (I:Inv X pins σ H s) (hH:H l=some (.lst xs))
  (e:s.heap.get? l=some { cls:=.type "list",data:=.seq its.toArray n }) (hf:f its.toArray=its'.toArray) (hv:Vals ys its') (hz:ys.length≤sizeLine) :
  Inv X pins σ (upd H l (.lst ys)) { s with heap:=s.heap.update l (Obj.mapSeq f),toks:=t' }:=by
 have q:=PySem.IsL.update e f
 rw [hf] at q
 refine I.write (x:=l) (e:=l) (by rw [hH];exact trivial) (.inl rfl) (fun b' u hb hu=>(Heap.get?_update_other s.heap (Obj.mapSeq f) (Ne.symm hb)).trans hu) ⟨_,q⟩ ?_
 exact⟨hz,its',_,hv,q⟩
theorem Inv.lnew {its:List Value} {t':Nat} (I:Inv X pins σ H s) (hv:Vals ys its) (hz:ys.length≤sizeLine) :
  Inv X pins σ (upd H s.heap.objs.size (.lst ys)) { s with heap:=s.heap.push { cls:=.type "list",data:=.seq its.toArray },toks:=t' } :=
 I.laid (fun _ _ q=>Heap.get?_push_of_some _ q) (Nat.le_refl _) ⟨hz,its,0,hv,Heap.get?_push_size _ rfl⟩
theorem Inv.lstM (I:Inv X pins σ H s) (hH:H l=some (.lst xs)):xs.length≤sizeLine∧∃ (its:List Value) (n:Nat),Vals xs its∧xs.length=its.length∧s.heap.get? l=some { cls:=.type "list",data:=.seq its.toArray n }:=by
 obtain ⟨z,its,n,r,e⟩:=I.hok l _ hH
 exact⟨z,its,n,r,r.length,e⟩
theorem notLongL {n:Nat} (h:n≤sizeLine):Builtin.List.listTooLong n=false:=by
 unfold Builtin.List.listTooLong
 exact decide_eq_false (by lia)
end
section
variable {X:Cx}
noncomputable def rAppend:V→List V→Hp→VK→Prop:=fun x vs H Q=>∃ l xs y,x=.ref l∧vs=[y]∧H l=some (.lst xs)∧xs.length<sizeLine∧Q .non (upd H l (.lst (xs++[y])))
theorem mt_append:MtM X "list.append" rAppend:=by
 intro pins s σ H x vs v us Q I rx rv h
 obtain ⟨l,xs,y,rfl,rfl,hH,hz,q⟩:=h
 cases rx
 obtain ⟨u,rfl,ru⟩:=rv.one
 obtain ⟨z,its,n,r,hl,e⟩:=I.lstM hH
 refine call_meets F.slot_list_append ⟨_,e,rfl⟩ F.entry_list_append (F.args_list_append_2 _ _) (PySem.list_append l its.toArray n u (by rw [List.size_toArray];lia)) ⟨e,?_⟩
 refine⟨.non,_,I.lset (its':=its++[u]) hH e (by simp) (r.append (.cons ru .nil)) ?_,rfl,q⟩
 rw [List.length_append,List.length_singleton]
 lia
end
end L2
namespace Att
open PySem PySem.W PySem.Calls PyProof.Rows
theorem ints_of_wellAll {P:Params} {h:Heap}:∀ (ns:List Int) (vs:List Value),WellAll P h vs (ns.map WData.int)→IntsAre vs ns:=by
 intro ns
 induction ns with
 | nil =>
  intro vs w
  rw [List.map_nil] at w
  cases w
  exact .nil
 | cons n ns ih =>
  intro vs w
  rw [List.map_cons] at w
  cases w with
  | cons a b =>
   cases a
   exact .cons _ _ (ih _ b)
theorem script_of {l:OpenLaw} {n:Nat} (hn:l.most=some n) {P:Params} {h:Heap} {args:List WData} {vals:List Value}
  (hpre:l.row.toRowW.claim.pre args=true) (hwl:WellAll P h vals args) :
  ∃ a vs ns,vals=[Value.ref a]∧args=[WData.list (ns.map WData.int)]∧h.get? a=some { cls:=.type "list",data:=.seq vs.toArray }∧IntsAre vs ns∧ns.length≤n:=by
 have hsh:WShape.hasAll [] args [.list .int]=true:=(pre_splitW hpre).1
 have hc:l.pre.holds [] { args:=args }=true:=(pre_splitW hpre).2
 obtain ⟨d,r,rfl,h1,h2⟩:=hasAllW_cons hsh
 obtain rfl:=hasAllW_nil h2
 obtain ⟨xs,rfl,h3⟩:=hasW_list h1
 obtain ⟨ns,rfl⟩:=items_int h3
 have hlen:ns.length≤n:=by
  unfold OpenLaw.pre at hc
  have h4:(WTm.not (.lt (.lit (.int (n:Int))) (.len (.arg 0)))).holds [] { args:=[.list (ns.map .int)] }=true:=by
   have h4:=(holds_andW hc).1
   rw [hn] at h4
   exact h4
  have h5:=condW_of h4 (w_not (w_lt w_lit (w_len_list (w_arg rfl))))
  rw [List.length_map] at h5
  refine Nat.le_of_not_lt fun q=>?_
  have q':(n:Int)<((ns.length:Nat):Int):=by lia
  first
   | (rw [decide_eq_true q'] at h5;exact absurd h5 (by decide))
   | (simp at h5;lia)
 cases hwl with
 | cons w1 w2 =>
  cases w2
  cases w1 with
  | list ho hall=>exact⟨_,_,ns,rfl,rfl,ho,ints_of_wellAll ns _ hall,hlen⟩
theorem post_true (l:OpenLaw) (args:List WData):l.row.toRowW.claim.post args (.bool true) args=true :=
 postW_of (r:=l.row.toRowW) (X:=(true == true))
  (show WShape.has [] (.bool true) .bool=true by first|rfl|decide|simp [WShape.has,WShape.arms,WShape.armsAll])
  (show (WTm.eq .res (.lit (.bool true))).value [] { args:=args,res:=some (.bool true),after:=args }=some (.bool (true == true)) from w_eq_bool (w_res rfl) w_lit) rfl
theorem attach_call {l:OpenLaw} {n:Nat} {q:Program} {loose:List Str} {XP:(Str→Option Value)→Heap→Prop} {YP:World→Heap→Prop} {d:DefRec}
  (hn:l.most=some n) (hdf:d.params.defaults=[])
  (call:∀ (w:World) (s₀ s₁:Shared) (mg mb:Str→Option Value) (fa:Addr) (o:Obj) (pm cd doc:Value) (a:Addr) (vs:List Value) (ns:List Int),
   Ground q loose [] XP w s₀ mg mb s₁.heap→YP w s₁.heap →
   s₁.heap.get? fa=some o→o.data=.func (docDef d.name d.params d.body d.scope pm cd doc)→s₁.heap.CodeRec cd d.name→mg d.name=some (.ref fa) →
   s₁.heap.get? a=some { cls:=.type "list",data:=.seq vs.toArray }→IntsAre vs ns→ns.length≤n→s₁.gens=#[] →
   codeAny (model l.prog w) callerA (.call (.ref fa) ⟨[.ref a],[]⟩) (fun r s'=>r=.ok (.ret (.bool true))∧OldK s₁.heap s'.heap∧s'.os=s₁.os∧AllBare s'.gens) s₁) :
  WalkO q loose XP YP l.row.toRowW d [] (fun f vs=>PySem.call f vs):=by
 intro w s₀ s₁ mg mb G Y fa o pm cd doc dV kV ho hd hcd hD hmg hg args vals as hpre hlay hrd hwl hlo
 obtain rfl:dV=.none:=Dflts.none hD hdf
 obtain rfl:kV=.none:=Dflts.noKw hD
 obtain ⟨a,vs,ns,rfl,rfl,hobj,hints,hlen⟩:=script_of hn hpre hwl
 refine enter_call (codeAny_mono (call w s₀ s₁ mg mb fa o pm cd doc a vs ns G Y ho (fd_plain hd) hcd hmg hobj hints hlen hg) fun r s' hq=>?_)
 obtain ⟨rfl,h2,h3,h4⟩:=hq
 exact⟨.inl ⟨.bool true,.bool true,[],rfl,fun _=>rfl,.bool true,post_true l _,fun _=>⟨List.Pairwise.nil,fun _ hm=>(nomatch hm)⟩⟩,h2,h3,h4⟩
section
variable {prog:Program} {w:World} {A:Around} {E:Value→Shared→Prop} {s:Shared} {K:Frag}
noncomputable def noObjs (h:Heap):Heap:={ h with objs:=#[] }
theorem noObjs_get (h:Heap) (b:Addr):(noObjs h).get? b=none:=by
 cases e:(noObjs h).get? b with
 | none=>rfl
 | some o=>exact absurd (Heap.lt_size e) (Nat.not_lt_zero _)
noncomputable def ledger (h:Heap) (L d:Addr):List (Addr×Obj):=(List.range h.objs.size).filterMap fun a=>if a=L∨a=d then none else (h.get? a).map fun o=>(a,o)
theorem mem_ledger {h:Heap} {L d a:Addr} {o:Obj}:(a,o)∈ledger h L d↔a≠L∧a≠d∧h.get? a=some o:=by
 unfold ledger
 rw [List.mem_filterMap]
 constructor
 ·rintro ⟨b,_,e⟩
  split at e
  ·cases e
  ·rename_i hb
   obtain ⟨o',ho,e'⟩:=Option.map_eq_some_iff.mp e
   cases e'
   exact⟨fun q=>hb (.inl q),fun q=>hb (.inr q),ho⟩
 ·rintro ⟨n1,n2,ho⟩
  refine⟨a,List.mem_range.mpr (Heap.lt_size ho),?_⟩
  rw [if_neg (show ¬ (a=L∨a=d) from fun q=>q.elim n1 n2),ho] <;> rfl
theorem news_ledger {h:Heap} {L d:Addr} {od:Obj} (hne:d≠L) (ho:h.get? d=some od):News (noObjs h) L h ([]++(d,od)::ledger h L d):=by
 rintro ⟨a,o⟩ hp
 rcases List.mem_cons.mp hp with e|hp
 ·cases e
  exact⟨ho,hne,noObjs_get _ _⟩
 ·obtain ⟨n1,n2,e⟩:=mem_ledger.mp hp
  exact⟨e,n1,noObjs_get _ _⟩
theorem fr_all {h:Heap} {L:Addr} {m:Str→Option Value} (n:h.Ns L m):Fr (noObjs h) L h m :=
 ⟨n,fun b o e=>(by rw [noObjs_get] at e;cases e),Nat.zero_le _⟩
theorem set_field {x C dx L:Addr} {ox:Obj} {m:Str→Option Value} {es es':List DictEntry} {n n':Nat} {name:Str} {v:Value} {Q:Unit→Shared→Prop}
  (X:K.In s.heap) (I:PySem.W.InstAt s.heap x ox C (some (dictOf es n))) (hd:ox.dict=some dx) (hL:s.heap.Ns L m) (hne:dx≠L)
  (hs:findIn K (.ref C) "__setattr__"=some (some (.builtin "object.__setattr__"))) (hp:plainOver K C=true) (ht:takerIn K C name=some none) (hh:hasDictIn K C=true) (hl:(getL name es).isSome=true)
  (e:(putL name (PyData.keyHash w.params name) (.str name (s.toks+1)) v es,putN name es n)=(es',n')) (hz:es'.length≤1000)
  (h:∀ h':Heap,h'.Ns L m→h'.get? dx=some (dictOf es' n')→(∀ b o,b≠dx→b≠L→s.heap.get? b=some o→h'.get? b=some o)→Q () { s with heap:=h',toks:=s.toks+2 }) :
  wpAny (model prog w) A (setAttr (.ref x) name v) Q E s:=by
 obtain ⟨e1,e2⟩:=Prod.mk.inj e
 have hdx:s.heap.get? dx=some (dictOf es n):=by
  have:=I.dict
  rw [hd] at this
  exact this
 refine set_plain X I hs (osa_dict (s:={ s with toks:=s.toks+1 }) (h₀:=noObjs s.heap) (L:=L) (m:=m) (od:=dictOf es n) (od':=dictOf es' n') (es:=es') (n:=n') (pre:=[]) (post:=ledger s.heap L dx)
  (fr_all hL) (news_ledger hne hdx) X I hd hp ht hh hl (fun _ q=>nomatch q) (fun ⟨_,_⟩ q=>(mem_ledger.mp q).2.1) (by rw [putName_dict,e1,e2]) rfl hz fun h' F' N'=>?_)
 exact h h' F'.ns (N'.get (List.Mem.head _)) fun b o n1 n2 ho=>N'.get (List.Mem.tail _ (mem_ledger.mpr ⟨n2,n1,ho⟩))
end
end Att
namespace L2
open PySem PySem.Spec PyProof.Rows
theorem vals_ints:∀ {vs:List Value} {ns:List Int},IntsAre vs ns→Vals (ns.map V.int) vs
 | _,_,.nil=>.nil
 | _,_,.cons n t h=>.cons ⟨t,rfl⟩ (vals_ints h)
noncomputable def Only (H:Hp):Prop:=∀ b,H b=none∨∃ o xs,H b=some (.frz o (.lst xs))
theorem law_call {P:Program} {w:World} {K:PySem.W.Frag} {mg mb:Str→Option Value} {CX:CXT} {k:Nat} {fa a:Addr} {fd:FuncData} {x:Str} {sp:Sp} {s₁:Shared} {vs:List Value} {ns:List Int}
  (KX:K.In s₁.heap) (hns:s₁.heap.Ns mainGlobals mg) (hb:s₁.heap.Ns builtinsNs mb) (hbb:∀ x:Str,x≠"__name__"→mb x=bootBuiltins x) (hlim:s₁.heap.NoLimit) (hg:s₁.gens=#[])
  (ha:s₁.heap.get? a=some { cls:=.type "list",data:=.seq vs.toArray }) (hi:IntsAre vs ns) (hl:ns.length≤sizeLine) (hr:Room k callerA)
  (F:∀ base:Heap,K.In base→base.Ns mainGlobals mg→FnOk P w K mg base CX k fa fd [x] sp) (hbind:∀ (s:Shared) (u:Value),BindsTo s fd ⟨[u],[]⟩ [(x,u)])
  (hsp:∀ H:Hp,Only H→SqL K H a (ns.map V.int)→sp [.ref a] H (fun v _=>v=.bl true) fun _ _ _=>False)
  (hCX:∀ H e s',CX [] H s₁ (fun _ _ _=>False) e s'→False) :
  codeAny (model P w) callerA (.call (.ref fa) ⟨[.ref a],[]⟩) (fun r s'=>r=.ok (.ret (.bool true))∧OldK s₁.heap s'.heap∧s'.os=s₁.os∧AllBare s'.gens) s₁:=by
 have rv:=vals_ints hi
 have lenV:=hi.length
 have core:∀ H:Hp,Only H→SqL K H a (ns.map V.int)→HOk P w H s₁.heap→(∀ b,H b≠none→b=a)→(H a≠none→K.lookup a=none) →
   codeAny (model P w) callerA (.call (.ref fa) ⟨[.ref a],[]⟩) (fun r s'=>r=.ok (.ret (.bool true))∧OldK s₁.heap s'.heap∧s'.os=s₁.os∧AllBare s'.gens) s₁:=by
  intro H hO hS hok hA hK
  have base_of:∀ {b:Addr} {o:Obj},s₁.heap.get? b=some o→H b=none→(hidT s₁.heap H).get? b=some o:=fun e n=>hidT_get e n
  have noA:∀ {b:Addr} {o:Obj} {es:Array DictEntry} {ep:Nat},s₁.heap.get? b=some o→o.data=.dict es ep→H b=none:=fun {b o es ep} e d=>by
   cases q:H b with
   | none=>rfl
   | some u =>
    have e':b=a:=hA b (by rw [q];simp)
    subst e'
    rw [ha] at e;cases e
    have d':Data.seq vs.toArray _=Data.dict es ep:=d
    cases d'
  have nsK:∀ {b:Addr} {m:Str→Option Value},s₁.heap.Ns b m→(hidT s₁.heap H).Ns b m:=fun {b m} ⟨o,es,ep,e,d,r⟩=>⟨o,es,ep,base_of e (noA e d),d,r⟩
  have hKb:K.In (hidT s₁.heap H):=fun b o e=>base_of (KX b o e) (by
   cases q:H b with
   | none=>rfl
   | some u =>
    have e':b=a:=hA b (by rw [q];simp)
    subst e'
    rw [hK (by rw [q];simp)] at e;cases e)
  have hM:Mod K mg (hidT s₁.heap H):=⟨hKb,nsK hns,⟨mb,nsK hb,hbb⟩,let ⟨mc,h1,h2⟩:=hlim;⟨mc,nsK h1,h2⟩⟩
  have e0:Env0 P w K mg (hidT s₁.heap H) callerA [] s₁ H:=⟨rfl,hM,fun b o e=>of_hidT e,Nat.le_of_eq (hidT_size _ _),trivial,fun b hb=>absurd (show b∈([]:List Addr) from hb) (by simp),hok,.of_eq hg⟩
  refine codeAny_mono ((F _ hKb (nsK hns)).run callerA [] s₁ H ⟨[.ref a],[]⟩ [.ref a] [.ref a] _ _ hr e0 (hbind s₁ (.ref a)) (.cons rfl .nil) (hsp H hO hS)) fun r s' h=>?_
  cases r with
  | error e=>exact (hCX H e s' h).elim
  | ok fl =>
   cases fl with
   | next=>exact False.elim h
   | brk=>exact False.elim h
   | cont=>exact False.elim h
   | ret u =>
    obtain ⟨v,H',os,bare,un,hok',r',q⟩:=h
    have q':v=.bl true:=q
    subst q'
    obtain rfl:u=Value.bool true:=r'
    refine⟨rfl,OldK.of_keep fun b o e=>?_,os,bare⟩
    cases q:H b with
    | none=>exact un.keep b o e q (by intro z;exact absurd (show b∈([]:List Addr) from z) (by simp)) (by simp)
    | some u =>
     rcases hO b with z|⟨ob,xs,z⟩
     ·rw [q] at z;cases z
     ·have z2:=un.frzs b ob _ z
      obtain ⟨e1,_⟩:=hok b _ z
      obtain ⟨e2,_⟩:=hok' b _ z2
      rw [e] at e1;cases e1
      exact e2
 cases hk:K.lookup a with
 | some o =>
  have e:=KX a o hk
  rw [ha] at e
  cases e
  refine core (fun _=>none) (fun _=>.inl rfl) (.inr ⟨_,vs.toArray,_,hk,rfl,rfl,rfl,by rw [List.size_toArray,lenV];exact hl,by simpa using rv⟩) (fun b u z=>by have z':(none:Option HO)=some u:=z;cases z') (fun b z=>absurd rfl z) fun z=>absurd rfl z
 | none =>
  refine core (fun b=>if b=a then some (.frz { cls:=.type "list",data:=.seq vs.toArray } (.lst (ns.map V.int))) else none) (fun b=>?_) (.inl (.inr ⟨{ cls:=.type "list",data:=.seq vs.toArray },if_pos rfl⟩)) (fun b u z=>?_) (fun b z=>?_) fun _=>hk
  ·by_cases hb:b=a
   ·exact .inr ⟨_,_,if_pos hb⟩
   ·exact .inl (if_neg hb)
  ·by_cases hb:b=a
   ·have z':=(if_pos hb).symm.trans z
    cases z'
    subst hb
    exact⟨ha,by rw [List.length_map];exact hl,vs,_,rv,ha⟩
   ·have z':=(if_neg hb).symm.trans z
    cases z'
  ·by_cases hb:b=a
   ·exact hb
   ·exact absurd (if_neg hb) z
end L2
namespace L2
open PySem PySem.Spec PyProof.Rows
theorem walk_of {l:PySem.W.OpenLaw} {n k:Nat} {q:Program} {loose:List Str} {XP:(Str→Option Value)→Heap→Prop} {YP:World→Heap→Prop} {d:DefRec} {K:Params→PySem.W.Frag} {CX:World→CXT} {sp:World→Sp} {x:Str}
  (hn:l.most=some n) (hn2:n≤sizeLine) (hdf:d.params.defaults=[]) (hr:Room k callerA)
  (hY:∀ (w:World) (h:Heap),YP w h→(K w.params).In h)
  (F:∀ (w:World) (mg:Str→Option Value) (fa:Addr) (h:Heap),(K w.params).In h→h.Ns mainGlobals mg→mg d.name=some (.ref fa) →
   ∃ fd:FuncData,(∀ (s:Shared) (u:Value),BindsTo s fd ⟨[u],[]⟩ [(x,u)]) ∧
    ∀ base:Heap,(K w.params).In base→base.Ns mainGlobals mg→FnOk l.prog w (K w.params) mg base (CX w) k fa fd [x] (sp w))
  (hsp:∀ (w:World) (H:Hp) (a:Addr) (ns:List Int),ns.length≤n→Only H→SqL (K w.params) H a (ns.map V.int)→sp w [.ref a] H (fun v _=>v=.bl true) fun _ _ _=>False)
  (hCX:∀ (w:World) (H:Hp) (s:Shared) (e:Value) (s':Shared),CX w [] H s (fun _ _ _=>False) e s'→False) :
  PySem.W.WalkO q loose XP YP l.row.toRowW d [] (fun f vs=>PySem.call f vs):=by
 refine Att.attach_call hn hdf fun w s₀ s₁ mg mb fa o pm cd doc a vs ns G Y ho hd hcd hmg hobj hints hlen hg=>?_
 have KX:=hY w _ Y
 obtain ⟨fd,hb,hF⟩:=F w mg fa _ KX G.T.g hmg
 exact law_call KX G.T.g G.T.b G.T.builtins G.T.nolimit hg hobj hints (Nat.le_trans hlen hn2) hr hF hb (fun H hO hS=>hsp w H a ns hlen hO hS) fun H e s'=>hCX w H s₁ e s'
theorem walk_ofK {l:PySem.W.OpenLaw} {n k:Nat} {q:Program} {loose:List Str} {XP:(Str→Option Value)→Heap→Prop} {YP:World→Heap→Prop} {d:DefRec} {K:Params→PySem.W.Frag} {CX:CXT} {sp:PySem.W.Frag→Sp} {x:Str}
  (hn:l.most=some n) (hn2:n≤sizeLine) (hdf:d.params.defaults=[]) (hr:Room k callerA)
  (hY:∀ (w:World) (h:Heap),YP w h→(K w.params).In h)
  (F:∀ (w:World) (mg:Str→Option Value) (fa:Addr) (h:Heap),(K w.params).In h→h.Ns mainGlobals mg→mg d.name=some (.ref fa) →
   ∃ fd:FuncData,(∀ (s:Shared) (u:Value),BindsTo s fd ⟨[u],[]⟩ [(x,u)]) ∧
    ∀ base:Heap,(K w.params).In base→base.Ns mainGlobals mg→FnOk l.prog w (K w.params) mg base CX k fa fd [x] (sp (K w.params)))
  (hsp:∀ (K:PySem.W.Frag) (H:Hp) (a:Addr) (ns:List Int),ns.length≤n→Only H→SqL K H a (ns.map V.int)→sp K [.ref a] H (fun v _=>v=.bl true) fun _ _ _=>False)
  (hCX:∀ (H:Hp) (s:Shared) (e:Value) (s':Shared),CX [] H s (fun _ _ _=>False) e s'→False) :
  PySem.W.WalkO q loose XP YP l.row.toRowW d [] (fun f vs=>PySem.call f vs) :=
 walk_of (K:=K) (CX:=fun _=>CX) (sp:=fun w=>sp (K w.params)) hn hn2 hdf hr hY F (fun w H a ns h1 h2 h3=>hsp (K w.params) H a ns h1 h2 h3) fun _ H s e s'=>hCX H s e s'
end L2
namespace L2
open PySem PySem.Spec PyProof.Rows
noncomputable def defArgs (s:Stmt):Arguments:=match s with
 | .FunctionDef _ a _ _ _ _ _ _ _ _=>a
 | _=>{ posonlyargs:=[],args:=[],vararg:=none,kwonlyargs:=[],kw_defaults:=[],kwarg:=none,defaults:=[] }
noncomputable def defBody (s:Stmt):List Stmt:=match s with
 | .FunctionDef _ _ b _ _ _ _ _ _ _=>b
 | _=>[]
noncomputable def defScope (s:Stmt):Scope:=match s with
 | .FunctionDef _ _ _ _ _ _ sc _ _ _=>sc
 | _=>{ kind:=.function,names:=[],isGenerator:=false,isCoroutine:=false }
noncomputable abbrev CX0:CXT:=fun _ _ _ _ _ _=>False
noncomputable abbrev E0:XK:=fun _ _ _=>False
theorem pass0 {X:Cx}:Passes CX0 X E0:=fun _ _ _ _ _ _ _ h=>h.elim
structure Fun (K:PySem.W.Frag) (x qual:Str) (st:Stmt) (f:Addr) (fd:FuncData):Prop where
 ex:∃ (oc:Value) (od:Option Addr) (kV doc pm:Value) (an:Option Addr) (cdv ct:Value) (osl:Array (Option Value)),
  fd=PySem.W.fnOf x qual (defArgs st) (defBody st) (defScope st) .none kV doc pm an cdv ct∧K.lookup f=some ⟨oc,od,.func fd,osl⟩∧PySem.W.codeIn K cdv qual=true
 kp:PySem.W.keepIn K (.ref f)=true
section
variable {P:Program} {w:World} {K:PySem.W.Frag} {mg:Str→Option Value} {base:Heap}
theorem Fun.ok {x qual:Str} {st:Stmt} {f:Addr} {fd:FuncData} {N ps:List Str} {k:Nat} {sp:Sp} (F:Fun K x qual st f fd) (S:FnScope N ps (defScope st)) (len:∀ vs H Q E,sp vs H Q E→vs.length=ps.length)
  (hbody:∀ (cdv:Value) (A:Around) (outer:List Env) (s:Shared) (H:Hp) (vs:List V) (Q:VK) (E:XK),Room k (A.deeper (envOfC qual (defScope st) s.heap.objs.size f cdv))→sp vs H Q E →
   ∃ t,PSs (cxOf CX0 P w K mg base N qual (defScope st) f cdv A outer s H E).nox (defBody st) t∧t { nx:=fun _ H'=>Q .non H',rt:=Q } (start N vs) H):FnOk P w K mg base CX0 (k+1) f fd ps sp:=by
 obtain ⟨oc,od,kV,doc,pm,an,cdv,ct,osl,rfl,lk,hcd⟩:=F.ex
 refine fn_of lk hcd S len fun A outer s H vs Q E hr hsp=>?_
 obtain ⟨t,h,q⟩:=hbody cdv A outer s H vs Q E hr hsp
 exact⟨t,h.nox,q⟩
theorem Fun.binds {x qual:Str} {st:Stmt} {f:Addr} {fd:FuncData} {ps:List Str} (F:Fun K x qual st f fd)
  (h:∀ (kV doc pm:Value) (an:Option Addr) (cdv ct:Value) (us:List Value),us.length=ps.length→bindArgs (PySem.W.fnOf x qual (defArgs st) (defBody st) (defScope st) .none kV doc pm an cdv ct) ⟨us,[]⟩=pure (ps.zip us)):Binds K fd ps []:=by
 obtain ⟨oc,od,kV,doc,pm,an,cdv,ct,osl,rfl,lk,hcd⟩:=F.ex
 exact .all (h kV doc pm an cdv ct)
theorem fun_mk {x qual:Str} {st:Stmt} {f:Addr} {oc:Value} {od an:Option Addr} {osl:Array (Option Value)} {kV doc pm cdv ct:Value} (l:K.lookup f=some ⟨oc,od,.func (PySem.W.fnOf x qual (defArgs st) (defBody st) (defScope st) .none kV doc pm an cdv ct),osl⟩)
  (c:PySem.W.codeIn K cdv qual=true) (k:PySem.W.keepIn K (.ref f)=true):Fun K x qual st f (PySem.W.fnOf x qual (defArgs st) (defBody st) (defScope st) .none kV doc pm an cdv ct):=⟨⟨oc,od,kV,doc,pm,an,cdv,ct,osl,rfl,l,c⟩,k⟩
end
theorem hu_of {A:Around} {k:Nat} (hr:Room k A):A.units+1<cLine:=Nat.lt_of_le_of_lt (Nat.add_le_add_left (by decide:1≤64) _) hr.units
theorem small1000 {n:Nat} (h:n≤1000):n<sizeLine:=Nat.lt_of_le_of_lt h (by decide)
section
variable {X:Cx}
theorem pv (i:Nat) {x:Str} {pos:Pos} (hN:X.N[i]?=some x:=by rfl) (hv:Vis X.env.scope x:=by first|exact Or.inl rfl|exact Or.inr (Or.inl rfl)|exact Or.inr (Or.inr rfl)) (hd:(x == ("__debug__":Str))=false:=by decide)
  (hcd:(x == ("__classdict__":Str))=false:=by decide):PE X (.Name x pos) (tVar i):=pe_var hN hv hd hcd
end
theorem iteF {A B:Prop} (h:B):if false=true then A else B:=by
 rw [if_neg Bool.false_ne_true]
 exact h
theorem iteT {A B:Prop} (h:A):if true=true then A else B:=by
 rw [if_pos rfl]
 exact h
noncomputable def Same (H H':Hp):Prop:=∀ b o,H b=some o→H' b=some o
theorem Same.refl (H:Hp):Same H H:=fun _ _ h=>h
theorem Same.trans {H H1 H2:Hp} (a:Same H H1) (b:Same H1 H2):Same H H2:=fun c o h=>b c o (a c o h)
theorem Same.seq {K:PySem.W.Frag} {H H':Hp} {a:Addr} {xs:List V} (e:Same H H') (h:SqL K H a xs):SqL K H' a xs:=by
 rcases h with (h|⟨o,h⟩)|h
 ·exact .inl (.inl (e _ _ h))
 ·exact .inl (.inr ⟨o,e _ _ h⟩)
 ·exact .inr h
end L2
namespace L2
open PySem
noncomputable def clOf (cells:List (Str×Addr)):List (Str×NameKind)→List (Str×Addr)→List (Str×Addr)
 | [],acc=>acc
 | (n,k)::r,acc=>clOf cells r (if k == .free then (match cells.lookup n with|some c=>(n,c)::acc|none=>acc) else acc)
theorem closure_eq {scope:Scope} {env:Env} (h:∀ p∈scope.names,p.2=.free→∃ c,env.cells.lookup p.1=some c):closureFor scope env=pure (clOf env.cells scope.names []):=by
 have key:∀ (names:List (Str×NameKind)) (acc:List (Str×Addr)),(∀ p∈names,p.2=.free→∃ c,env.cells.lookup p.1=some c) →
   (forIn names acc (fun (x:Str×NameKind) (cs:List (Str×Addr))=>if (x.2 == NameKind.free)=true then (do let c ← cellOf env x.1;pure (ForInStep.yield ((x.1,c)::cs))) else pure (ForInStep.yield cs)):Sem (List (Str×Addr)))=pure (clOf env.cells names acc):=by
  intro names
  induction names with
  | nil=>intro acc _;rfl
  | cons p r ih =>
   intro acc hp
   obtain ⟨n,k⟩:=p
   rw [List.forIn_cons]
   by_cases hk:k=.free
   ·subst hk
    obtain ⟨c,hc⟩:=hp (n,.free) List.mem_cons_self rfl
    have e:cellOf env n=pure c:=by unfold cellOf;rw [show env.cells.lookup n=some c from hc]
    show (if (NameKind.free == NameKind.free)=true then _ else _) >>= _=_
    rw [if_pos (by rfl)]
    dsimp only
    rw [e]
    show (forIn r ((n,c)::acc) _:Sem _)=_
    rw [ih _ fun q hq=>hp q (List.mem_cons_of_mem _ hq)]
    simp [clOf,show env.cells.lookup n=some c from hc]
   ·have hk':(k == NameKind.free)=false:=by simpa using hk
    show (if (k == NameKind.free)=true then _ else _) >>= _=_
    rw [if_neg (by rw [hk'];exact Bool.false_ne_true)]
    show (forIn r acc _:Sem _)=_
    rw [ih _ fun q hq=>hp q (List.mem_cons_of_mem _ hq)]
    simp [clOf,hk']
 unfold closureFor
 have k:=key scope.names [] h
 exact (congrArg (fun m:Sem (List (Str×Addr))=>m >>= fun cs=>pure cs) k).trans rfl
theorem clOf_sub {cells:List (Str×Addr)}:∀ {names:List (Str×NameKind)} {acc:List (Str×Addr)},(∀ x c,acc.lookup x=some c→cells.lookup x=some c)→∀ x c,(clOf cells names acc).lookup x=some c→cells.lookup x=some c
 | [],acc,h,x,c,e=>h x c e
 | (n,k)::r,acc,h,x,c,e=>by
  refine clOf_sub (names:=r) (fun y d q=>?_) x c e
  split at q
  ·split at q
   ·rename_i c0 hc0
    rw [List.lookup_cons] at q
    split at q
    ·rename_i hy
     have hy':y=n:=by simpa using hy
     subst hy'
     rw [hc0];exact q
    ·exact h y d q
   ·exact h y d q
  ·exact h y d q
theorem clOf_has {cells:List (Str×Addr)}:∀ {names:List (Str×NameKind)} {acc:List (Str×Addr)} {x:Str},(acc.lookup x).isSome=true∨((x,NameKind.free)∈names∧(cells.lookup x).isSome=true)→((clOf cells names acc).lookup x).isSome=true
 | [],acc,x,h=>by
  rcases h with h|h
  ·exact h
  ·exact absurd h.1 (by simp)
 | (n,k)::r,acc,x,h=>by
  refine clOf_has (names:=r) ?_
  rcases h with h|⟨hm,hc⟩
  ·left
   split
   ·split
    ·rw [List.lookup_cons];split
     ·rfl
     ·exact h
    ·exact h
   ·exact h
  ·rcases List.mem_cons.mp hm with e|hm
   ·injection e with e1 e2
    subst e1;subst e2
    left
    rw [if_pos (by rfl)]
    cases hq:cells.lookup x with
    | none=>rw [hq] at hc;cases hc
    | some c=>simp
   ·exact .inr ⟨hm,hc⟩
section
variable {prog:Program} {w:World} {A:Around}
theorem comp_loop {R:Result→Shared→Prop} {s:Shared} {elt target iter:Expr} {ifs:List Expr} {scope:Scope} {pos:Pos} {it acc:Value} {env:Env} {E:Value→Shared→Prop} (hE:∀ e s',E e s'→notedBy (model prog w) A env (fun e s'=>R (.error e) s') e s') (I:Nat→Shared→Prop)
  (turn:∀ n s,I n s→wpAny (model prog w) A (pyNext it) (fun r s₁=>match r with
   | none=>R (.ok .next) s₁
   | some v=>wpAny (model prog w) A (letOwnedTupleGo target it v) (fun _ s₁'=>wpAny (model prog w) A (assign target env v) (fun _ s₂ =>
     wpAny (model prog w) A (forIn ifs true fun c r=>if r=true then do let ok ← isTrue c env (eval c env);pure (ForInStep.yield ok) else pure (ForInStep.yield r)) (fun ok s₃ =>
      if ok=true then wpAny (model prog w) A (eval elt env) (fun x s₄ =>
       wpAny (model prog w) A (call (.builtin "list.append") [acc,x]) (fun _ s₅=>∃ m,m<n∧I m s₅) E s₄) E s₃
      else ∃ m,m<n∧I m s₃) E s₂) E s₁') E s₁) E s)
  (n:Nat) (h:I n s) :
  codeAny (model prog w) A (.compLoop (.ListComp elt [⟨target,iter,ifs,0⟩] scope pos) 0 it acc env) R s:=by
 have noted:∀ {α:Type} {t:Sem α} {Q:α→Shared→Prop} {s:Shared},wpAny (model prog w) A t Q E s→wpAny (model prog w) A t Q (notedBy (model prog w) A env fun e s'=>R (.error e) s') s:=fun q=>wpAny_mono q (fun _ _ z=>z) hE
 refine codeAny_loop rfl I (fun n s hI=>?_) n h
 show wpAny _ A ((compTurn (.ListComp elt [⟨target,iter,ifs,0⟩] scope pos) 0 it acc env).onRaise (fun x=>do noteFrame x env;theTreesLotGoes x)) _ _ s
 refine wpAny_noted ?_
 rw [compTurn_list]
 refine wpAny_bind (wpAny_standAt (wpAny_bind (wpAny_mono (noted (turn n s hI)) (fun r s₁ h₁=>?_) fun _ _ h'=>h')))
 cases r with
 | none=>exact wpAny_pure h₁
 | some v =>
  refine wpAny_bind (wpAny_mono (noted h₁) (fun _ s₁' h₁'=>?_) fun _ _ h'=>h')
  refine wpAny_bind (wpAny_mono (noted h₁') (fun _ s₂ h₂=>wpAny_bind (wpAny_mono (noted h₂) (fun ok s₃ h₃=>?_) fun _ _ h'=>h')) fun _ _ h'=>h')
  cases ok with
  | false=>exact wpAny_pure ⟨rfl,h₃⟩
  | true =>
   simp only [if_true] at h₃ ⊢
   exact wpAny_bind (wpAny_bind (wpAny_mono (noted h₃) (fun x s₄ h₄=>wpAny_bind (wpAny_mono (noted h₄) (fun _ s₅ h₅=>wpAny_pure (wpAny_pure ⟨rfl,h₅⟩)) fun _ _ h'=>h')) fun _ _ h'=>h'))
end
end L2
namespace L2
open PySem PySem.Spec PyProof.Rows
noncomputable abbrev compCx (X:Cx) (pins:List (Addr×Obj)) (N:List Str) (scope:Scope) (C:Addr) (s:Shared) (H:Hp) (fp:List Addr):Cx :=
 { X with N:=N,s₀:=s,H₀:=H,env:=compEnvC scope (clOf X.env.cells scope.names []) C X.env,outer:=X.stack,stack:=X.stack,ex:=fp,fn:=fun _=>false,pn:=X.pn++pins,xe:=fun _ _=>False }
noncomputable def pick (ix:List (Option Nat)) (σ:St):St:=ix.map fun o=>o.bind fun j=>(σ[j]?).join
noncomputable def IxOk (X:Cx) (scope:Scope):List Str→List (Option Nat)→Prop
 | [],[]=>True
 | _::N,none::ix=>IxOk X scope N ix
 | x::N,some j::ix=>(X.N[j]?=some x∧Vis X.env.scope x∧(X.env.scope.names.lookup x == some .local)=false∧scope.names.lookup x=some .free)∧IxOk X scope N ix
 | _,_=>False
theorem IxOk.len {X:Cx} {scope:Scope}:∀ {N:List Str} {ix:List (Option Nat)},IxOk X scope N ix→ix.length=N.length
 | [],[],_=>rfl
 | [],none::_,h=>h.elim
 | [],some _::_,h=>h.elim
 | _::_,[],h=>h.elim
 | _::N,none::ix,h=>by simp only [List.length_cons];rw [IxOk.len (N:=N) (ix:=ix) h]
 | _::N,some _::ix,h=>by simp only [List.length_cons];rw [IxOk.len (N:=N) (ix:=ix) h.2]
theorem IxOk.get {X:Cx} {scope:Scope}:∀ {N:List Str} {ix:List (Option Nat)} {i j:Nat} {x:Str},IxOk X scope N ix→N[i]?=some x→ix[i]?=some (some j) →
  X.N[j]?=some x∧Vis X.env.scope x∧(X.env.scope.names.lookup x == some .local)=false∧scope.names.lookup x=some .free
 | [],[],_,_,_,_,h,_=>by simp at h
 | [],none::_,_,_,_,h,_,_=>h.elim
 | [],some _::_,_,_,_,h,_,_=>h.elim
 | _::_,[],_,_,_,h,_,_=>h.elim
 | _::N,none::ix,0,_,_,_,_,e=>by simp at e
 | _::N,none::ix,i+1,_,_,h,h1,e=>IxOk.get (N:=N) (ix:=ix) (i:=i) h (by simpa using h1) (by simpa using e)
 | y::N,some k::ix,0,j,x,h,h1,e=>by
  simp at h1 e
  subst h1;subst e
  exact h.1
 | _::N,some _::ix,i+1,_,_,h,h1,e=>IxOk.get (N:=N) (ix:=ix) (i:=i) h.2 (by simpa using h1) (by simpa using e)
theorem pick_get {ix:List (Option Nat)} {σ:St} {i:Nat} {v:V} (h:(pick ix σ)[i]?=some (some v)):∃ j,ix[i]?=some (some j)∧σ[j]?=some (some v):=by
 unfold pick at h
 rw [List.getElem?_map] at h
 cases e:ix[i]? with
 | none=>rw [e] at h;cases h
 | some o =>
  rw [e] at h
  cases o with
  | none=>cases h
  | some j =>
   refine⟨j,rfl,?_⟩
   have h':(σ[j]?).join=some v:=Option.some.inj h
   cases q:σ[j]? with
   | none=>rw [q] at h';cases h'
   | some z=>rw [q] at h';have h2:z=some v:=h';rw [h2]
theorem relabel_not_local {env : Env} : ∀ {names : List (Str × NameKind)} {x : Str}, (∀ y ∈ names, y.2 ≠ .cell) →
    ((names.map fun (n, k) => if (k == NameKind.free && env.scope.kind == .function && env.kindOf n == some .cell) then (n, NameKind.cell) else (n, k)).lookup x=some .cell ∨
     (names.map fun (n, k) => if (k == NameKind.free && env.scope.kind == .function && env.kindOf n == some .cell) then (n, NameKind.cell) else (n, k)).lookup x=some .free) → names.lookup x=some .free
  | [], _, _, h => by simp at h
  | (n, k)::r, x, hc, h => by
    have ih := @relabel_not_local env r x fun y hy => hc y (List.mem_cons_of_mem _ hy)
    have hk : k ≠ .cell := hc (n, k) List.mem_cons_self
    rw [List.map_cons] at h
    cases hx : x == n with
    | true =>
      rw [List.lookup_cons, hx]
      by_cases hcnd : (k == NameKind.free && env.scope.kind == .function && env.kindOf n == some .cell)=true
      · have : k=.free := by
          simp only [Bool.and_eq_true, beq_iff_eq] at hcnd
          exact hcnd.1.1
        rw [this]
      · simp only [hcnd, Bool.false_eq_true, if_false, List.lookup_cons, hx] at h
        rcases h with h|h
        · exact absurd (Option.some.inj h) hk
        · exact h
    | false =>
      rw [List.lookup_cons, hx]
      refine ih ?_
      by_cases hcnd : (k == NameKind.free && env.scope.kind == .function && env.kindOf n == some .cell)=true
      · simp only [hcnd, if_true, List.lookup_cons, hx] at h
        exact h
      · simp only [hcnd, Bool.false_eq_true, if_false, List.lookup_cons, hx] at h
        exact h
theorem relabel_free {env : Env} : ∀ {names : List (Str × NameKind)} {x : Str}, names.lookup x=some .free →
    ((names.map fun (n, k) => if (k == NameKind.free && env.scope.kind == .function && env.kindOf n == some .cell) then (n, NameKind.cell) else (n, k)).lookup x=some .cell ∨
     (names.map fun (n, k) => if (k == NameKind.free && env.scope.kind == .function && env.kindOf n == some .cell) then (n, NameKind.cell) else (n, k)).lookup x=some .free)
  | [], _, h => by simp at h
  | (n, k)::r, x, h => by
    have ih := @relabel_free env r x
    rw [List.map_cons]
    cases hx : x == n with
    | true =>
      rw [List.lookup_cons, hx] at h
      have hk : k=.free := Option.some.inj h
      subst hk
      by_cases hcnd : (NameKind.free == NameKind.free && env.scope.kind == .function && env.kindOf n == some .cell)=true
      · simp only [hcnd, if_true, List.lookup_cons, hx];exact .inl trivial
      · simp only [hcnd, Bool.false_eq_true, if_false, List.lookup_cons, hx];exact .inr trivial
    | false =>
      rw [List.lookup_cons, hx] at h
      by_cases hcnd : (k == NameKind.free && env.scope.kind == .function && env.kindOf n == some .cell)=true
      · simp only [hcnd, if_true, List.lookup_cons, hx];exact ih h
      · simp only [hcnd, Bool.false_eq_true, if_false, List.lookup_cons, hx];exact ih h
noncomputable def PTs (Y:Cx):List Expr→TT→Prop
 | [],t=>t=fun _ H Q=>Q true H
 | [c],t=>PT Y c t
 | _,_=>False
noncomputable def CompGoal (ix:List (Option Nat)) (g:TG) (tt:TT) (te:TE) (σ:St) (Q:VK) (J:It) (H1:Hp):Prop:=∀ l,H1 l=none→∃ W:Nat→Nat→St→List V→Hp→Prop,
 (∃ m,W 0 m (pick ix σ) [] (upd H1 l (.lst [])))∧∀ i m σ1 ys H',W i m σ1 ys H'→H' l=some (.lst ys)∧((J.stop i H'∧Q (.ref l) H') ∨
  (J.go i H'∧∃ m',m'<m∧∀ x H2,J.yld i H' x H2→g x σ1 H2 fun σ2 H3=>tt σ2 H3 fun b H4=>if b=true then te σ2 H4 fun y H5=>H5 l=some (.lst ys)∧ys.length<sizeLine∧W (i+1) m' σ2 (ys++[y]) (upd H5 l (.lst (ys++[y]))) else W (i+1) m' σ2 ys H4))
noncomputable def tComp (ix:List (Option Nat)) (wi:TI) (g:TG) (tt:TT) (te:TE):TE:=fun σ H Q=>wi σ H fun J H1=>CompGoal ix g tt te σ Q J H1
theorem Un.letGo {fs ex:List Addr} {H H':Hp} {h h1 h2:Heap} {C:Addr} (u:Un fs ex H H' h h1) (hC:h.objs.size≤C) (sb:Heap.SameBut C h1 h2):Un fs ex H H' h h2:=by
 have ne:∀ b o,h.get? b=some o→b≠C:=fun b o e=>Nat.ne_of_lt (Nat.lt_of_lt_of_le (Heap.lt_size e) hC)
 refine⟨fun b o e n hb hx=>(sb.2 b (ne b o e)).trans (u.keep b o e n hb hx),fun b o e n hb hx=>?_,u.free,fun b o e hx=>?_,u.tups,u.frzs,u.tbls⟩
 ·obtain ⟨sl,q⟩:=u.slot b o e n hb hx
  exact⟨sl,(sb.2 b (ne b o e)).trans q⟩
 ·obtain ⟨o',q⟩:=u.there b o e hx
  exact⟨o',(sb.2 b (ne b o e)).trans q⟩
theorem HOk.letGo {P:Program} {w:World} {H:Hp} {h h':Heap} {C:Addr} (x:HOk P w H h) (hC:H C=none) (sb:Heap.SameBut C h h'):HOk P w H h':=fun a o e=>by
 have na:∀ b u,H b=some u→b≠C:=fun b u q z=>by rw [z,hC] at q;cases q
 refine (x a o e).stay (fun b u hb q=>(sb.2 b ?_).trans q) (fun _ q=>q) fun _ _ q=>q
 rcases hb with rfl|hb
 ·exact na _ _ e
 ·exact na _ _ hb
section
variable {X:Cx}
theorem wp_tests {Y:Cx} {ifs:List Expr} {tt:TT} (ht:PTs Y ifs tt) {pins:List (Addr×Obj)} {s:Shared} {σ:St} {H:Hp} {Q:Bool→Hp→Prop} (I:Inv Y pins σ H s) (h:tt σ H Q) :
  wpAny (model Y.prog Y.w) Y.A (forIn ifs true fun c r=>if r=true then do let ok ← isTrue c Y.env (eval c Y.env);pure (ForInStep.yield ok) else pure (ForInStep.yield r)) (TP Y pins σ Q) Y.xe s:=by
 match ifs,ht with
 | [],ht =>
  have e:tt=fun _ H Q=>Q true H:=ht
  subst e
  exact wpAny_tests_nil ⟨H,I,h⟩
 | [c],ht=>exact wpAny_tests_one ((show PT Y c tt from ht) pins s σ H Q I h)
 | _::_::_,ht=>exact False.elim ht
theorem pe_comp {tg iter elt:Expr} {ifs:List Expr} {scope:Scope} {pos:Pos} {N:List Str} {ix:List (Option Nat)} {wi:TI} {g:TG} {tt:TT} {te:TE}
  (hc:X.calm=true) (hi:PI X tg iter wi)
  (hg:∀ pins C s H fp,PG (compCx X pins N scope C s H fp) tg g)
  (ht:∀ pins C s H fp,PTs (compCx X pins N scope C s H fp) ifs tt)
  (he:∀ pins C s H fp,PE (compCx X pins N scope C s H fp) elt te)
  (hk:scope.kind=.function) (hcell:∀ y∈scope.names,y.2≠.cell) (hnames:∀ y∈scope.names,y.2=.local→scope.names.lookup y.1=some .local)
  (hfr0:(scope.names.all fun y=>!(y.2 == NameKind.free) || (X.env.cells.lookup y.1).isSome)=true) (hix:IxOk X scope N ix)
  (hs:∀ x,foldedSetIterable iter X.env x=pure x:=by intro _;rfl) :
  PE X (.ListComp elt [⟨tg,iter,ifs,0⟩] scope pos) (tComp ix wi g tt te):=by
 intro pins s σ H Q I h
 have hfr:∀ y∈scope.names,y.2=.free→(X.env.cells.lookup y.1).isSome=true:=fun y hy e=>by
  have z:=List.all_eq_true.mp hfr0 y hy
  rw [e] at z
  simpa using z
 have hfr':∀ p∈scope.names,p.2=.free→∃ c,X.env.cells.lookup p.1=some c:=fun p hp e=>Option.isSome_iff_exists.mp (hfr p hp e)
 have clsub:∀ x c,(clOf X.env.cells scope.names []).lookup x=some c→X.env.cells.lookup x=some c:=clOf_sub (fun x c q=>by simp at q)
 have clhas:∀ x,scope.names.lookup x=some .free→∃ c,(clOf X.env.cells scope.names []).lookup x=some c:=fun x hx=>by
  have hm:=PySem.mem_of_lookup hx
  exact Option.isSome_iff_exists.mp (clOf_has (.inr ⟨hm,hfr _ hm rfl⟩))
 rw [eval_ListComp]
 refine wpAny_comprehension_free (use:=none) rfl hs (closure_eq hfr') hk hnames (thn (hi pins s σ H _ I h) fun v s1 h1=>thn h1 fun itv s2 h2=>?_)
 obtain ⟨it,fp,tn,J,H2,e,I2,T,st2,f2,hW⟩:=h2
 subst e
 have hfree2:H2 s2.heap.objs.size=none:=I2.hok.fresh (Nat.le_refl _)
 obtain ⟨W,⟨m0,w0⟩,turn⟩:=hW s2.heap.objs.size hfree2
 refine wpAny_newObj_type ?_
 have I3:Inv X pins σ (upd H2 s2.heap.objs.size (.lst [])) { s2 with heap:=s2.heap.push { cls:=.type "list",data:=.seq ([]:List Value).toArray } }:=I2.lnew (its:=[]) (t':=s2.toks) .nil (Nat.zero_le _)
 have f3:∀ b∈fp,FpOk X pins (upd H2 s2.heap.objs.size (.lst [])) b:=fun b hb=>by
  refine⟨?_,(f2 b hb).2⟩
  obtain ⟨o,eo,_⟩:=T.obj _ _ st2 b hb
  rw [upd_ne (Nat.ne_of_lt (Heap.lt_size eo))]
  exact (f2 b hb).1
 have st3:tn 0 (s2.heap.push { cls:=.type "list",data:=.seq ([]:List Value).toArray }):=T.keep _ _ _ st2 fun b _ o e=>Heap.get?_push_of_some _ e
 generalize hs3:({ s2 with heap:=s2.heap.push { cls:=.type "list",data:=.seq ([]:List Value).toArray } }:Shared)=s3 at I3
 have st3:tn 0 s3.heap:=by rw [← hs3];exact st3
 generalize hH3:upd H2 s2.heap.objs.size (.lst [])=H3 at I3 f3 w0
 generalize hacc:s2.heap.objs.size=acc at *
 refine wpAny_newFunctionEnv hcell (by intro y hy;simp at hy) (fun h₁ hns₁ hsb₁=>?_) hk
 have old:∀ b o,s3.heap.get? b=some o→h₁.get? b=some o:=fun b o q=>hsb₁.extBut b o (Nat.ne_of_lt (Heap.lt_size q)) (Heap.get?_push_of_some _ q)
 have hCfree:H3 s3.heap.objs.size=none:=I3.hok.fresh (Nat.le_refl _)
 have fpl:∀ b∈fp,b<s3.heap.objs.size:=fun b hb=>by
  obtain ⟨o,eo,_⟩:=T.obj _ _ st3 b hb
  exact Heap.lt_size eo
 have nstk:∀ b,b≠X.env.locals→b∉X.fs→b∉frs X.stack:=fun b h1 h2 z=>by
  rcases List.mem_cons.mp (I3.stkSub b z) with q|q
  ·exact h1 q
  ·exact h2 q
 have clt:∀ x c,X.env.cells.lookup x=some c→c<s3.heap.objs.size:=fun x c q=>by
  obtain ⟨v,z⟩:=I3.cell x c q
  exact z.lt
 have YI:∀ (h':Heap) (m:Str→Option Value),(∀ b o,s3.heap.get? b=some o→h'.get? b=some o)→h'.Ns s3.heap.objs.size m →
   Inv (compCx X pins N scope s3.heap.objs.size s3 H3 fp) [] (pick ix σ) H3 { s3 with heap:=h',toks:=s3.toks+([]:List (Str×Value)).length }:=by
  intro h' m hk' hn
  refine⟨⟨I3.ok.mod,hk,I3.ok.glob,I3.ok.blt,Nat.le_refl _,fun x y c q1 q2=>I3.ok.inj x y c (clsub x c q1) (clsub y c q2),fun x hx=>clhas x (relabel_not_local hcell hx),fun x c hf _=>absurd hf Bool.false_ne_true,
   I3.ok.hd,I3.ok.frames,.inl rfl,fun b hb=>⟨Nat.ne_of_lt (fpl b hb),fun x c q=>(f3 b hb).2.2.2.2.1 x c (clsub x c q)⟩,I3.bs,Nat.le_trans I3.ok.bsz I3.sz,fun b o e hb=>?_,fun b hb=>nstk b (f3 b hb).2.1 (f3 b hb).2.2.1,I3.stack,I3.stkFree⟩,
   rfl,I3.bare,Un.kept hk',⟨m,hn,fun i x v h1 h2 h3=>?_⟩,fun x c q=>?_,hCfree,fun x c q=>I3.freeC x c (clsub x c q),fun p hp=>?_,I3.hok.kept hk',?_⟩
  ·have q:=(I3.bs b o e).2
   rcases (f3 b hb).2.2.2.1 with z|z
   ·exact I3.ok.noex b o e z
   ·exact absurd (Nat.lt_of_lt_of_le (Heap.lt_size e) (Nat.le_trans I3.ok.bsz z)) (Nat.lt_irrefl _)
  ·obtain ⟨j,e1,e2⟩:=pick_get h2
   obtain ⟨a1,a2,a3,a4⟩:=hix.get h1 e1
   obtain ⟨mX,hnX,hlX⟩:=I3.loc
   obtain ⟨u,ru,l⟩:=hlX j x v a1 e2 a2
   refine⟨u,ru,?_⟩
   rcases l with ⟨l1,_⟩|⟨_,c,lc,z⟩
   ·have l1':X.env.scope.names.lookup x=some .local:=l1
    rw [l1'] at a3
    exact absurd a3 (by decide)
   ·obtain ⟨c',hc'⟩:=clhas x a4
    have ec:=clsub x c' hc'
    rw [lc] at ec
    have ec':c=c':=Option.some.inj ec
    subst ec'
    exact .inr ⟨relabel_free a4,c,hc',z.keeps hk'⟩
  ·obtain ⟨v,z⟩:=I3.cell x c (clsub x c q)
   exact⟨v,z.keeps hk'⟩
  ·have hp':p∈X.pn++pins:=by simpa using hp
   obtain ⟨a1,a2,a3,a4,a5⟩:=I3.pin p hp'
   exact⟨hk' _ _ a1,a2,Nat.ne_of_lt (Heap.lt_size a1),nstk p.1 a3 a4,a5⟩
  ·show (pick ix σ).length=N.length
   unfold pick
   rw [List.length_map]
   exact hix.len
 have fpY:∀ {pl:List (Addr×Obj)} {H':Hp},pl=[]→(∀ b∈fp,H' b=none)→∀ b∈fp,FpOk (compCx X pins N scope s3.heap.objs.size s3 H3 fp) pl H' b:=fun {pl H'} epl hn b hb=>by
  obtain ⟨f0,f1,f2',f3',f4,f5⟩:=f3 b hb
  subst epl
  exact⟨hn b hb,Nat.ne_of_lt (fpl b hb),nstk b f1 f2',.inl hb,fun x c q=>f4 x c (clsub x c q),fun p hp=>f5 p (by simpa using hp)⟩
 have loop:∀ s4:Shared,(∃ m,s4={ s3 with heap:=h₁,toks:=s3.toks+([]:List (Str×Value)).length }∧h₁.Ns s3.heap.objs.size m) →
   codeAny (model X.prog X.w) X.A (.compLoop (.ListComp elt [⟨tg,iter,ifs,0⟩] scope pos) 0 (.ref it) (.ref acc) (compEnvC scope (clOf X.env.cells scope.names []) s3.heap.objs.size X.env))
    (compPost (model X.prog X.w) X.A X.xe none (EP X pins σ Q) (.ref acc) s3.heap.objs.size) s4:=by
  rintro s4 ⟨m4,rfl,hn4⟩
  refine comp_loop (E:=fun _ _=>False) (fun _ _ z=>z.elim)
   (fun n s'=>∃ i σ' ys H',Inv (compCx X pins N scope s3.heap.objs.size s3 H3 fp) [] σ' H' s'∧tn i s'.heap∧(∀ b∈fp,H' b=none)∧W i n σ' ys H') ?_ m0
   ⟨0,pick ix σ,[],H3,YI h₁ m4 old hn4,T.keep _ _ _ st3 fun b _ o q=>old b o q,fun b hb=>(f3 b hb).1,w0⟩
  rintro n s5 ⟨i,σ5,ys,H5,I5,st5,fr5,w5⟩
  obtain ⟨hl5,hstep⟩:=turn i n σ5 ys H5 w5
  rcases hstep with ⟨stop,q⟩|⟨go,m',hm',step⟩
  ·refine thn (T.done (compCx X pins N scope s3.heap.objs.size s3 H3 fp) rfl rfl rfl hc i [] s5 σ5 H5 (fun _ _=>False) I5 (fpY rfl fr5) st5 stop) fun r s6 ⟨hr,I6⟩=>?_
   subst hr
   obtain ⟨m6,hn6,_⟩:=I6.loc
   refine⟨m6,hn6,fun h' sb=>?_⟩
   refine⟨.ref acc,H5,I3.call' (ch:=fp) I6.os (I6.base.letGo (Nat.le_refl _) sb) (I6.hok.letGo I6.free sb) I6.bare fun b hb=>?_,rfl,q⟩
   obtain ⟨f0,f1,f2',f3',f4,f5⟩:=f3 b hb
   exact⟨f3',f1,f4,f5⟩
  ·refine thn (T.item (compCx X pins N scope s3.heap.objs.size s3 H3 fp) rfl rfl rfl hc i [] s5 σ5 H5 (fun _ _=>False) I5 (fpY rfl fr5) st5 go) fun r s6 ⟨u,hr,h6⟩=>?_
   subst hr
   refine thn h6 fun _ s7 ⟨x,H7,I7,r7,y7,st7,fr7⟩=>?_
   have I7':=I7.pinned (fpY rfl fr7) (T.obj _ _ st7)
   refine thn (hg pins s3.heap.objs.size s3 H3 fp _ s7 σ5 H7 x u _ I7' r7 (step x H7 y7)) fun _ s8 ⟨σ8,H8,I8,q8⟩=>?_
   refine thn (wp_tests (ht pins s3.heap.objs.size s3 H3 fp) I8 q8) fun b s9 ⟨H9,I9,q9⟩=>?_
   have back:∀ {σz:St} {Hz:Hp} {sz:Shared} {yz:List V},Inv (compCx X pins N scope s3.heap.objs.size s3 H3 fp) ([]++pinsAt fp s7.heap) σz Hz sz→W (i+1) m' σz yz Hz →
     ∃ m,m<n∧∃ i σ' ys H',Inv (compCx X pins N scope s3.heap.objs.size s3 H3 fp) [] σ' H' sz∧tn i sz.heap∧(∀ b∈fp,H' b=none)∧W i m σ' ys H':=fun {σz Hz sz yz} Iz wz=>by
    refine⟨m',hm',i+1,σz,yz,Hz,Iz.unpinned,T.keep _ _ _ st7 fun b hb o e=>(Iz.pin (b,o) (List.mem_append_right _ (List.mem_append_right _ (mem_pinsAt hb e)))).1,fun b hb=>?_,wz⟩
    obtain ⟨o,e,d⟩:=T.obj _ _ st7 b hb
    exact (Iz.pin (b,o) (List.mem_append_right _ (List.mem_append_right _ (mem_pinsAt hb e)))).2.1
   cases b with
   | false=>exact back I9 q9
   | true =>
    refine thn (he pins s3.heap.objs.size s3 H3 fp _ s9 σ8 H9 _ I9 q9) fun v s10 ⟨y,H10,I10,r10,hl10,hz10,w10⟩=>?_
    refine thn (mt_append _ s10 σ8 H10 (.ref acc) [y] (.ref acc) [v] (fun _ H'=>H'=upd H10 acc (.lst (ys++[y]))) I10 rfl (.cons r10 .nil) ⟨acc,ys,y,rfl,rfl,hl10,hz10,rfl⟩) fun _ s11 ⟨_,H11,I11,_,e11⟩=>?_
    subst e11
    exact back I11 w10
 have hn4:∃ m,h₁.Ns s3.heap.objs.size m:=⟨_,hns₁⟩
 obtain ⟨m4,hn4⟩:=hn4
 have L:=loop _ ⟨m4,rfl,hn4⟩
 exact codeAny_compStart_list L (T.self _ 0 _ _ _ (T.keep _ _ _ st3 fun b _ o q=>old b o q) L)
end
end L2
namespace L2
open PySem
theorem nne {a b:Nat} (h:@Ne Nat a b):@Ne Addr a b:=h
noncomputable def SrcOf (k:Bool) (h:Heap) (a:Addr) (xs:Array Value):Prop:=match k with|true=>h.IsTuple a xs|false=>h.IsList a xs
noncomputable def ItAt (k:Bool) (h:Heap) (it a:Addr) (i:Nat):Prop:=match k with|true=>h.IsTupleIter it a i|false=>h.IsListIter it a i
noncomputable def itObj (k:Bool) (a:Addr):Obj:=match k with|true=>{ cls:=.type "tuple_iterator",data:=.fields #[.ref a,.int 0 0] }|false=>{ cls:=.type "list_iterator",data:=.fields #[.ref a,.int 0 0] }
noncomputable abbrev IsT (h:Heap) (T:Addr) (vs:Array Value):Prop:=h.get? T=some { cls:=.type "tuple",data:=.seq vs }
theorem SrcOf.keep {k:Bool} {h h':Heap} {a:Addr} {xs:Array Value} (x:SrcOf k h a xs) (hk:∀ o,h.get? a=some o→h'.get? a=some o):SrcOf k h' a xs:=by
 cases k with
 | true=>obtain ⟨o,e,r⟩:=x;exact⟨o,hk o e,r⟩
 | false=>obtain ⟨o,e,r⟩:=x;exact⟨o,hk o e,r⟩
theorem ItAt.keep {k:Bool} {h h':Heap} {it a:Addr} {i:Nat} (x:ItAt k h it a i) (hk:∀ o,h.get? it=some o→h'.get? it=some o):ItAt k h' it a i:=by
 cases k with
 | true=>obtain ⟨o,e,r⟩:=x;exact⟨o,hk o e,r⟩
 | false=>obtain ⟨o,e,r⟩:=x;exact⟨o,hk o e,r⟩
theorem ItAt.obj {k:Bool} {h:Heap} {it a:Addr} {i:Nat} (x:ItAt k h it a i):∃ o,h.get? it=some o∧∀ v,o.data≠.cell v:=by
 cases k with
 | true=>obtain ⟨o,e,_,d⟩:=x;exact⟨o,e,fun v z=>by rw [d] at z;cases z⟩
 | false=>obtain ⟨o,e,_,d⟩:=x;exact⟨o,e,fun v z=>by rw [d] at z;cases z⟩
theorem SrcOf.lt {k:Bool} {h:Heap} {a:Addr} {xs:Array Value} (x:SrcOf k h a xs):a<h.objs.size:=by
 cases k with
 | true=>obtain ⟨o,e,_⟩:=x;exact Heap.lt_size e
 | false=>obtain ⟨o,e,_⟩:=x;exact Heap.lt_size e
theorem itObj_at {k:Bool} {h:Heap} {it a:Addr} (e:h.get? it=some (itObj k a)):ItAt k h it a 0:=by
 cases k with
 | true=>exact⟨_,e,rfl,rfl⟩
 | false=>exact⟨_,e,rfl,rfl⟩
section
variable {prog:Program} {w:World} {A:Around} {E:Value→Shared→Prop} {s:Shared}
theorem src_iter {k:Bool} {a:Addr} {xs:Array Value} {Q:Value→Shared→Prop} (h:SrcOf k s.heap a xs) (hQ:Q (.ref s.heap.objs.size) { s with heap:=s.heap.push (itObj k a) }):wpAny (model prog w) A (pyIter (.ref a)) Q E s:=by
 cases k with
 | true=>exact wpAny_pyIter_tuple h hQ
 | false=>exact wpAny_pyIter_list h hQ
theorem nextOf_tuple_item {it t:Addr} {i:Nat} {items} {x:Value} {Q:Value→Shared→Prop} (hit:s.heap.IsTupleIter it t i)
  (ht:s.heap.IsTuple t items) (hx:items[i]?=some x)
  (hQ:∀ h',h'.IsTupleIter it t (i+1)→Heap.SameBut it s.heap h'→Q x { s with heap:=h' }) :
  wpAny (model prog w) A (Builtin.SmallTypes.nextOf (.ref it)) Q E s:=by
 obtain ⟨o,ho,hc,hd⟩:=id hit
 obtain ⟨ol,hol,_,nl,hdl⟩:=ht
 unfold Builtin.SmallTypes.nextOf
 refine wpAny_bind (wpAny_callSpecial?_slot (name:=Str.ofString "__next__") hit.typeIs F.slot_tuple_iterator_next
  (wpAny_call_entry F.slot_tuple_iterator_next hit.typeIs F.entry_tuple_iterator_next ?_ (F.args_tuple_iterator_next_1 _)))
 show wpAny _ _ (field (.ref it) 0 >>= _) _ _ s
 refine wpAny_bind (wpAny_field ho hd (x:=.ref t) rfl ?_)
 show wpAny _ _ (if (Value.ref t == Value.none)=true then _ else _) _ _ s
 rw [if_neg (show ¬ ((Value.ref t == Value.none)=true) from Bool.false_ne_true)]
 show wpAny _ _ (field (.ref it) 1 >>= _) _ _ s
 refine wpAny_bind (wpAny_field ho hd (x:=.int i 0) rfl ?_)
 show wpAny _ _ (seqItems? (.ref t) >>= _) _ _ s
 refine wpAny_bind (wpAny_seqItems hol hdl ?_)
 simp only [Int.toNat_natCast,hx]
 refine wpAny_bind (wpAny_setField ho hd (by simp) (wpAny_pure ⟨x,rfl,wpAny_pure (hQ _ ?_ (Heap.SameBut.update ..))⟩))
 exact⟨_,Heap.get?_update_self _ ho (Obj.isFreed_of_fields (Obj.data_mapFields hd _)),(Obj.cls_mapFields ..).trans hc,by
  rw [Obj.data_mapFields hd];simp [rawInt]⟩
theorem nextOf_tuple_end {it t:Addr} {i:Nat} {items} {Q:Value→Shared→Prop} (hh:A.handled=none)
  (hit:s.heap.IsTupleIter it t i) (ht:s.heap.IsTuple t items) (hx:items[i]?=none)
  (hE:∀ h' e,Heap.ExtBut it s.heap h'→(∃ o,h'.get? e=some o∧o.cls=.type "StopIteration")→E (.ref e) { s with heap:=h' }) :
  wpAny (model prog w) A (Builtin.SmallTypes.nextOf (.ref it)) Q E s:=by
 obtain ⟨o,ho,hc,hd⟩:=id hit
 obtain ⟨ol,hol,_,nl,hdl⟩:=ht
 unfold Builtin.SmallTypes.nextOf
 refine wpAny_bind (wpAny_callSpecial?_slot (name:=Str.ofString "__next__") hit.typeIs F.slot_tuple_iterator_next
  (wpAny_call_entry F.slot_tuple_iterator_next hit.typeIs F.entry_tuple_iterator_next ?_ (F.args_tuple_iterator_next_1 _)))
 show wpAny _ _ (field (.ref it) 0 >>= _) _ _ s
 refine wpAny_bind (wpAny_field ho hd (x:=.ref t) rfl ?_)
 show wpAny _ _ (if (Value.ref t == Value.none)=true then _ else _) _ _ s
 rw [if_neg (show ¬ ((Value.ref t == Value.none)=true) from Bool.false_ne_true)]
 show wpAny _ _ (field (.ref it) 1 >>= _) _ _ s
 refine wpAny_bind (wpAny_field ho hd (x:=.int i 0) rfl ?_)
 show wpAny _ _ (seqItems? (.ref t) >>= _) _ _ s
 refine wpAny_bind (wpAny_seqItems hol hdl ?_)
 simp only [Int.toNat_natCast,hx]
 refine wpAny_bind (wpAny_rule (wpAny_bind (wpAny_setField ho hd (by simp) ?_)))
 show wpAny _ _ (newExc (.type "StopIteration") [] >>= _) _ _ _
 refine wpAny_bind ?_
 simp only [newExc,newTuple]
 refine wpAny_bind (wpAny_newObj_type ?_ (by size_fits))
 refine wpAny_bind (m:=firstArgMember _ _) (wpAny_of_eq (a:=Value.none) (by first|rfl|(simp only [firstArgMember];rfl)) ?_)
 refine wpAny_newObj_type ?_ (by size_fits)
 simp only [raiseNew]
 refine wpAny_bind (wpAny_handled ?_)
 first|rw [show A.in1.handled=none from hh]|rw [hh]
 refine wpAny_bind (wpAny_pure (wpAny_throw ?_))
 exact hE _ _ (((Heap.SameBut.update ..).extBut.push _).push _) ⟨_,Heap.get?_push_size _ rfl,rfl⟩
theorem sub_item {k:Bool} {it a:Addr} {i:Nat} {xs:Array Value} {x:Value} {Q:Value→Shared→Prop} (hit:ItAt k s.heap it a i) (hs:SrcOf k s.heap a xs) (hx:xs[i]?=some x)
  (hQ:∀ h',ItAt k h' it a (i+1)→Heap.SameBut it s.heap h'→Q x { s with heap:=h' }):wpAny (model prog w) A (Builtin.SmallTypes.nextOf (.ref it)) Q E s:=by
 cases k with
 | true=>exact nextOf_tuple_item hit hs hx hQ
 | false=>exact wpAny_nextOf_list_item hit hs hx hQ
theorem sub_end {k:Bool} {it a:Addr} {i:Nat} {xs:Array Value} {Q:Value→Shared→Prop} (hh:A.handled=none) (hit:ItAt k s.heap it a i) (hs:SrcOf k s.heap a xs) (hx:xs[i]?=none)
  (hE:∀ h' e,Heap.ExtBut it s.heap h'→(∃ o,h'.get? e=some o∧o.cls=.type "StopIteration")→E (.ref e) { s with heap:=h' }):wpAny (model prog w) A (Builtin.SmallTypes.nextOf (.ref it)) Q E s:=by
 cases k with
 | true=>exact nextOf_tuple_end hh hit hs hx hE
 | false=>exact wpAny_nextOf_list_end hh hit hs hx hE
theorem upd_tup {T:Addr} {vs:Array Value} {x:Value} {k:Nat} {Q:Unit→Shared→Prop} (hT:IsT s.heap T vs) (hz:vs.size≤8)
  (h:∀ h',IsT h' T (vs.setIfInBounds k x)→Heap.SameBut T s.heap h'→Q () { s with heap:=h' }):wpAny (model prog w) A (updateSeq T (·.setIfInBounds k x)) Q E s:=by
 have hz2:vs.size≤sizeLine:=Nat.le_trans hz (by decide)
 refine wpAny_updateSeq (hz:=hz2) (_hz':=by simp only [Array.size_setIfInBounds];lia) hT rfl (h _ ?_ (Heap.SameBut.update ..))
 show (s.heap.update T _).get? T=_
 rw [Heap.get?_update_self _ hT rfl]
 simp [Obj.mapSeq]
structure Zip2 (k1 k2:Bool) (n a b:Nat) (i:Nat) (f0:Value) (h:Heap):Prop where
 z:IsZip h (n+4) (n+2) (n+3) f0
 ti:IsT h (n+2) #[.ref n,.ref (n+1)]
 to:∃ u v,IsT h (n+3) #[u,v]
 i1:ItAt k1 h n a i
 i2:ItAt k2 h (n+1) b i
noncomputable def Off (l:List Addr) (h h':Heap):Prop:=∀ c o,c∉l→h.get? c=some o→h'.get? c=some o
theorem Off.of {c:Addr} {l:List Addr} {h h':Heap} (s:Heap.SameBut c h h') (hc:c∈l):Off l h h':=fun b o hb e=>(s.2 b fun z=>hb (z ▸ hc)).trans e
theorem Off.trans {l:List Addr} {h h1 h2:Heap} (a:Off l h h1) (b:Off l h1 h2):Off l h h2:=fun c o hc e=>b c o hc (a c o hc e)
theorem zip2_next {k1 k2:Bool} {n a b:Nat} {i:Nat} {xs ys:Array Value} {x y:Value} {Q:Value→Shared→Prop} (Z:Zip2 k1 k2 n a b i .none s.heap) (ha:a<n) (hb:b<n)
  (h1:SrcOf k1 s.heap a xs) (h2:SrcOf k2 s.heap b ys) (hx:xs[i]?=some x) (hy:ys[i]?=some y)
  (hQ:∀ h',Zip2 k1 k2 n a b (i+1) (rawInt s.heap.objs.size) h'→IsT h' s.heap.objs.size #[x,y]→h'.objs.size=s.heap.objs.size+1→Off [n,n+1,n+3,n+4] s.heap h'→Q (.ref s.heap.objs.size) { s with heap:=h' }) :
  wpAny (model prog w) A (Builtin.«zip.__next__» ⟨[.ref (n+4)],[]⟩) (fun fin s'=>∃ v,fin=.done (.ret v)∧Q v s') E s:=by
 obtain ⟨hz,hTI,⟨u,v,hTO⟩,hi1,hi2⟩:=Z
 show wpAny _ _ (field (.ref (n+4)) 2 >>= _) _ _ _
 refine wpAny_bind (wpAny_field hz rfl (x:=.bool false) rfl ?_)
 show wpAny _ _ (field (.ref (n+4)) 3 >>= _) _ _ _
 refine wpAny_bind (wpAny_field hz rfl (x:=.ref (n+2)) rfl ?_)
 refine wpAny_bind (wpAny_seqItems hTI rfl ?_)
 show wpAny _ _ (Builtin.SmallTypes.ownedTupleIsFree (.ref (n+4)) >>= _) _ _ _
 refine wpAny_bind ?_
 unfold Builtin.SmallTypes.ownedTupleIsFree
 refine wpAny_bind (wpAny_field hz rfl (x:=.none) rfl (wpAny_pure ?_))
 simp only [if_true]
 refine wpAny_bind (wpAny_rule ?_)
 refine wpAny_bind (wpAny_field hz rfl (x:=.ref (n+3)) rfl ?_)
 refine wpAny_bind (wpAny_setField_rec hz (by simp) fun g1 hz1 hs1=>?_)
 replace hz1:IsZip g1 (n+4) (n+2) (n+3) .ellipsis:=hz1
 refine wpAny_bind ?_
 simp only [List.zipIdx_cons,List.zipIdx_nil,List.forIn_cons,List.forIn_nil]
 refine wpAny_bind (wpAny_bind (wpAny_onRaise ?_))
 show wpAny _ _ (Builtin.SmallTypes.nextOf (.ref n) >>= _) _ _ _
 refine wpAny_bind (sub_item (hi1.keep fun o e=>(hs1.2 _ (nne (by lia))).trans e) (h1.keep fun o e=>(hs1.2 _ (nne (by lia))).trans e) hx fun g2 hi1' hs2=>wpAny_pure ?_)
 have hTO2:IsT g2 (n+3) #[u,v]:=(hs2.2 _ (nne (by lia))).trans ((hs1.2 _ (nne (by lia))).trans hTO)
 refine wpAny_bind (wpAny_seqItems hTO2 rfl ?_)
 refine wpAny_bind (upd_tup hTO2 (by simp) fun g3 hTO3 hs3=>?_)
 replace hTO3:IsT g3 (n+3) #[x,v]:=hTO3
 refine wpAny_bind (wpAny_letGo (wpAny_pure ?_))
 refine wpAny_bind (wpAny_bind (wpAny_onRaise ?_))
 show wpAny _ _ (Builtin.SmallTypes.nextOf (.ref (n+1)) >>= _) _ _ _
 refine wpAny_bind (sub_item (hi2.keep fun o e=>(hs3.2 _ (nne (by lia))).trans ((hs2.2 _ (nne (by lia))).trans ((hs1.2 _ (nne (by lia))).trans e))) (h2.keep fun o e=>(hs3.2 _ (nne (by lia))).trans ((hs2.2 _ (nne (by lia))).trans ((hs1.2 _ (nne (by lia))).trans e))) hy fun g4 hi2' hs4=>wpAny_pure ?_)
 have hTO4:IsT g4 (n+3) #[x,v]:=(hs4.2 _ (nne (by lia))).trans hTO3
 refine wpAny_bind (wpAny_seqItems hTO4 rfl ?_)
 refine wpAny_bind (upd_tup hTO4 (by simp) fun g5 hTO5 hs5=>?_)
 replace hTO5:IsT g5 (n+3) #[x,y]:=hTO5
 refine wpAny_bind (wpAny_letGo (wpAny_pure (wpAny_pure ?_)))
 refine wpAny_bind (wpAny_seqItems hTO5 rfl ?_)
 refine wpAny_bind (wpAny_newTuple ?_)
 have hsz:g5.objs.size=s.heap.objs.size:=by rw [hs5.1,hs4.1,hs3.1,hs2.1,hs1.1]
 have hz5:IsZip g5 (n+4) (n+2) (n+3) .ellipsis:=(hs5.2 _ (nne (by lia))).trans ((hs4.2 _ (nne (by lia))).trans ((hs3.2 _ (nne (by lia))).trans ((hs2.2 _ (nne (by lia))).trans hz1)))
 have off5:Off [n,n+1,n+3,n+4] s.heap g5:=((((Off.of hs1 (by simp)).trans (Off.of hs2 (by simp))).trans (Off.of hs3 (by simp))).trans (Off.of hs4 (by simp))).trans (Off.of hs5 (by simp))
 have hzlt:n+4<g5.objs.size:=Heap.lt_size hz5
 show wpAny _ _ (Builtin.SmallTypes.ownedTupleHandOut (.ref (n+4)) (.ref g5.objs.size) >>= _) _ _ _
 refine wpAny_bind ?_
 unfold Builtin.SmallTypes.ownedTupleHandOut
 have hz6:IsZip (g5.push { cls:=.type "tuple",data:=.seq #[x,y] }) (n+4) (n+2) (n+3) .ellipsis:=Heap.get?_push_of_some _ hz5
 refine wpAny_bind (wpAny_setField_rec hz6 (by simp) fun g7 hz7 hs7=>?_)
 replace hz7:IsZip g7 (n+4) (n+2) (n+3) (rawInt g5.objs.size):=hz7
 refine wpAny_setField_rec hz7 (by simp) fun g8 hz8 hs8=>?_
 replace hz8:IsZip g8 (n+4) (n+2) (n+3) (rawInt g5.objs.size):=hz8
 have up:∀ c o,c≠n+4→g5.get? c=some o→g8.get? c=some o:=fun c o c1 e=>(hs8.2 _ c1).trans ((hs7.2 _ c1).trans (Heap.get?_push_of_some _ e))
 have hT8:IsT g8 g5.objs.size #[x,y]:=(hs8.2 _ (Nat.ne_of_gt hzlt)).trans ((hs7.2 _ (Nat.ne_of_gt hzlt)).trans (Heap.get?_push_size _ rfl))
 have hz8':g8.objs.size=g5.objs.size+1:=by rw [hs8.1,hs7.1,Heap.size_push]
 rw [hsz] at hz8 hT8 hz8'
 refine wpAny_pure ⟨_,rfl,?_⟩
 show Q (.ref g5.objs.size) _
 rw [hsz]
 refine hQ g8 ⟨hz8,up _ _ (nne (by lia)) (off5 _ _ (by simp) hTI),⟨x,y,up _ _ (nne (by lia)) hTO5⟩,?_,?_⟩ hT8 hz8' fun c o hc e=>?_
 ·exact hi1'.keep fun o e=>up _ o (nne (by lia)) ((hs5.2 _ (nne (by lia))).trans ((hs4.2 _ (nne (by lia))).trans ((hs3.2 _ (nne (by lia))).trans e)))
 ·exact hi2'.keep fun o e=>up _ o (nne (by lia)) ((hs5.2 _ (nne (by lia))).trans e)
 ·exact up c o (fun z=>hc (by simp [z])) (off5 c o hc e)
theorem zip2_stop {k1 k2:Bool} {n a b:Nat} {i:Nat} {xs ys:Array Value} {Q:Fin→Shared→Prop} (hh:A.handled=none) (Z:Zip2 k1 k2 n a b i .none s.heap) (ha:a<n) (hb:b<n)
  (h1:SrcOf k1 s.heap a xs) (h2:SrcOf k2 s.heap b ys) (hend:xs[i]?=none∨ys[i]?=none)
  (hE:∀ h' e,Off [n,n+1,n+3,n+4] s.heap h'→(∃ o,h'.get? e=some o∧o.cls=.type "StopIteration")→E (.ref e) { s with heap:=h' }) :
  wpAny (model prog w) A (Builtin.«zip.__next__» ⟨[.ref (n+4)],[]⟩) Q E s:=by
 obtain ⟨hz,hTI,⟨u,v,hTO⟩,hi1,hi2⟩:=Z
 show wpAny _ _ (field (.ref (n+4)) 2 >>= _) _ _ _
 refine wpAny_bind (wpAny_field hz rfl (x:=.bool false) rfl ?_)
 show wpAny _ _ (field (.ref (n+4)) 3 >>= _) _ _ _
 refine wpAny_bind (wpAny_field hz rfl (x:=.ref (n+2)) rfl ?_)
 refine wpAny_bind (wpAny_seqItems hTI rfl ?_)
 show wpAny _ _ (Builtin.SmallTypes.ownedTupleIsFree (.ref (n+4)) >>= _) _ _ _
 refine wpAny_bind ?_
 unfold Builtin.SmallTypes.ownedTupleIsFree
 refine wpAny_bind (wpAny_field hz rfl (x:=.none) rfl (wpAny_pure ?_))
 simp only [if_true]
 refine wpAny_bind (wpAny_rule ?_)
 refine wpAny_bind (wpAny_field hz rfl (x:=.ref (n+3)) rfl ?_)
 refine wpAny_bind (wpAny_setField_rec hz (by simp) fun g1 hz1 hs1=>?_)
 replace hz1:IsZip g1 (n+4) (n+2) (n+3) .ellipsis:=hz1
 refine wpAny_bind ?_
 simp only [List.zipIdx_cons,List.zipIdx_nil,List.forIn_cons,List.forIn_nil]
 refine wpAny_bind (wpAny_bind (wpAny_onRaise ?_))
 show wpAny _ _ (Builtin.SmallTypes.nextOf (.ref n) >>= _) _ _ _
 have fin:∀ {g h':Heap} {e:Addr},IsZip g (n+4) (n+2) (n+3) .ellipsis→(∃ o,g.get? e=some o∧o.cls=.type "StopIteration")→Off [n,n+1,n+3,n+4] s.heap g→∀ s':Shared,s'={ s with heap:=g } →
   wpAny (model prog w) A (setField (.ref (n+4)) 0 .none) (fun _ s'=>E (.ref e) s') E s':=by
  intro g h' e hzg ⟨oe,hoe,hce⟩ off s' es
  subst es
  have hez:e≠n+4:=fun z=>by subst z;rw [hzg] at hoe;cases hoe;simp at hce
  exact wpAny_setField_rec hzg (by simp) fun g9 _ hs9=>hE g9 e (off.trans (Off.of hs9 (by simp))) ⟨oe,(hs9.2 _ hez).trans hoe,hce⟩
 cases hx:xs[i]? with
 | none =>
  refine wpAny_bind (sub_end hh (hi1.keep fun o e=>(hs1.2 _ (nne (by lia))).trans e) (h1.keep fun o e=>(hs1.2 _ (nne (by lia))).trans e) hx fun g2 e hs2 he=>?_)
  exact fin (h':=g2) (hs2 _ _ (nne (by lia)) hz1) he ((Off.of hs1 (by simp)).trans fun c o hc q=>hs2 c o (fun z=>hc (by simp [z])) q) _ rfl
 | some x =>
  have hy:ys[i]?=none:=by rcases hend with h|h;rw [hx] at h;cases h;exact h
  refine wpAny_bind (sub_item (hi1.keep fun o e=>(hs1.2 _ (nne (by lia))).trans e) (h1.keep fun o e=>(hs1.2 _ (nne (by lia))).trans e) hx fun g2 hi1' hs2=>wpAny_pure ?_)
  have hTO2:IsT g2 (n+3) #[u,v]:=(hs2.2 _ (nne (by lia))).trans ((hs1.2 _ (nne (by lia))).trans hTO)
  refine wpAny_bind (wpAny_seqItems hTO2 rfl ?_)
  refine wpAny_bind (upd_tup hTO2 (by simp) fun g3 hTO3 hs3=>?_)
  refine wpAny_bind (wpAny_letGo (wpAny_pure ?_))
  refine wpAny_bind (wpAny_bind (wpAny_onRaise ?_))
  show wpAny _ _ (Builtin.SmallTypes.nextOf (.ref (n+1)) >>= _) _ _ _
  refine wpAny_bind (sub_end hh (hi2.keep fun o e=>(hs3.2 _ (nne (by lia))).trans ((hs2.2 _ (nne (by lia))).trans ((hs1.2 _ (nne (by lia))).trans e))) (h2.keep fun o e=>(hs3.2 _ (nne (by lia))).trans ((hs2.2 _ (nne (by lia))).trans ((hs1.2 _ (nne (by lia))).trans e))) hy fun g4 e hs4 he=>?_)
  exact fin (h':=g4) (hs4 _ _ (nne (by lia)) ((hs3.2 _ (nne (by lia))).trans ((hs2.2 _ (nne (by lia))).trans hz1))) he ((((Off.of hs1 (by simp)).trans (Off.of hs2 (by simp))).trans (Off.of hs3 (by simp))).trans fun c o hc q=>hs4 c o (fun z=>hc (by simp [z])) q) _ rfl
theorem pyNext_zip2 {k1 k2:Bool} {n a b:Nat} {i:Nat} {xs ys:Array Value} {x y:Value} {Q:Option Value→Shared→Prop} (Z:Zip2 k1 k2 n a b i .none s.heap) (ha:a<n) (hb:b<n)
  (h1:SrcOf k1 s.heap a xs) (h2:SrcOf k2 s.heap b ys) (hx:xs[i]?=some x) (hy:ys[i]?=some y)
  (hQ:∀ h',Zip2 k1 k2 n a b (i+1) (rawInt s.heap.objs.size) h'→IsT h' s.heap.objs.size #[x,y]→h'.objs.size=s.heap.objs.size+1→Off [n,n+1,n+3,n+4] s.heap h'→Q (some (.ref s.heap.objs.size)) { s with heap:=h' }) :
  wpAny (model prog w) A (pyNext (.ref (n+4))) Q E s:=by
 have hT:s.TypeIs (.ref (n+4)) "zip":=⟨_,Z.z,rfl⟩
 unfold pyNext
 exact wpAny_bind (wpAny_attempt (wpAny_callSpecial?_slot (name:=Str.ofString "__next__") hT F.slot_zip_next
  (wpAny_call_entry F.slot_zip_next hT F.entry_zip_next
   (zip2_next Z ha hb h1 h2 hx hy fun h' a1 a2 a3 a4=>wpAny_pure (hQ h' a1 a2 a3 a4)) (F.args_zip_next_1 _))))
theorem pyNext_zip2_end {k1 k2:Bool} {n a b:Nat} {i:Nat} {xs ys:Array Value} {Q:Option Value→Shared→Prop} (hh:A.handled=none) (Z:Zip2 k1 k2 n a b i .none s.heap) (ha:a<n) (hb:b<n)
  (h1:SrcOf k1 s.heap a xs) (h2:SrcOf k2 s.heap b ys) (hend:xs[i]?=none∨ys[i]?=none)
  (hQ:∀ h',Off [n,n+1,n+3,n+4] s.heap h'→Q none { s with heap:=h' }):wpAny (model prog w) A (pyNext (.ref (n+4))) Q E s:=by
 have hT:s.TypeIs (.ref (n+4)) "zip":=⟨_,Z.z,rfl⟩
 unfold pyNext
 refine wpAny_bind (wpAny_attempt (wpAny_callSpecial?_slot (name:=Str.ofString "__next__") hT F.slot_zip_next
  (wpAny_call_entry F.slot_zip_next hT F.entry_zip_next (zip2_stop (A:=A.in1) hh Z ha hb h1 h2 hend fun h' e hk he=>?_) (F.args_zip_next_1 _))))
 obtain ⟨o,ho,hc⟩:=he
 refine wpAny_bind (wpAny_isInstance (T:="StopIteration") (b:=true) ⟨o,ho,hc⟩ isSubtype_stop ?_)
 exact wpAny_pure (hQ _ hk)
end
noncomputable abbrev zh5 (k1 k2:Bool) (h:Heap) (a b:Addr):Heap:=((((h.push (itObj k1 a)).push (itObj k2 b)).push { cls:=.type "tuple",data:=.seq #[.ref h.objs.size,.ref (h.objs.size+1)] }).push { cls:=.type "tuple",data:=.seq #[.none,.none] }).push
 { cls:=.type "zip",data:=.fields #[.none,.bool false,.bool false,.ref (h.objs.size+2),.ref (h.objs.size+3)] }
theorem zip2_made (k1 k2:Bool) (a b:Addr) (xs ys:Array Value) :
  Meets (Builtin.«zip.__new__» ⟨[.type "zip",.ref a,.ref b],[]⟩) (fun _ R s=>SrcOf k1 s.heap a xs∧SrcOf k2 s.heap b ys ∧
   R (.ok (.ret (.ref (s.heap.objs.size+4)))) { s with heap:=zh5 k1 k2 s.heap a b }) :=
 .of_wp fun prog w A R s h=>by
  obtain ⟨hp,g,d,tk,os⟩:=s;obtain ⟨hl1,hl2,h⟩:=h
  have hsub:=sub_zip
  have hL1:SrcOf k1 (Shared.heap ⟨hp,g,d,tk,os⟩) a xs:=hl1
  have hL2:SrcOf k2 (Shared.heap ⟨hp.push (itObj k1 a),g,d,tk,os⟩) b ys:=SrcOf.keep hl2 fun o e=>Heap.get?_push_of_some _ e
  wp_walk using src_iter hL1,src_iter hL2
  refine⟨_,rfl,?_⟩
  simp only [Heap.size_push]
  exact h
end L2
namespace L2
open PySem PySem.Spec PyProof.Rows
noncomputable def Sq (k:Bool) (K:PySem.W.Frag) (H:Hp) (a:Addr) (xs:List V):Prop:=match k with|true=>SqT K H a xs|false=>SqL K H a xs
section
variable {X:Cx} {pins:List (Addr×Obj)} {σ:St} {H H':Hp} {s:Shared}
theorem Inv.sq {k:Bool} {a:Addr} {xs:List V} (I:Inv X pins σ H s) (h:Sq k X.K H a xs):∃ its:List Value,Vals xs its∧SrcOf k s.heap a its.toArray∧xs.length≤sizeLine:=by
 cases k with
 | true=>exact I.tuple h
 | false =>
  obtain ⟨its,r,p,z⟩:=I.list h
  exact⟨its,r,p.isList,z⟩
theorem Inv.sq_inj {k:Bool} {a:Addr} {xs ys:List V} (I:Inv X pins σ H s) (h:Sq k X.K H a xs) (h':Sq k X.K H a ys):xs=ys:=by
 cases k with
 | true=>exact I.tuple_inj h h'
 | false=>exact I.list_inj h h'
theorem Inv.off {h':Heap} {t':Nat} {ch:List Addr} (I:Inv X pins σ H s) (hf:∀ b∈ch,FpOk X pins H b) (off:Off ch s.heap h') (hok:HOk X.prog X.w H' h')
  (free:∀ b o,b∉ch→s.heap.get? b=some o→H b=none→H' b=none) (same:∀ b o,H b=some o→H' b=some o):Inv X pins σ H' { s with heap:=h',toks:=t' }:=by
 refine I.step (g':=s.gens) (d':=s.drawn) (ch:=ch) (fun b hb=>?_) (fun b o _ _ hc e _=>off b o hc e) (fun b o _ _ hc e _=>⟨o.slots,off b o hc e⟩) (fun b o hc e n=>free b o hc e n) (fun b o hc e=>⟨o,off b o hc e⟩)
  (fun b xs e=>same b _ e) (fun b o u e=>same b _ e) (fun b ps e=>⟨#[],by rw [same b _ e];simp⟩) (fun m hm=>?_) hok I.bare
 ·obtain ⟨f0,f1,f2,f3,f4,f5⟩:=hf b hb
  exact⟨f3,f1,f4,f5⟩
 ·obtain ⟨o,es,ep,ho,r⟩:=hm
  exact⟨o,es,ep,off _ o (fun z=>(hf _ z).2.1 rfl) ho,r⟩
theorem HOk.off {P:Program} {w:World} {h h':Heap} {ch:List Addr} (x:HOk P w H h) (hn:∀ b∈ch,H b=none) (off:Off ch h h'):HOk P w H h':=fun a o e=>by
 have na:∀ b u,H b=some u→b∉ch:=fun b u q z=>by rw [hn b z] at q;cases q
 refine (x a o e).stay (fun b u hb q=>off b u ?_ q) (fun _ q=>q) fun _ _ q=>q
 rcases hb with rfl|hb
 ·exact na _ _ e
 ·exact na _ _ hb
theorem HOk.offNew {P:Program} {w:World} {h h':Heap} {ch:List Addr} {T:Addr} {ob:HO} (x:HOk P w H h) (hn:∀ b∈ch,H b=none) (off:Off ch h h') (hT:h.objs.size≤T) (new:ObjOk P w (upd H T ob) h' T ob):HOk P w (upd H T ob) h':=fun a o e=>by
 have hTn:=x.fresh hT
 have na:∀ b u,H b=some u→b∉ch:=fun b u q z=>by rw [hn b z] at q;cases q
 by_cases ha:a=T
 ·subst ha;rw [upd_same] at e;cases e;exact new
 ·rw [upd_ne ha] at e
  refine (x a o e).stay (fun b u hb q=>off b u ?_ q) (fun c q=>by rw [upd_ne (ne_of_none q hTn)];exact q) fun c xs q=>by rw [upd_ne (ne_of_none q hTn)];exact q
  rcases hb with rfl|hb
  ·exact na _ _ e
  ·exact na _ _ hb
end
theorem off_mem {c:Addr} {n:Nat} (z:c∈([n,n+1,n+3,n+4]:List Addr)):c∈([n+4,n+2,n+3,n,n+1]:List Addr):=by
 simp only [List.mem_cons,List.not_mem_nil,or_false] at z ⊢
 rcases z with h|h|h|h <;> simp [h]
noncomputable def Itz (K : PySem.W.Frag) (k1 k2 : Bool) (a b : Addr) : It :=
  ⟨fun i H => ∃ xs ys x y, Sq k1 K H a xs ∧ Sq k2 K H b ys ∧ xs[i]?=some x ∧ ys[i]?=some y,
   fun i H v H' => ∃ p x y, v=.ref p ∧ H p=none ∧ (∀ xs, Sq k1 K H a xs → xs[i]?=some x) ∧ (∀ ys, Sq k2 K H b ys → ys[i]?=some y) ∧ H'=upd H p (.tup [x, y]),
   fun i H => ∃ xs ys, Sq k1 K H a xs ∧ Sq k2 K H b ys ∧ (xs.length ≤ i ∨ ys.length ≤ i)⟩
theorem turn_zip2 {P:Program} {w:World} {K:PySem.W.Frag} {es:List Expr} {kk:Nat} {pos:Pos} {k1 k2:Bool} (n a b:Nat) (ha:a<n) (hb:b<n) :
  Turn P w K (.Tuple es kk pos) (Itz K k1 k2 a b) [n+4,n+2,n+3,n,n+1] (n+4) (fun i h=>Zip2 k1 k2 n a b i .none h) where
 mem:=by simp
 obj:=fun i h st c hc=>by
  obtain ⟨hz,hTI,⟨u,v,hTO⟩,hi1,hi2⟩:=st
  simp only [List.mem_cons,List.not_mem_nil,or_false] at hc
  rcases hc with rfl|rfl|rfl|rfl|rfl
  ·exact⟨_,hz,fun v z=>nomatch z⟩
  ·exact⟨_,hTI,fun v z=>nomatch z⟩
  ·exact⟨_,hTO,fun v z=>nomatch z⟩
  ·exact hi1.obj
  ·exact hi2.obj
 keep:=fun i h h' st k=>by
  obtain ⟨hz,hTI,⟨u,v,hTO⟩,hi1,hi2⟩:=st
  exact⟨k _ (by simp) _ hz,k _ (by simp) _ hTI,⟨u,v,k _ (by simp) _ hTO⟩,hi1.keep fun o e=>k _ (by simp) o e,hi2.keep fun o e=>k _ (by simp) o e⟩
 item:=by
  intro X hP hw hK hc i pins s σ H E I hf st hg
  subst hP hw hK
  obtain ⟨xs,ys,x,y,qx,qy,ex,ey⟩:=hg
  obtain ⟨is1,r1,s1,_⟩:=I.sq qx
  obtain ⟨is2,r2,s2,_⟩:=I.sq qy
  obtain ⟨u,hu,ru⟩:=r1.get ex
  obtain ⟨v,hv,rv⟩:=r2.get ey
  refine pyNext_zip2 st ha hb s1 s2 (x:=u) (y:=v) (by simpa using hu) (by simpa using hv) fun h' Z hT hsz off=>⟨_,rfl,?_⟩
  have hTn:H s.heap.objs.size=none:=I.hok.fresh (Nat.le_refl _)
  have zlt:n+4<s.heap.objs.size:=Heap.lt_size st.z
  refine wpAny_letOwnedTupleGo_zip Z.z fun h2 hz2 hs2=>?_
  have off2:Off [n+4,n+2,n+3,n,n+1] s.heap h2:=fun c o hc e=>(hs2.2 c fun z=>hc (by simp [z])).trans (off c o (fun z=>hc (off_mem z)) e)
  have hT2:IsT h2 s.heap.objs.size #[u,v]:=(hs2.2 _ (Nat.ne_of_gt zlt)).trans hT
  refine⟨.ref s.heap.objs.size,upd H s.heap.objs.size (.tup [x,y]),?_,rfl,⟨_,x,y,rfl,hTn,fun zs hzs=>by rw [I.sq_inj hzs qx];exact ex,fun zs hzs=>by rw [I.sq_inj hzs qy];exact ey,rfl⟩,?_,fun c hc=>?_⟩
  ·refine Inv.off (s:=s) (h':=h2) (t':=s.toks) (ch:=[n+4,n+2,n+3,n,n+1]) I hf off2 (I.hok.offNew (fun c hc=>(hf c hc).1) off2 (Nat.le_refl _) ?_) (fun c o _ e hn=>?_) fun c o e=>?_
   ·exact⟨by show 2≤sizeLine;decide,[u,v],.cons ru (.cons rv .nil),⟨_,hT2,rfl,_,rfl⟩⟩
   ·rw [upd_ne (Nat.ne_of_lt (Heap.lt_size e))];exact hn
   ·rw [upd_ne (ne_of_none e hTn)];exact e
  ·obtain ⟨z1,z2,⟨a1,a2,z3⟩,z4,z5⟩:=Z
   exact⟨hz2,(hs2.2 _ (nne (by lia))).trans z2,⟨a1,a2,(hs2.2 _ (nne (by lia))).trans z3⟩,z4.keep fun o e=>(hs2.2 _ (nne (by lia))).trans e,z5.keep fun o e=>(hs2.2 _ (nne (by lia))).trans e⟩
  ·have cn:c≠s.heap.objs.size:=by
    simp only [List.mem_cons,List.not_mem_nil,or_false] at hc
    rcases hc with rfl|rfl|rfl|rfl|rfl <;> exact nne (by lia)
   rw [upd_ne cn];exact (hf c hc).1
 done:=by
  intro X hP hw hK hc i pins s σ H E I hf st hg
  subst hP hw hK
  obtain ⟨xs,ys,qx,qy,hend⟩:=hg
  obtain ⟨is1,r1,s1,_⟩:=I.sq qx
  obtain ⟨is2,r2,s2,_⟩:=I.sq qy
  have e1:=r1.length
  have e2:=r2.length
  refine pyNext_zip2_end (I.ok.hd hc) st ha hb s1 s2 ?_ fun h' off=>⟨rfl,?_⟩
  ·rcases hend with z|z
   ·exact .inl (by simp;lia)
   ·exact .inr (by simp;lia)
  ·have off2:Off [n+4,n+2,n+3,n,n+1] s.heap h':=fun c o hc e=>off c o (fun z=>hc (off_mem z)) e
   exact Inv.off (s:=s) (t':=s.toks) I hf off2 (I.hok.off (fun c hc=>(hf c hc).1) off2) (fun _ _ _ _ q=>q) fun _ _ q=>q
 self:=fun _ _ _ _ _ st h=>wpAny_pyIter_zip st.z h
section
variable {X:Cx}
noncomputable def iZip2 (K:PySem.W.Frag) (k1 k2:Bool) (ta:TA):TI:=fun σ H R=>ta σ H fun vs H1=>∃ a b,vs=[.ref a,.ref b]∧(∃ xs,Sq k1 K H1 a xs)∧(∃ ys,Sq k2 K H1 b ys)∧R (Itz K k1 k2 a b) H1
theorem pi_zip2 (k1 k2:Bool) {es:List Expr} {kk:Nat} {tpos:Pos} {a b:Expr} {ta:TA} {p pos:Pos} (hg:Gl X "zip") (hm:X.mg "zip"=none) (ha:PA X [a,b] ta) (hs:starEach [a,b] X.env=[(false,eval a X.env),(false,eval b X.env)]:=by rfl) (hs2:starEach [b] X.env=[(false,eval b X.env)]:=by rfl) :
  PI X (.Tuple es kk tpos) (.Call (.Name "zip" p) [a,b] [] pos) (iZip2 X.K k1 k2 ta):=by
 intro pins s σ H R I h
 refine Call_ (ld_blt I hg hm boot_zip (PyProof.Rows.callWith_type1 (thn (ha pos pins s σ H _ I h) fun us s1 ⟨vs,H1,I1,r1,q1⟩=>?_) (by rw [hs,hs2]) (by rw [hs2];rfl)))
 obtain ⟨a',b',e,⟨xs,qx⟩,⟨ys,qy⟩,q⟩:=q1
 subst e
 obtain ⟨u,v,rfl,ru,rv⟩:=vals2 r1
 cases ru
 cases rv
 obtain ⟨is1,r1,s1',_⟩:=I1.sq qx
 obtain ⟨is2,r2,s2',_⟩:=I1.sq qy
 refine callType_new PySem.F.called_zip (by decide) (PySem.F.typeCall_zip_2 _ _) (PySem.F.newCall_zip_2 _ _) (fun obj=>PySem.F.args_object_init_3 obj _ _) PySem.F.entry_zip_new (zip2_made k1 k2 a' b' is1.toArray is2.toArray) ⟨s1',s2',?_⟩
 have z1:(s1.heap.push (itObj k1 a')).objs.size=s1.heap.objs.size+1:=Heap.size_push ..
 have z2:((s1.heap.push (itObj k1 a')).push (itObj k2 b')).objs.size=s1.heap.objs.size+2:=by rw [Heap.size_push,z1]
 have z3:(((s1.heap.push (itObj k1 a')).push (itObj k2 b')).push { cls:=.type "tuple",data:=.seq #[.ref s1.heap.objs.size,.ref (s1.heap.objs.size+1)] }).objs.size=s1.heap.objs.size+3:=by rw [Heap.size_push,z2]
 have z4:((((s1.heap.push (itObj k1 a')).push (itObj k2 b')).push { cls:=.type "tuple",data:=.seq #[.ref s1.heap.objs.size,.ref (s1.heap.objs.size+1)] }).push { cls:=.type "tuple",data:=.seq #[.none,.none] }).objs.size=s1.heap.objs.size+4:=by rw [Heap.size_push,z3]
 have g5:(zh5 k1 k2 s1.heap a' b').get? (s1.heap.objs.size+4)=some { cls:=.type "zip",data:=.fields #[.none,.bool false,.bool false,.ref (s1.heap.objs.size+2),.ref (s1.heap.objs.size+3)] }:=by rw [← z4];exact Heap.get?_push_size _ rfl
 have g4:(zh5 k1 k2 s1.heap a' b').get? (s1.heap.objs.size+3)=some { cls:=.type "tuple",data:=.seq #[.none,.none] }:=by rw [← z3];exact Heap.get?_push_of_some _ (Heap.get?_push_size _ rfl)
 have g3:(zh5 k1 k2 s1.heap a' b').get? (s1.heap.objs.size+2)=some { cls:=.type "tuple",data:=.seq #[.ref s1.heap.objs.size,.ref (s1.heap.objs.size+1)] }:=by rw [← z2];exact Heap.get?_push_of_some _ (Heap.get?_push_of_some _ (Heap.get?_push_size _ rfl))
 have g2:(zh5 k1 k2 s1.heap a' b').get? (s1.heap.objs.size+1)=some (itObj k2 b'):=by rw [← z1];exact Heap.get?_push_of_some _ (Heap.get?_push_of_some _ (Heap.get?_push_of_some _ (Heap.get?_push_size _ (by cases k2 <;> rfl))))
 have g1:(zh5 k1 k2 s1.heap a' b').get? s1.heap.objs.size=some (itObj k1 a'):=Heap.get?_push_of_some _ (Heap.get?_push_of_some _ (Heap.get?_push_of_some _ (Heap.get?_push_of_some _ (Heap.get?_push_size _ (by cases k1 <;> rfl)))))
 have old:∀ c o,s1.heap.get? c=some o→(zh5 k1 k2 s1.heap a' b').get? c=some o:=fun c o x=>Heap.get?_push_of_some _ (Heap.get?_push_of_some _ (Heap.get?_push_of_some _ (Heap.get?_push_of_some _ (Heap.get?_push_of_some _ x))))
 have Z:Zip2 k1 k2 s1.heap.objs.size a' b' 0 .none (zh5 k1 k2 s1.heap a' b'):=⟨g5,g3,⟨_,_,g4⟩,itObj_at g1,itObj_at g2⟩
 show _∧_
 refine⟨⟨_,g5,rfl⟩,wpAny_pyIter_zip Z.z ?_⟩
 refine⟨_,_,_,_,H1,rfl,I1.kept (t':=s1.toks) old,turn_zip2 s1.heap.objs.size a' b' s1'.lt s2'.lt,Z,fun c hc=>?_,q⟩
 have hcl:s1.heap.objs.size≤c:=by
  simp only [List.mem_cons,List.not_mem_nil,or_false] at hc
  rcases hc with rfl|rfl|rfl|rfl|rfl <;> first|exact Nat.le_add_right _ _|exact Nat.le_refl _
 exact I1.fpOk hcl (I1.hok.fresh hcl)
end
end L2
namespace L2
open PySem PySem.Spec PyProof.Rows
noncomputable def bitsI (i:Int):Nat:=Builtin.Int.intBits i
noncomputable def CMulB (i j:Int):Prop:=bitsI i+bitsI j≤1000000
theorem CMulB.ok {i j:Int} (h:CMulB i j):IntMulOk i j:=by
 unfold IntMulOk
 intro z
 simp only [Bool.and_eq_true,decide_eq_true_eq] at z
 have z2:=z.2
 unfold Builtin.Int.intTooBig at z2
 have h':Builtin.Int.intBits i+Builtin.Int.intBits j≤1000000:=h
 have b:(1000000:Int)≤bitsLine:=by decide
 simp only [decide_eq_true_eq] at z2
 lia
noncomputable def CDivB (i j:Int):Prop:=0<j∧j.natAbs.log2<9000
noncomputable def CShlB (i j:Int):Prop:=0≤j∧(bitsI i:Int)+j≤1000000
section
variable {X:Cx}
theorem op_mulB:OpR X (binaryOp .Mult) (rI CMulB fun i j=>.int (i*j)):=opI fun _ _ _ _ _ _ _ hc q=>mul_int q hc.ok
theorem op_fdivB:OpR X (binaryOp .FloorDiv) (rI CDivB fun i j=>.int (i / j)):=opI fun i j _ _ _ _ _ hc q=>by
 have h1:(0:Int)<j:=hc.1
 exact floordiv_int (by lia) (by rw [Int.fdiv_eq_ediv_of_nonneg i (by lia)];exact q) (.inl (PyProof.noPylong_of_log2 hc.2))
theorem op_shlB:OpR X (binaryOp .LShift) (rI CShlB fun i j=>.int (i*2 ^ j.toNat)):=opI fun i j _ _ _ _ _ hc q=>lshift_int hc.1 (by have h:=hc.2;unfold bitsI at h;lia) q
theorem mt_bitlen:MtR X "int.bit_length" (fun x xs H Q=>∃ i,x=.int i∧xs=[]∧Q (.int (bitsI i)) H):=by
 intro pins s σ H x xs v us Q I rx rs h
 obtain ⟨i,rfl,rfl,q⟩:=h
 obtain ⟨t,rfl⟩:=rx
 cases rs
 exact call_int_bit_length ⟨.int (bitsI i),H,I.tok _,⟨_,rfl⟩,q⟩
noncomputable def TyR (K:PySem.W.Frag) (H:Hp) (x:V) (t:Value):Prop:=TyOf K H x t∨(∃ a xs,x=.ref a∧SqT K H a xs∧t=.type "tuple")∨(∃ a xs,x=.ref a∧SqL K H a xs∧t=.type "list")
theorem call_isinst:CallR X (.builtin "isinstance") (fun xs H Q=>∃ x n t b,xs=[x,.ty n]∧TyR X.K H x t∧PySem.W.kitOne X.K t (.type n)=some b∧Q (.bl b) H):=by
 intro pins s σ H xs us Q I r h
 obtain ⟨x,n,t,b,rfl,ty,e,q⟩:=h
 obtain ⟨u,c,rfl,ru,rc⟩:=vals2 r
 obtain rfl:c=Value.type n:=rc
 have fin:∀ tk,EP X pins σ Q (.bool b) { s with toks:=tk }:=fun tk=>⟨.bl b,H,I.tok tk,rfl,q⟩
 rcases ty with ty|⟨a,ys,rfl,hs,rfl⟩|⟨a,ys,rfl,hs,rfl⟩
 ·exact isinst_ok I ru ty e fin
 ·obtain rfl:u=Value.ref a:=ru
  obtain ⟨its,_,p,_⟩:=I.tuple hs
  obtain ⟨o,h1,h2,_⟩:=p
  exact PySem.W.kia_one PySem.W.kitx_tuple I.kIn ⟨o,h1,h2⟩ e (fun z=>nomatch z) fin
 ·obtain rfl:u=Value.ref a:=ru
  obtain ⟨its,_,p,_⟩:=I.list hs
  obtain ⟨o,n',h1,h2,_⟩:=p
  exact PySem.W.kia_one PySem.W.kitx_list I.kIn ⟨o,h1,h2⟩ e (fun z=>nomatch z) fin
end
theorem kit_same (K:PySem.W.Frag) (t:Value):PySem.W.kitOne K t t=some true:=by
 unfold PySem.W.kitOne
 rw [if_pos (by simp)]
end L2
namespace L2
open PySem PySem.Spec PyProof.Rows
noncomputable def Def (K:PySem.W.Frag) (mg:Str→Option Value) (x:Str) (st:Stmt) (ps:List Str):Prop:=∃ f fd,Fun K x x st f fd∧mg x=some (.ref f)∧Binds K fd ps []
noncomputable def Ok (P:Program) (w:World) (K:PySem.W.Frag) (mg:Str→Option Value) (base:Heap) (k:Nat) (x:Str) (ps:List Str) (sp:Sp):Prop :=
 ∃ f fd,FnOk P w K mg base CX0 k f fd ps sp∧mg x=some (.ref f)∧PySem.W.keepIn K (.ref f)=true∧Binds K fd ps []
section
variable {P:Program} {w:World} {K:PySem.W.Frag} {mg:Str→Option Value} {base:Heap}
theorem Def.ok {x:Str} {st:Stmt} {N ps:List Str} {k:Nat} {sp:Sp} (D:Def K mg x st ps) (S:FnScope N ps (defScope st)) (len:∀ vs H Q E,sp vs H Q E→vs.length=ps.length)
  (hbody:∀ (f:Addr) (cdv:Value) (A:Around) (outer:List Env) (s:Shared) (H:Hp) (vs:List V) (Q:VK) (E:XK),Room k (A.deeper (envOfC x (defScope st) s.heap.objs.size f cdv))→sp vs H Q E →
   ∃ t,PSs (cxOf CX0 P w K mg base N x (defScope st) f cdv A outer s H E).nox (defBody st) t∧t { nx:=fun _ H'=>Q .non H',rt:=Q } (start N vs) H):Ok P w K mg base (k+1) x ps sp:=by
 obtain ⟨f,fd,F,hm,hb⟩:=D
 exact⟨f,fd,F.ok S len fun cdv A outer s H vs Q E hr h=>hbody f cdv A outer s H vs Q E hr h,hm,F.kp,hb⟩
end
section
variable {X:Cx} {k:Nat} {x:Str} {ps:List Str} {sp:Sp} {p pos:Pos} {e:Expr} {es:List Expr} {t:TA}
theorem pcall (O:Ok X.prog X.w X.K X.mg X.base k x ps sp) (hr:Room k X.A) (ha:PA X (e::es) t) (hg:Gl X x:=by rfl)
  (hdb:(x == ("__debug__":Str))=false:=by decide) (he:starEach (e::es) X.env=(false,eval e X.env)::starEach es X.env:=by rfl) (hpl:(backTo pos (starEach es X.env)).any (·.1)=false:=by rfl) :
  PE X (.Call (.Name x p) (e::es) [] pos) (tCall sp [] E0 t):=by
 obtain ⟨f,fd,F,hm,hk,hb⟩:=O
 exact pe_call F hr hg hm hk hb .nil pass0 ha hdb he hpl
end
noncomputable def spLaw (K:PySem.W.Frag):Sp:=fun vs H Q _=>∃ (a:Addr) (ns:List Int),vs=[.ref a]∧SqL K H a (ns.map V.int)∧ns.length≤63∧∀ H',Q (.bl true) H'
theorem Same.upd_new {H:Hp} {a:Addr} {o:HO} (h:H a=none):Same H (upd H a o):=fun b u e=>by rw [upd_ne (ne_of_none e h)];exact e
theorem Same.at {K:PySem.W.Frag} {H H':Hp} {a:Addr} {xs:List V} (e:Same H H') (h:SqT K H a xs):SqT K H' a xs:=by
 rcases h with (h|⟨o,h⟩)|h
 ·exact .inl (.inl (e _ _ h))
 ·exact .inl (.inr ⟨o,e _ _ h⟩)
 ·exact .inr h
theorem Same.sq {k:Bool} {K:PySem.W.Frag} {H H':Hp} {a:Addr} {xs:List V} (e:Same H H') (h:Sq k K H a xs):Sq k K H' a xs:=by
 cases k with
 | true=>exact Same.at e h
 | false=>exact Same.seq e h
noncomputable def CW (t:Nat) (l:Addr) (n:Nat) (f:Nat→V) (fr:St) (H1:Hp) (i m:Nat) (σ1:St) (ys:List V) (H':Hp):Prop :=
 m=n - i∧i≤n∧(∃ own:St,own.length=t∧σ1=own++fr)∧ys=(List.range i).map f∧Same H1 H'∧H' l=some (.lst ys)
theorem CW.next {t:Nat} {l:Addr} {n:Nat} {f:Nat→V} {fr:St} {H1 H' H5:Hp} {i:Nat} {y:V} (own:St) (ho:own.length=t) (hi:i<n) (hn:n≤1000000) (hl:H1 l=none) (hs:Same H1 H') (hl':H' l=some (.lst ((List.range i).map f))) (s5:Same H' H5) (ey:y=f i) :
  H5 l=some (.lst ((List.range i).map f))∧((List.range i).map f).length<sizeLine∧CW t l n f fr H1 (i+1) (n - (i+1)) (own++fr) ((List.range i).map f++[y]) (upd H5 l (.lst ((List.range i).map f++[y]))):=by
 subst ey
 refine⟨s5 _ _ hl',?_,rfl,hi,⟨own,ho,rfl⟩,?_,fun b o e=>?_,upd_same⟩
 ·rw [List.length_map,List.length_range]
  exact Nat.lt_of_lt_of_le (Nat.lt_of_lt_of_le hi hn) (by decide)
 ·rw [List.range_succ,List.map_append];rfl
 ·rw [upd_ne (ne_of_none e hl)]
  exact s5 _ _ (hs _ _ e)
theorem comp_by {J:It} {H1:Hp} {ix:List (Option Nat)} {σ:St} {g:TG} {tt:TT} {te:TE} {Q:VK} (t:Nat) (fr:St) (n:Nat) (f:Nat→V) (hpk:pick ix σ=List.replicate t none++fr)
  (hstop:∀ H',Same H1 H'→J.stop n H') (hgo:∀ i H',i<n→Same H1 H'→J.go i H')
  (step:∀ i x l H' H2 own,own.length=t→i<n→H1 l=none→Same H1 H'→H' l=some (.lst ((List.range i).map f))→J.yld i H' x H2 →
   g x (own++fr) H2 fun σ2 H3=>tt σ2 H3 fun b H4=>if b=true then te σ2 H4 fun y H5=>H5 l=some (.lst ((List.range i).map f))∧((List.range i).map f).length<sizeLine∧CW t l n f fr H1 (i+1) (n - (i+1)) σ2 ((List.range i).map f++[y]) (upd H5 l (.lst ((List.range i).map f++[y])))
    else CW t l n f fr H1 (i+1) (n - (i+1)) σ2 ((List.range i).map f) H4)
  (hQ:∀ l H',H1 l=none→Same H1 H'→H' l=some (.lst ((List.range n).map f))→Q (.ref l) H') :
  CompGoal ix g tt te σ Q J H1:=by
 intro l hl
 refine⟨CW t l n f fr H1,⟨n,by simp,Nat.zero_le _,⟨_,List.length_replicate,hpk⟩,rfl,Same.upd_new hl,upd_same⟩,?_⟩
 rintro i m σ1 ys H' ⟨rfl,hi,⟨own,ho,rfl⟩,rfl,hs,hl'⟩
 refine⟨hl',?_⟩
 by_cases hlt:i<n
 ·exact .inr ⟨hgo i H' hlt hs,n - (i+1),by lia,fun x H2 hy=>step i x l H' H2 own ho hlt hl hs hl' hy⟩
 ·obtain rfl:i=n:=by lia
  exact .inl ⟨hstop H' hs,hQ l H' hl hs hl'⟩
theorem rd_comp1 {J:It} {H1:Hp} {ix:List (Option Nat)} {σ:St} {te:TE} {Q:VK} (fr:St) (n:Nat) (f:Nat→V) (hpk:pick ix σ=none::fr) (hn:n≤1000000)
  (hstop:∀ H',Same H1 H'→J.stop n H') (hgo:∀ i H',i<n→Same H1 H'→J.go i H')
  (step:∀ i x H' H2 (Qc:VK),i<n→Same H1 H'→J.yld i H' x H2→(∀ H5,Same H' H5→Qc (f i) H5)→te (some x::fr) H2 Qc)
  (hQ:∀ l H',H1 l=none→Same H1 H'→H' l=some (.lst ((List.range n).map f))→Q (.ref l) H'):CompGoal ix (gName 0) (fun _ H Q=>Q true H) te σ Q J H1:=by
 refine comp_by 1 fr n f hpk hstop hgo (fun i x l H' H2 own ho hi hl hs hl' hy=>?_) hQ
 obtain ⟨o1,rfl⟩:∃ o1,own=[o1]:=by match own,ho with|[o1],_=>exact⟨o1,rfl⟩
 dsimp only [gName]
 rw [if_pos rfl]
 exact step i x H' H2 _ hi hs hy fun H5 s5=>CW.next (fr:=fr) [some x] rfl hi hn hl hs hl' s5 rfl
theorem rd_compZ {K:PySem.W.Frag} {k1 k2:Bool} {a b:Addr} {xs ys:List V} {H1:Hp} {ix:List (Option Nat)} {σ:St} {te:TE} {Q:VK} (fr:St) (f:Nat→V) (hpk:pick ix σ=none::none::fr) (ha:Sq k1 K H1 a xs) (hb:Sq k2 K H1 b ys) (hlen:xs.length=ys.length) (hn:xs.length≤1000000)
  (step:∀ i x y H' (Qc:VK),xs[i]?=some x→ys[i]?=some y→Same H1 H'→(∀ H5,Same H' H5→Qc (f i) H5)→te (some x::some y::fr) H' Qc)
  (hQ:∀ l H',H1 l=none→Same H1 H'→H' l=some (.lst ((List.range xs.length).map f))→Q (.ref l) H'):CompGoal ix (gTup K 2 (gCons (gName 0) (gCons (gName 1) gNil))) (fun _ H Q=>Q true H) te σ Q (Itz K k1 k2 a b) H1:=by
 refine comp_by 2 fr xs.length f hpk (fun H' s=>⟨_,_,s.sq ha,s.sq hb,.inl (Nat.le_refl _)⟩) (fun i H' hi s=>?_) (fun i x l H' H2 own ho hi hl hs hl' hy=>?_) hQ
 ·exact⟨_,_,xs[i],ys[i]'(hlen ▸ hi),s.sq ha,s.sq hb,List.getElem?_eq_getElem hi,List.getElem?_eq_getElem (hlen ▸ hi)⟩
 ·obtain ⟨o1,o2,rfl⟩:∃ o1 o2,own=[o1,o2]:=by match own,ho with|[o1,o2],_=>exact⟨o1,o2,rfl⟩
  obtain ⟨p,x',y',rfl,hp,e1,e2,rfl⟩:=hy
  have g1:=e1 _ (hs.sq ha)
  have g2:=e2 _ (hs.sq hb)
  refine⟨p,_,rfl,SqT.of upd_same,rfl,_,_,rfl,_,_,rfl,rfl,?_⟩
  show ite (true=true) _ _
  rw [if_pos rfl]
  exact step i x' y' _ _ g1 g2 (hs.trans (Same.upd_new hp)) fun H5 s5=>CW.next (fr:=fr) [some x',some y'] rfl hi hn hl hs hl' ((Same.upd_new hp).trans s5) rfl
theorem int_get {r:List Int} {i:Nat} {x:V} (h:(r.map V.int)[i]?=some x):x=.int (r.getD i 0)∧i<r.length:=by
 rw [List.getElem?_map] at h
 cases e:r[i]? with
 | none=>rw [e] at h;cases h
 | some z =>
  rw [e] at h
  have hl:=(List.getElem?_eq_some_iff.mp e).1
  refine⟨?_,hl⟩
  rw [← (Option.some.inj h),List.getD,e];rfl
theorem int_at {r:List Int} {i:Nat} (h:i<r.length):(r.map V.int)[i]?=some (.int (r.getD i 0)):=by
 rw [List.getElem?_map,List.getD,List.getElem?_eq_getElem h];rfl
theorem range_getD {α:Type} (f:Int→α) (r:List Int):(List.range r.length).map (fun i=>f (r.getD i 0))=r.map f:=by
 apply List.ext_getElem
 ·simp
 ·intro i h1 h2
  simp at h1 h2
  simp [List.getD,h1]
theorem range_zip {α:Type} (f:Int→Int→α) (r q:List Int) (h:r.length=q.length):(List.range r.length).map (fun i=>f (r.getD i 0) (q.getD i 0))=List.zipWith f r q:=by
 apply List.ext_getElem
 ·simp [h]
 ·intro i h1 h2
  simp at h1 h2
  have:i<q.length:=by lia
  simp [List.getD,h1,this]
theorem rd_zipRows {K:PySem.W.Frag} {a b:Addr} {r q:List Int} {H1:Hp} {ix:List (Option Nat)} {σ:St} {Q:VK} (op:Int→Int→Int) (hpk:pick ix σ=[none,none]) (ha:SqT K H1 a (r.map V.int)) (hb:SqT K H1 b (q.map V.int)) (hlen:r.length=q.length) (hn:r.length≤1000)
  (hQ:∀ l H',H1 l=none→Same H1 H'→H' l=some (.lst ((List.zipWith op r q).map V.int))→Q (.ref l) H') :
  CompGoal ix (gTup K 2 (gCons (gName 0) (gCons (gName 1) gNil))) (fun _ H Q=>Q true H) (tOp (rI0 fun i j=>.int (op i j)) (tVar 0) (tVar 1)) σ Q (Itz K true true a b) H1:=by
 refine rd_compZ (k1:=true) (k2:=true) [] (fun i=>.int (op (r.getD i 0) (q.getD i 0))) hpk ha hb (by simpa using hlen) (by rw [List.length_map];lia) (fun i x y H' Qc ex ey hs kc=>?_) fun l H' hl hs hl'=>hQ l H' hl hs ?_
 ·obtain ⟨rfl,_⟩:=int_get ex
  obtain ⟨rfl,_⟩:=int_get ey
  exact⟨_,rfl,_,rfl,_,_,rfl,rfl,kc _ (Same.refl _)⟩
 ·rw [hl',List.length_map,range_zip (fun x y=>V.int (op x y)) r q hlen,List.map_zipWith]
theorem rd_mapRow {K:PySem.W.Frag} {a:Addr} {r:List Int} {H1:Hp} {ix:List (Option Nat)} {σ:St} {te:TE} {Q:VK} (F:Int→V) (fr:St) (hpk:pick ix σ=none::fr) (ha:SqT K H1 a (r.map V.int)) (hn:r.length≤1000)
  (step:∀ x H' (Qc:VK),x∈r→Same H1 H'→(∀ H5,Same H' H5→Qc (F x) H5)→te (some (.int x)::fr) H' Qc)
  (hQ:∀ l H',H1 l=none→Same H1 H'→H' l=some (.lst (r.map F))→Q (.ref l) H'):CompGoal ix (gName 0) (fun _ H Q=>Q true H) te σ Q (Itt K a) H1:=by
 refine rd_comp1 fr r.length (fun i=>F (r.getD i 0)) hpk (by lia) (fun H' s=>⟨_,s.at ha,by simp⟩) (fun i H' hi s=>⟨_,_,s.at ha,int_at hi⟩) (fun i x H' H2 Qc hi hs hy kc=>?_) fun l H' hl hs hl'=>hQ l H' hl hs ?_
 ·obtain ⟨rfl,e1⟩:=hy
  obtain ⟨rfl,_⟩:=int_get (e1 _ (hs.at ha))
  exact step _ _ Qc (by rw [List.getD,List.getElem?_eq_getElem hi];exact List.getElem_mem hi) hs kc
 ·rw [hl',range_getD F r]
theorem rd_range {n:Nat} {H1:Hp} {ix:List (Option Nat)} {σ:St} {te:TE} {Q:VK} (F:Int→V) (fr:St) (hpk:pick ix σ=none::fr) (hn:n≤1000000)
  (step:∀ (i:Nat) H' (Qc:VK),i<n→Same H1 H'→(∀ H5,Same H' H5→Qc (F (i:Int)) H5)→te (some (.int (i:Int))::fr) H' Qc)
  (hQ:∀ l H',H1 l=none→Same H1 H'→H' l=some (.lst ((List.range n).map fun i=>F ((i:Nat):Int)))→Q (.ref l) H'):CompGoal ix (gName 0) (fun _ H Q=>Q true H) te σ Q (Itr 0 n) H1:=by
 refine rd_comp1 fr n (fun i=>F ((i:Nat):Int)) hpk hn (fun _ _=>Nat.le_refl _) (fun i _ hi _=>hi) (fun i x H' H2 Qc hi hs hy kc=>?_) hQ
 obtain ⟨rfl,rfl⟩:=hy
 rw [Int.zero_add]
 exact step i _ Qc hi hs kc
end L2
namespace Mth
noncomputable def prod5 (a b c d e:Nat):Int:=2 ^ a*3 ^ b*5 ^ c*7 ^ d*11 ^ e
noncomputable def numL (ps:List Int) (es:List Int):Int:=(List.zipWith (fun p e=>p ^ e.toNat) ps es).foldl (·*·) 1
noncomputable def primes:List Int:=[2,3,5,7,11]
noncomputable def num (es:List Int):Int:=numL primes es
theorem pw {p:Int} {n:Nat} (h:0<p):0<p ^ n:=by
 induction n with
 | zero=>rw [Int.pow_zero];decide
 | succ n ih=>rw [Int.pow_succ];exact Int.mul_pos ih h
theorem prod5_pos (a b c d e:Nat):0<prod5 a b c d e:=by
 unfold prod5
 have h2:=pw (n:=a) (show (0:Int)<2 by decide)
 have h3:=pw (n:=b) (show (0:Int)<3 by decide)
 have h5:=pw (n:=c) (show (0:Int)<5 by decide)
 have h7:=pw (n:=d) (show (0:Int)<7 by decide)
 have h11:=pw (n:=e) (show (0:Int)<11 by decide)
 exact Int.mul_pos (Int.mul_pos (Int.mul_pos (Int.mul_pos h2 h3) h5) h7) h11
theorem prod5_mul (a b c d e a' b' c' d' e':Nat):prod5 a b c d e*prod5 a' b' c' d' e'=prod5 (a+a') (b+b') (c+c') (d+d') (e+e'):=by
 unfold prod5
 simp only [Int.pow_add]
 ac_rfl
theorem nd_mul2 {x y:Int} (hx:x % 2≠0) (hy:y % 2≠0):x*y % 2≠0:=by
 rw [Int.mul_emod]
 have h1:x % 2=1:=by lia
 have h2:y % 2=1:=by lia
 rw [h1,h2];decide
theorem nd_mul3 {x y:Int} (hx:x % 3≠0) (hy:y % 3≠0):x*y % 3≠0:=by
 rw [Int.mul_emod]
 have h1:x % 3=1∨x % 3=2:=by lia
 have h2:y % 3=1∨y % 3=2:=by lia
 rcases h1 with h1|h1 <;> rcases h2 with h2|h2 <;> rw [h1,h2] <;> decide
theorem nd_mul5 {x y:Int} (hx:x % 5≠0) (hy:y % 5≠0):x*y % 5≠0:=by
 rw [Int.mul_emod]
 have h1:x % 5=1∨x % 5=2∨x % 5=3∨x % 5=4:=by lia
 have h2:y % 5=1∨y % 5=2∨y % 5=3∨y % 5=4:=by lia
 rcases h1 with h1|h1|h1|h1 <;> rcases h2 with h2|h2|h2|h2 <;> rw [h1,h2] <;> decide
theorem nd_mul7 {x y:Int} (hx:x % 7≠0) (hy:y % 7≠0):x*y % 7≠0:=by
 rw [Int.mul_emod]
 have h1:x % 7=1∨x % 7=2∨x % 7=3∨x % 7=4∨x % 7=5∨x % 7=6:=by lia
 have h2:y % 7=1∨y % 7=2∨y % 7=3∨y % 7=4∨y % 7=5∨y % 7=6:=by lia
 rcases h1 with h1|h1|h1|h1|h1|h1 <;> rcases h2 with h2|h2|h2|h2|h2|h2 <;> rw [h1,h2] <;> decide
theorem nd_mul11 {x y:Int} (hx:x % 11≠0) (hy:y % 11≠0):x*y % 11≠0:=by
 rw [Int.mul_emod]
 have k:∀ i:_root_.Fin 11,∀ j:_root_.Fin 11,i.val≠0→j.val≠0→(((i.val:Nat):Int)*((j.val:Nat):Int)) % 11≠0:=by decide
 obtain ⟨i,hi⟩:=Int.eq_ofNat_of_zero_le (Int.emod_nonneg x (show (11:Int)≠0 by decide))
 obtain ⟨j,hj⟩:=Int.eq_ofNat_of_zero_le (Int.emod_nonneg y (show (11:Int)≠0 by decide))
 have h1:=Int.emod_lt_of_pos x (show (0:Int)<11 by decide)
 have h2:=Int.emod_lt_of_pos y (show (0:Int)<11 by decide)
 rw [hi,hj]
 exact k ⟨i,by lia⟩ ⟨j,by lia⟩ (by show i≠0;lia) (by show j≠0;lia)
noncomputable def P5 (p:Int):Prop:=p=2∨p=3∨p=5∨p=7∨p=11
theorem P5.pos {p:Int} (h:P5 p):2≤p:=by rcases h with rfl|rfl|rfl|rfl|rfl <;> decide
theorem nd_mul {p x y:Int} (hp:P5 p) (hx:x % p≠0) (hy:y % p≠0):x*y % p≠0:=by
 rcases hp with rfl|rfl|rfl|rfl|rfl
 ·exact nd_mul2 hx hy
 ·exact nd_mul3 hx hy
 ·exact nd_mul5 hx hy
 ·exact nd_mul7 hx hy
 ·exact nd_mul11 hx hy
theorem nd_pow {p x:Int} (hp:P5 p) (hx:x % p≠0):∀ n:Nat,x ^ n % p≠0
 | 0=>by rw [Int.pow_zero];rcases hp with rfl|rfl|rfl|rfl|rfl <;> decide
 | n+1=>by rw [Int.pow_succ];exact nd_mul hp (nd_pow hp hx n) hx
theorem pow_split {p m m':Int} (hp:P5 p):∀ {a a':Nat},p ^ a*m=p ^ a'*m'→m % p≠0→m' % p≠0→a=a'∧m=m'
 | 0,0,h,_,_=>⟨rfl,by simpa using h⟩
 | 0,a'+1,h,hm,_=>by
  exfalso;apply hm
  rw [Int.pow_zero,Int.one_mul] at h
  rw [h,Int.pow_succ,Int.mul_assoc,Int.mul_left_comm]
  exact Int.mul_emod_right _ _
 | a+1,0,h,_,hm'=>by
  exfalso;apply hm'
  rw [Int.pow_zero,Int.one_mul] at h
  rw [← h,Int.pow_succ,Int.mul_assoc,Int.mul_left_comm]
  exact Int.mul_emod_right _ _
 | a+1,a'+1,h,hm,hm'=>by
  have h2:=hp.pos
  have h':p*(p ^ a*m)=p*(p ^ a'*m'):=by
   rw [Int.pow_succ,Int.pow_succ] at h
   rw [← Int.mul_assoc,← Int.mul_assoc,Int.mul_comm p,Int.mul_comm p];exact h
  obtain ⟨e1,e2⟩:=pow_split hp (Int.eq_of_mul_eq_mul_left (by lia) h') hm hm'
  exact⟨by lia,e2⟩
theorem prod5_inj {a b c d e a' b' c' d' e':Nat} (h:prod5 a b c d e=prod5 a' b' c' d' e'):a=a'∧b=b'∧c=c'∧d=d'∧e=e':=by
 unfold prod5 at h
 have p2:P5 2:=.inl rfl
 have p3:P5 3:=.inr (.inl rfl)
 have p5:P5 5:=.inr (.inr (.inl rfl))
 have p7:P5 7:=.inr (.inr (.inr (.inl rfl)))
 have p11:P5 11:=.inr (.inr (.inr (.inr rfl)))
 have r1:∀ a b c d e:Nat,(2:Int) ^ a*3 ^ b*5 ^ c*7 ^ d*11 ^ e=2 ^ a*(3 ^ b*5 ^ c*7 ^ d*11 ^ e):=fun a b c d e=>by ac_rfl
 have r2:∀ b c d e:Nat,(3:Int) ^ b*5 ^ c*7 ^ d*11 ^ e=3 ^ b*(5 ^ c*7 ^ d*11 ^ e):=fun b c d e=>by ac_rfl
 have r3:∀ c d e:Nat,(5:Int) ^ c*7 ^ d*11 ^ e=5 ^ c*(7 ^ d*11 ^ e):=fun c d e=>by ac_rfl
 have n2:∀ b c d e:Nat,(3:Int) ^ b*5 ^ c*7 ^ d*11 ^ e % 2≠0:=fun b c d e=>nd_mul p2 (nd_mul p2 (nd_mul p2 (nd_pow p2 (by decide) _) (nd_pow p2 (by decide) _)) (nd_pow p2 (by decide) _)) (nd_pow p2 (by decide) _)
 have n3:∀ c d e:Nat,(5:Int) ^ c*7 ^ d*11 ^ e % 3≠0:=fun c d e=>nd_mul p3 (nd_mul p3 (nd_pow p3 (by decide) _) (nd_pow p3 (by decide) _)) (nd_pow p3 (by decide) _)
 have n5:∀ d e:Nat,(7:Int) ^ d*11 ^ e % 5≠0:=fun d e=>nd_mul p5 (nd_pow p5 (by decide) _) (nd_pow p5 (by decide) _)
 have n7:∀ e:Nat,(11:Int) ^ e % 7≠0:=fun e=>nd_pow p7 (by decide) _
 rw [r1,r1] at h
 obtain ⟨ha,h⟩:=pow_split p2 h (n2 _ _ _ _) (n2 _ _ _ _)
 rw [r2,r2] at h
 obtain ⟨hb,h⟩:=pow_split p3 h (n3 _ _ _) (n3 _ _ _)
 rw [r3,r3] at h
 obtain ⟨hc,h⟩:=pow_split p5 h (n5 _ _) (n5 _ _)
 obtain ⟨hd,h⟩:=pow_split p7 h (n7 _) (n7 _)
 have h':(11:Int) ^ e*1=11 ^ e'*1:=by rw [Int.mul_one,Int.mul_one];exact h
 obtain ⟨he,_⟩:=pow_split p11 h' (by decide) (by decide)
 exact⟨ha,hb,hc,hd,he⟩
noncomputable def Cop (m:Int):Prop:=∀ p,P5 p→m % p≠0
end Mth
namespace Mth
noncomputable def bl (x:Int):Nat:=if x == 0 then 0 else x.natAbs.log2+1
theorem bl_le {x:Int} {k:Nat} (h:x.natAbs<2 ^ k):bl x≤k:=by
 unfold bl
 split
 ·lia
 ·rename_i hx
  have hx':x.natAbs≠0:=by simpa using hx
  have:=(Nat.log2_lt hx').mpr h
  lia
theorem pow_lt {p:Nat} (hp:p<16) (e:Nat):p ^ e<2 ^ (4*e+1):=by
 have h1:p ^ e≤16 ^ e:=Nat.pow_le_pow_left (by lia) e
 have h2:(16:Nat) ^ e=2 ^ (4*e):=by rw [show (16:Nat)=2 ^ 4 by decide,← Nat.pow_mul]
 have h3:(2:Nat) ^ (4*e)<2 ^ (4*e+1):=Nat.pow_lt_pow_right (by decide) (by lia)
 lia
theorem natAbs_pow (p:Int) (e:Nat):(p ^ e).natAbs=p.natAbs ^ e:=by
 induction e with
 | zero=>simp
 | succ e ih=>rw [Int.pow_succ,Int.natAbs_mul,ih,Nat.pow_succ]
theorem powI_lt {p:Int} (hp:p.natAbs<16) (e:Nat):(p ^ e).natAbs<2 ^ (4*e+1):=by
 rw [natAbs_pow]
 exact pow_lt hp e
theorem mul_lt {x y:Int} {a b:Nat} (hx:x.natAbs<2 ^ a) (hy:y.natAbs<2 ^ b):(x*y).natAbs<2 ^ (a+b):=by
 rw [Int.natAbs_mul,Nat.pow_add]
 exact Nat.mul_lt_mul'' hx hy
theorem bl_spec {x:Int} (h:1≤x):(2:Int) ^ (bl x - 1)≤x∧x<2 ^ bl x∧1≤bl x:=by
 have hx:x.natAbs≠0:=by lia
 have e:bl x=x.natAbs.log2+1:=by unfold bl;rw [if_neg (by simp;lia)]
 have e1:(2:Nat) ^ x.natAbs.log2≤x.natAbs:=Nat.log2_self_le hx
 have e2:x.natAbs<2 ^ (x.natAbs.log2+1):=Nat.lt_log2_self
 have c1:((2 ^ x.natAbs.log2:Nat):Int)=2 ^ x.natAbs.log2:=by push_cast;rfl
 have c2:((2 ^ (x.natAbs.log2+1):Nat):Int)=2 ^ (x.natAbs.log2+1):=by push_cast;rfl
 rw [e]
 refine⟨?_,?_,by lia⟩
 ·rw [Nat.add_sub_cancel,← c1];lia
 ·rw [← c2];lia
theorem pow2_pos (n:Nat):(0:Int)<2 ^ n:=pw (by decide)
theorem pow2_mono {a b:Nat} (h:a≤b):(2:Int) ^ a≤2 ^ b:=by
 obtain ⟨c,rfl⟩:=Nat.exists_eq_add_of_le h
 rw [Int.pow_add]
 have h1:=pow2_pos a
 have h2:=pow2_pos c
 have:(2:Int) ^ a*1≤2 ^ a*2 ^ c:=Int.mul_le_mul_of_nonneg_left (by lia) (by lia)
 lia
noncomputable def octR (top bot:Int):Int:=(bl (top*2 ^ (bl bot) / bot):Int) - 1 - (bl bot:Int)
noncomputable def GeP (n:Int) (top bot:Int):Prop:=2 ^ n.toNat*bot≤2 ^ (-n).toNat*top
theorem ge_shift {u v:Nat} {n x y:Int} (h:(v:Int) - (u:Int)=n):(2 ^ v*x≤2 ^ u*y)↔(2 ^ n.toNat*x≤2 ^ (-n).toNat*y):=by
 have key:∀ (c a b:Nat),(2 ^ (c+a)*x≤2 ^ (c+b)*y)↔(2 ^ a*x≤2 ^ b*y):=by
  intro c a b
  rw [Int.pow_add,Int.pow_add,Int.mul_assoc,Int.mul_assoc]
  have h2:=pow2_pos c
  constructor
  ·intro q;exact Int.le_of_mul_le_mul_left q h2
  ·intro q;exact Int.mul_le_mul_of_nonneg_left q (by lia)
 by_cases hn:0≤n
 ·have e1:(-n).toNat=0:=by lia
  have e2:v=u+n.toNat:=by lia
  have:=key u n.toNat 0
  rw [e1,e2];simpa using this
 ·have e1:n.toNat=0:=by lia
  have e2:u=v+(-n).toNat:=by lia
  have:=key v 0 (-n).toNat
  rw [e1,e2];simpa using this
theorem oct_spec {top bot:Int} (ht:1≤top) (hb:1≤bot):GeP (octR top bot) top bot∧¬ GeP (octR top bot+1) top bot:=by
 obtain ⟨_,b2,b3⟩:=bl_spec hb
 have hp:=pow2_pos (bl bot)
 have hx:bot≤top*2 ^ bl bot:=by
  have:1*2 ^ bl bot≤top*2 ^ bl bot:=Int.mul_le_mul_of_nonneg_right ht (by lia)
  lia
 have hw:1≤top*2 ^ bl bot / bot:=by
  apply (Int.le_ediv_iff_mul_le (by lia)).mpr
  lia
 obtain ⟨w1,w2,w3⟩:=bl_spec hw
 have w1':2 ^ (bl (top*2 ^ bl bot / bot) - 1)*bot≤top*2 ^ bl bot:=(Int.le_ediv_iff_mul_le (by lia)).mp w1
 have w2':¬ 2 ^ bl (top*2 ^ bl bot / bot)*bot≤top*2 ^ bl bot:=fun z=>by
  have:=(Int.le_ediv_iff_mul_le (show 0<bot by lia)).mpr z
  lia
 unfold GeP
 constructor
 ·refine (ge_shift (u:=bl bot) (v:=bl (top*2 ^ bl bot / bot) - 1) ?_).mp ?_
  ·unfold octR;lia
  ·rw [Int.mul_comm (2 ^ bl bot)];exact w1'
 ·intro z
  apply w2'
  have q:=(ge_shift (u:=bl bot) (v:=bl (top*2 ^ bl bot / bot)) (n:=octR top bot+1) (by unfold octR;lia)).mpr z
  rw [Int.mul_comm (2 ^ bl bot) top] at q
  exact q
end Mth
namespace Mth
noncomputable def top5 (a b c d e:Int):Int:=prod5 a.toNat b.toNat c.toNat d.toNat e.toNat
noncomputable def bot5 (a b c d e:Int):Int:=prod5 (-a).toNat (-b).toNat (-c).toNat (-d).toNat (-e).toNat
theorem top5_pos (a b c d e:Int):1≤top5 a b c d e:=prod5_pos ..
theorem bot5_pos (a b c d e:Int):1≤bot5 a b c d e:=prod5_pos ..
theorem prod5_congr {a b c d e a' b' c' d' e':Nat} (h1:a=a') (h2:b=b') (h3:c=c') (h4:d=d') (h5:e=e'):prod5 a b c d e=prod5 a' b' c' d' e':=by
 subst h1 h2 h3 h4 h5;rfl
theorem meas {a b c d e:Int} (ha:-700≤a) (hb:-60≤b) (hc:-60≤c) (hd:-60≤d) (he:-60≤e) :
  top5 a b c d e*prod5 700 60 60 60 60 / bot5 a b c d e=prod5 (a+700).toNat (b+60).toNat (c+60).toNat (d+60).toNat (e+60).toNat:=by
 have h:top5 a b c d e*prod5 700 60 60 60 60=bot5 a b c d e*prod5 (a+700).toNat (b+60).toNat (c+60).toNat (d+60).toNat (e+60).toNat:=by
  unfold top5 bot5
  rw [prod5_mul,prod5_mul]
  exact prod5_congr (by lia) (by lia) (by lia) (by lia) (by lia)
 rw [h,Int.mul_ediv_cancel_left]
 have:=bot5_pos a b c d e
 lia
noncomputable def F (m:Int) (x y:Int):Prop:=2 ^ (-m).toNat*y≤2 ^ m.toNat*x
noncomputable def rt (b c d e:Int):Int:=prod5 0 b.toNat c.toNat d.toNat e.toNat
noncomputable def rb (b c d e:Int):Int:=prod5 0 (-b).toNat (-c).toNat (-d).toNat (-e).toNat
theorem top5_rt (a b c d e:Int):top5 a b c d e=2 ^ a.toNat*rt b c d e:=by
 unfold top5 rt prod5
 rw [Int.pow_zero,Int.one_mul];ac_rfl
theorem bot5_rb (a b c d e:Int):bot5 a b c d e=2 ^ (-a).toNat*rb b c d e:=by
 unfold bot5 rb prod5
 rw [Int.pow_zero,Int.one_mul];ac_rfl
theorem le_F (a b c d e:Int):bot5 a b c d e≤top5 a b c d e↔F a (rt b c d e) (rb b c d e):=by
 rw [top5_rt,bot5_rb];exact Iff.rfl
theorem F_mul {m:Int} {x y:Int} {u v:Nat} (h:(u:Int) - (v:Int)=m):(2 ^ v*y≤2 ^ u*x)↔F m x y:=by
 unfold F
 have:=ge_shift (u:=u) (v:=v) (n:=-m) (x:=y) (y:=x) (by lia)
 rw [Int.neg_neg] at this
 exact this
theorem GeP_F (n a b c d e:Int):GeP n (top5 a b c d e) (bot5 a b c d e)↔F (a - n) (rt b c d e) (rb b c d e):=by
 unfold GeP
 rw [top5_rt,bot5_rb,← Int.mul_assoc,← Int.mul_assoc,← Int.pow_add,← Int.pow_add]
 exact F_mul (by lia)
theorem oct_F (a b c d e:Int):F (a - octR (top5 a b c d e) (bot5 a b c d e)) (rt b c d e) (rb b c d e)∧¬ F (a - octR (top5 a b c d e) (bot5 a b c d e) - 1) (rt b c d e) (rb b c d e):=by
 obtain ⟨h1,h2⟩:=oct_spec (top5_pos a b c d e) (bot5_pos a b c d e)
 refine⟨(GeP_F ..).mp h1,fun z=>h2 ((GeP_F ..).mpr ?_)⟩
 have:a - (octR (top5 a b c d e) (bot5 a b c d e)+1)=a - octR (top5 a b c d e) (bot5 a b c d e) - 1:=by lia
 rw [this];exact z
theorem pwmono {p:Int} (hp:1≤p) {m n:Nat} (h:m≤n):p ^ m≤p ^ n:=by
 obtain ⟨k,rfl⟩:=Nat.exists_eq_add_of_le h
 rw [Int.pow_add]
 have h1:0<p ^ m:=pw (by lia)
 have h2:0<p ^ k:=pw (by lia)
 have:p ^ m*1≤p ^ m*p ^ k:=Int.mul_le_mul_of_nonneg_left (by lia) (by lia)
 lia
theorem mul_le2 {x y u v:Int} (h1:x≤u) (h2:y≤v) (hx:0<x) (hy:0<y):x*y≤u*v :=
 Int.le_trans (Int.mul_le_mul_of_nonneg_right h1 (by lia)) (Int.mul_le_mul_of_nonneg_left h2 (by lia))
theorem prod5_mono {a b c d e a' b' c' d' e':Nat} (h1:a≤a') (h2:b≤b') (h3:c≤c') (h4:d≤d') (h5:e≤e'):prod5 a b c d e≤prod5 a' b' c' d' e':=by
 unfold prod5
 have p2:=pw (n:=a) (show (0:Int)<2 by decide)
 have p3:=pw (n:=b) (show (0:Int)<3 by decide)
 have p5:=pw (n:=c) (show (0:Int)<5 by decide)
 have p7:=pw (n:=d) (show (0:Int)<7 by decide)
 have p11:=pw (n:=e) (show (0:Int)<11 by decide)
 exact mul_le2 (mul_le2 (mul_le2 (mul_le2 (pwmono (by decide) h1) (pwmono (by decide) h2) p2 p3) (pwmono (by decide) h3) (Int.mul_pos p2 p3) p5) (pwmono (by decide) h4) (Int.mul_pos (Int.mul_pos p2 p3) p5) p7) (pwmono (by decide) h5) (Int.mul_pos (Int.mul_pos (Int.mul_pos p2 p3) p5) p7) p11
noncomputable def Bd (a b c d e:Int):Prop:=(-4000≤a∧a≤4000)∧(-100≤b∧b≤100)∧(-100≤c∧c≤100)∧(-100≤d∧d≤100)∧(-100≤e∧e≤100)
theorem prod5_lt {a b c d e:Nat} (h1:a≤4000) (h2:b≤100) (h3:c≤100) (h4:d≤100) (h5:e≤100):(prod5 a b c d e).natAbs<2 ^ 5100:=by
 have h:=prod5_mono h1 h2 h3 h4 h5
 have hp:=prod5_pos a b c d e
 have hb:prod5 4000 100 100 100 100<2 ^ 5100:=by decide +kernel
 have c:((2 ^ 5100:Nat):Int)=2 ^ 5100:=by decide +kernel
 lia
theorem top5_lt {a b c d e:Int} (h:Bd a b c d e):(top5 a b c d e).natAbs<2 ^ 5100:=by
 obtain ⟨⟨_,_⟩,⟨_,_⟩,⟨_,_⟩,⟨_,_⟩,⟨_,_⟩⟩:=h
 exact prod5_lt (by lia) (by lia) (by lia) (by lia) (by lia)
theorem bot5_lt {a b c d e:Int} (h:Bd a b c d e):(bot5 a b c d e).natAbs<2 ^ 5100:=by
 obtain ⟨⟨_,_⟩,⟨_,_⟩,⟨_,_⟩,⟨_,_⟩,⟨_,_⟩⟩:=h
 exact prod5_lt (by lia) (by lia) (by lia) (by lia) (by lia)
theorem log2_of {x:Int} {k:Nat} (h:x.natAbs<2 ^ k) (h0:x≠0):x.natAbs.log2<k:=(Nat.log2_lt (by lia)).mpr h
end Mth
namespace Mth
noncomputable def PPn (e0 e1 e2 e3 e4:Int):Nat→Int
 | 0=>1
 | 1=>1*2 ^ e0.toNat
 | 2=>1*2 ^ e0.toNat*3 ^ e1.toNat
 | 3=>1*2 ^ e0.toNat*3 ^ e1.toNat*5 ^ e2.toNat
 | 4=>1*2 ^ e0.toNat*3 ^ e1.toNat*5 ^ e2.toNat*7 ^ e3.toNat
 | _=>1*2 ^ e0.toNat*3 ^ e1.toNat*5 ^ e2.toNat*7 ^ e3.toNat*11 ^ e4.toNat
theorem PPn_5 (e0 e1 e2 e3 e4:Int):PPn e0 e1 e2 e3 e4 5=prod5 e0.toNat e1.toNat e2.toNat e3.toNat e4.toNat:=by
 show 1*2 ^ e0.toNat*3 ^ e1.toNat*5 ^ e2.toNat*7 ^ e3.toNat*11 ^ e4.toNat=_
 unfold prod5;rw [Int.one_mul]
theorem mx_toNat (x:Int):(if 0 > x then 0 else x).toNat=x.toNat:=by split <;> lia
theorem pw_bd {p:Int} (hp:p.natAbs<16) {e:Int} (he:e≤4000):(p ^ e.toNat).natAbs<2 ^ 16001 :=
 Nat.lt_of_lt_of_le (powI_lt hp e.toNat) (Nat.pow_le_pow_right (by decide) (by lia))
theorem PPn_lt {e0 e1 e2 e3 e4:Int} (h0:e0≤4000) (h1:e1≤4000) (h2:e2≤4000) (h3:e3≤4000) (h4:e4≤4000) (i:Nat):(PPn e0 e1 e2 e3 e4 i).natAbs<2 ^ (1+16001+16001+16001+16001+16001):=by
 have up:∀ {x:Int} {a b:Nat},x.natAbs<2 ^ a→a≤b→x.natAbs<2 ^ b:=fun h z=>Nat.lt_of_lt_of_le h (Nat.pow_le_pow_right (by decide) z)
 have g0:(1:Int).natAbs<2 ^ 1:=by decide
 have g1:=mul_lt g0 (pw_bd (p:=2) (by decide) h0)
 have g2:=mul_lt g1 (pw_bd (p:=3) (by decide) h1)
 have g3:=mul_lt g2 (pw_bd (p:=5) (by decide) h2)
 have g4:=mul_lt g3 (pw_bd (p:=7) (by decide) h3)
 have g5:=mul_lt g4 (pw_bd (p:=11) (by decide) h4)
 match i with
 | 0=>exact up g0 (by lia)
 | 1=>exact up g1 (by lia)
 | 2=>exact up g2 (by lia)
 | 3=>exact up g3 (by lia)
 | 4=>exact up g4 (by lia)
 | _+5=>exact up g5 (by lia)
theorem PPn_bits {e0 e1 e2 e3 e4:Int} (hb:e0≤4000∧e1≤4000∧e2≤4000∧e3≤4000∧e4≤4000∧-100000≤e0∧-100000≤e1∧-100000≤e2∧-100000≤e3∧-100000≤e4) {i:Nat} {p e:Int} (hp:p.natAbs<16) (he:e≤4000):bl (PPn e0 e1 e2 e3 e4 i)+bl (p ^ e.toNat)≤1000000:=by
 obtain ⟨h0,h1,h2,h3,h4,_⟩:=hb
 have a:=bl_le (PPn_lt h0 h1 h2 h3 h4 i)
 have b:=bl_le (pw_bd hp he)
 lia
end Mth
namespace Mth
theorem PPn_top (e0 e1 e2 e3 e4:Int):PPn e0 e1 e2 e3 e4 5=top5 e0 e1 e2 e3 e4:=PPn_5 ..
theorem PPn_bot (e0 e1 e2 e3 e4:Int):PPn (0 - e0) (0 - e1) (0 - e2) (0 - e3) (0 - e4) 5=bot5 e0 e1 e2 e3 e4:=by
 rw [PPn_5];unfold bot5;simp only [Int.zero_sub]
end Mth
namespace Mth
section
variable (c0 c1 c2 c3 c4:Nat) {m:Int} (h:Cop m)
include h
end
end Mth
namespace Mth
noncomputable def NS (a b c d e:Int):Int:=prod5 (a+4000).toNat (b+100).toNat (c+100).toNat (d+100).toNat (e+100).toNat
theorem NS_pos (a b c d e:Int):0<NS a b c d e:=prod5_pos ..
theorem cross {a b c d e a' b' c' d' e':Int} (h:Bd a b c d e) (h':Bd a' b' c' d' e'):top5 (a - a') (b - b') (c - c') (d - d') (e - e')*NS a' b' c' d' e'=bot5 (a - a') (b - b') (c - c') (d - d') (e - e')*NS a b c d e:=by
 obtain ⟨⟨_,_⟩,⟨_,_⟩,⟨_,_⟩,⟨_,_⟩,⟨_,_⟩⟩:=h
 obtain ⟨⟨_,_⟩,⟨_,_⟩,⟨_,_⟩,⟨_,_⟩,⟨_,_⟩⟩:=h'
 unfold top5 bot5 NS
 rw [prod5_mul,prod5_mul]
 exact prod5_congr (by lia) (by lia) (by lia) (by lia) (by lia)
theorem lt_NS {a b c d e a' b' c' d' e':Int} (h:Bd a b c d e) (h':Bd a' b' c' d' e'):top5 (a - a') (b - b') (c - c') (d - d') (e - e')<bot5 (a - a') (b - b') (c - c') (d - d') (e - e')↔NS a b c d e<NS a' b' c' d' e':=by
 have k:=cross h h'
 have p1:=top5_pos (a - a') (b - b') (c - c') (d - d') (e - e')
 have p2:=bot5_pos (a - a') (b - b') (c - c') (d - d') (e - e')
 have q1:=NS_pos a b c d e
 have q2:=NS_pos a' b' c' d' e'
 generalize top5 (a - a') (b - b') (c - c') (d - d') (e - e')=t at *
 generalize bot5 (a - a') (b - b') (c - c') (d - d') (e - e')=u at *
 generalize NS a b c d e=x at *
 generalize NS a' b' c' d' e'=y at *
 constructor
 ·intro z
  refine Int.lt_of_not_ge fun w=>?_
  have h1:t*y<u*y:=Int.mul_lt_mul_of_pos_right z q2
  have h2:u*y≤u*x:=Int.mul_le_mul_of_nonneg_left w (by lia)
  lia
 ·intro z
  refine Int.lt_of_not_ge fun w=>?_
  have h1:u*x<u*y:=Int.mul_lt_mul_of_pos_left z (by lia)
  have h2:u*y≤t*y:=Int.mul_le_mul_of_nonneg_right w (by lia)
  lia
theorem NS_inj {a b c d e a' b' c' d' e':Int} (h:Bd a b c d e) (h':Bd a' b' c' d' e') (z:NS a b c d e=NS a' b' c' d' e'):a=a'∧b=b'∧c=c'∧d=d'∧e=e':=by
 obtain ⟨⟨_,_⟩,⟨_,_⟩,⟨_,_⟩,⟨_,_⟩,⟨_,_⟩⟩:=h
 obtain ⟨⟨_,_⟩,⟨_,_⟩,⟨_,_⟩,⟨_,_⟩,⟨_,_⟩⟩:=h'
 obtain ⟨h1,h2,h3,h4,h5⟩:=prod5_inj z
 lia
noncomputable def Fold (a b c d e:Int):Prop:=bot5 a b c d e≤top5 a b c d e∧top5 a b c d e<2*bot5 a b c d e
theorem NS_oct {a b c d e:Int} (h:Bd a b c d e):NS (a+1) b c d e=2*NS a b c d e:=by
 obtain ⟨⟨h1,_⟩,_⟩:=h
 unfold NS prod5
 rw [show (a+1+4000).toNat=(a+4000).toNat+1 by lia,Int.pow_succ]
 simp only [Int.mul_assoc,Int.mul_comm,Int.mul_left_comm]
theorem fold_NS {a b c d e:Int} (h:Bd a b c d e):Fold a b c d e↔(NS 0 0 0 0 0≤NS a b c d e∧NS a b c d e<2*NS 0 0 0 0 0):=by
 have z:Bd 0 0 0 0 0:=by unfold Bd;lia
 have k:=cross h z
 simp only [Int.sub_zero] at k
 have p1:=top5_pos a b c d e
 have p2:=bot5_pos a b c d e
 have q1:=NS_pos a b c d e
 have q2:=NS_pos 0 0 0 0 0
 unfold Fold
 generalize top5 a b c d e=t at *
 generalize bot5 a b c d e=u at *
 generalize NS a b c d e=x at *
 generalize NS 0 0 0 0 0=y at *
 constructor
 ·rintro ⟨w1,w2⟩
  have h1:u*y≤t*y:=Int.mul_le_mul_of_nonneg_right w1 (by lia)
  have h2:t*y<2*u*y:=Int.mul_lt_mul_of_pos_right w2 q2
  refine⟨?_,?_⟩
  ·refine Int.le_of_not_gt fun w=>?_
   have:u*x<u*y:=Int.mul_lt_mul_of_pos_left w (by lia)
   lia
  ·refine Int.lt_of_not_ge fun w=>?_
   have h3:u*(2*y)≤u*x:=Int.mul_le_mul_of_nonneg_left w (by lia)
   have h4:u*(2*y)=2*u*y:=by rw [Int.mul_left_comm,Int.mul_assoc]
   lia
 ·rintro ⟨w1,w2⟩
  have h1:u*y≤u*x:=Int.mul_le_mul_of_nonneg_left w1 (by lia)
  have h2:u*x<u*(2*y):=Int.mul_lt_mul_of_pos_left w2 (by lia)
  have h4:u*(2*y)=2*u*y:=by rw [Int.mul_left_comm,Int.mul_assoc]
  refine⟨?_,?_⟩
  ·refine Int.le_of_not_gt fun w=>?_
   have:t*y<u*y:=Int.mul_lt_mul_of_pos_right w q2
   lia
  ·refine Int.lt_of_not_ge fun w=>?_
   have:2*u*y≤t*y:=Int.mul_le_mul_of_nonneg_right w (by lia)
   lia
end Mth
namespace Mth
theorem fold_ij {b c d e:Int} {i j:Nat} (h1:2 ^ j*rb b c d e≤2 ^ i*rt b c d e) (h2:2 ^ i*rt b c d e<2*(2 ^ j*rb b c d e)):Fold ((i:Int) - j) b c d e:=by
 have g1:F ((i:Int) - j) (rt b c d e) (rb b c d e):=(F_mul rfl).mp h1
 have g2:¬ F ((i:Int) - j - 1) (rt b c d e) (rb b c d e):=fun z=>by
  have z':=(F_mul (u:=i) (v:=j+1) (by lia)).mpr z
  rw [Int.pow_succ] at z'
  have:2 ^ j*2*rb b c d e=2*(2 ^ j*rb b c d e):=by rw [Int.mul_comm (2 ^ j) 2,Int.mul_assoc]
  lia
 generalize ((i:Int) - j)=n at g1 g2
 refine⟨(le_F ..).mpr g1,Int.lt_of_not_ge fun z=>g2 ?_⟩
 rw [top5_rt,bot5_rb] at z
 refine (F_mul (u:=n.toNat) (v:=(-n).toNat+1) (by lia)).mp ?_
 rw [Int.pow_succ]
 have:2 ^ (-n).toNat*2*rb b c d e=2*(2 ^ (-n).toNat*rb b c d e):=by rw [Int.mul_comm (2 ^ (-n).toNat) 2,Int.mul_assoc]
 lia
theorem rt_lt {b c d e:Int} (hb:b≤30) (hc:c≤30) (hd:d≤30) (he:e≤30):rt b c d e<2 ^ 400:=by
 have h:rt b c d e≤prod5 0 30 30 30 30:=prod5_mono (Nat.le_refl _) (by lia) (by lia) (by lia) (by lia)
 have:prod5 0 30 30 30 30<2 ^ 400:=by decide
 lia
theorem rb_lt {b c d e:Int} (hb:-30≤b) (hc:-30≤c) (hd:-30≤d) (he:-30≤e):rb b c d e<2 ^ 400:=by
 have h:rb b c d e≤prod5 0 30 30 30 30:=prod5_mono (Nat.le_refl _) (by lia) (by lia) (by lia) (by lia)
 have:prod5 0 30 30 30 30<2 ^ 400:=by decide
 lia
theorem top5_0 (b c d e:Int):top5 0 b c d e=rt b c d e:=by rw [top5_rt];simp
theorem bot5_0 (b c d e:Int):bot5 0 b c d e=rb b c d e:=by rw [bot5_rb];simp
theorem rt_pos (b c d e:Int):1≤rt b c d e:=prod5_pos ..
theorem rb_pos (b c d e:Int):1≤rb b c d e:=prod5_pos ..
theorem pow2_lt {i n:Nat} {x:Int} (h1:(2:Int) ^ i≤x) (h2:x<2 ^ n):i<n:=by
 refine Nat.lt_of_not_ge fun z=>?_
 have:=pow2_mono z
 lia
end Mth
namespace Mth
theorem pw_ins {α:Type} (f:α→Int) {qs:List α} {r:α} {n:Nat} (hs:qs.Pairwise fun a b=>f a<f b) (h1:∀ j q,j<n→qs[j]?=some q→f q<f r) (h2:∀ q,qs[n]?=some q→f r<f q) :
  (qs.take n++r::qs.drop n).Pairwise fun a b=>f a<f b:=by
 have hd:∀ q∈qs.drop n,f r<f q:=fun q hq=>by
  cases e:qs.drop n with
  | nil=>rw [e] at hq;cases hq
  | cons z zs =>
   have hz:qs[n]?=some z:=by rw [← List.head?_drop,e];rfl
   have hzr:=h2 z hz
   rw [e] at hq
   rcases List.mem_cons.mp hq with rfl|hq
   ·exact hzr
   ·have p:(z::zs).Pairwise fun a b=>f a<f b:=e ▸ hs.sublist (List.drop_sublist n qs)
    have:=(List.pairwise_cons.mp p).1 q hq
    lia
 have ht:∀ q∈qs.take n,f q<f r:=fun q hq=>by
  obtain ⟨j,hj,rfl⟩:=List.getElem_of_mem hq
  have hj':j<n:=by rw [List.length_take] at hj;lia
  refine h1 j _ hj' ?_
  rw [List.getElem_take,List.getElem?_eq_getElem (by rw [List.length_take] at hj;lia)]
 refine List.pairwise_append.mpr ⟨hs.sublist (List.take_sublist n qs),List.pairwise_cons.mpr ⟨hd,hs.sublist (List.drop_sublist n qs)⟩,fun a ha b hb=>?_⟩
 rcases List.mem_cons.mp hb with rfl|hb
 ·exact ht a ha
 ·have:=ht a ha
  have:=hd b hb
  lia
end Mth
namespace Mth
theorem NS_mono {a a' b c d e:Int} (h:a≤a'):NS a b c d e≤NS a' b c d e:=prod5_mono (by lia) (Nat.le_refl _) (Nat.le_refl _) (Nat.le_refl _) (Nat.le_refl _)
theorem fold_lt {n n' b c d e:Int} (h:Bd n b c d e) (h':Bd n' b c d e) (f:Fold n b c d e) (f':Fold n' b c d e):¬ n<n':=fun z=>by
 have g:=(fold_NS h).mp f
 have g':=(fold_NS h').mp f'
 have k:=NS_oct h
 have m:=NS_mono (b:=b) (c:=c) (d:=d) (e:=e) (show n+1≤n' by lia)
 lia
theorem fold_uniq {n n' b c d e:Int} (h:Bd n b c d e) (h':Bd n' b c d e) (f:Fold n b c d e) (f':Fold n' b c d e):n=n':=by
 have h1:=fold_lt h h' f f'
 have h2:=fold_lt h' h f' f
 lia
theorem fold_oct (a b c d e:Int):Fold (a - octR (top5 a b c d e) (bot5 a b c d e)) b c d e:=by
 obtain ⟨h1,h2⟩:=oct_F a b c d e
 generalize a - octR (top5 a b c d e) (bot5 a b c d e)=n at h1 h2
 refine⟨(le_F ..).mpr h1,Int.lt_of_not_ge fun z=>h2 ?_⟩
 rw [top5_rt,bot5_rb] at z
 refine (F_mul (u:=n.toNat) (v:=(-n).toNat+1) (by lia)).mp ?_
 rw [Int.pow_succ]
 have:2 ^ (-n).toNat*2*rb b c d e=2*(2 ^ (-n).toNat*rb b c d e):=by rw [Int.mul_comm (2 ^ (-n).toNat) 2,Int.mul_assoc]
 lia
theorem fold_bd {n b c d e:Int} (hb:-30≤b∧b≤30) (hc:-30≤c∧c≤30) (hd:-30≤d∧d≤30) (he:-30≤e∧e≤30) (f:Fold n b c d e):-400≤n∧n≤400:=by
 obtain ⟨f1,f2⟩:=f
 rw [top5_rt,bot5_rb] at f1 f2
 have t1:=rt_lt (b:=b) (c:=c) (d:=d) (e:=e) (by lia) (by lia) (by lia) (by lia)
 have b1:=rb_lt (b:=b) (c:=c) (d:=d) (e:=e) (by lia) (by lia) (by lia) (by lia)
 have t2:=rt_pos b c d e
 have b2:=rb_pos b c d e
 generalize rt b c d e=t at *
 generalize rb b c d e=u at *
 refine⟨Int.le_of_not_gt fun z=>?_,Int.le_of_not_gt fun z=>?_⟩
 ·have e0:n.toNat=0:=by lia
  have m:(2:Int) ^ 400≤2 ^ (-n).toNat:=pow2_mono (by lia)
  have k:2 ^ (-n).toNat*1≤2 ^ (-n).toNat*u:=Int.mul_le_mul_of_nonneg_left b2 (Int.le_of_lt (pow2_pos _))
  rw [e0,Int.pow_zero,Int.one_mul] at f1
  lia
 ·have e0:(-n).toNat=0:=by lia
  have m:(2:Int) ^ 401≤2 ^ n.toNat:=pow2_mono (by lia)
  have k:2 ^ n.toNat*1≤2 ^ n.toNat*t:=Int.mul_le_mul_of_nonneg_left t2 (Int.le_of_lt (pow2_pos _))
  rw [e0,Int.pow_zero,Int.one_mul] at f2
  have q:(2:Int) ^ 401=2*2 ^ 400:=by rw [Int.pow_succ,Int.mul_comm]
  lia
theorem ms_NS {a b c d e:Int} (ha:-700≤a) (hb:-60≤b) (hc:-60≤c) (hd:-60≤d) (he:-60≤e):NS a b c d e=prod5 (a+700).toNat (b+60).toNat (c+60).toNat (d+60).toNat (e+60).toNat*prod5 3300 40 40 40 40:=by
 unfold NS
 rw [prod5_mul]
 exact prod5_congr (by lia) (by lia) (by lia) (by lia) (by lia)
theorem eq_of_order {α:Type} (f:α→Int):∀ {l m:List α},(l.Pairwise fun a b=>f a<f b)→(m.Pairwise fun a b=>f a<f b)→(∀ x,x∈l↔x∈m)→l=m
 | [],[],_,_,_=>rfl
 | [],y::m,_,_,h=>absurd ((h y).mpr (List.mem_cons_self ..)) (by simp)
 | x::l,[],_,_,h=>absurd ((h x).mp (List.mem_cons_self ..)) (by simp)
 | x::l,y::m,hl,hm,h=>by
  obtain ⟨l1,l2⟩:=List.pairwise_cons.mp hl
  obtain ⟨m1,m2⟩:=List.pairwise_cons.mp hm
  have exy:x=y:=by
   rcases List.mem_cons.mp ((h x).mp (List.mem_cons_self ..)) with z|z
   ·exact z
   ·rcases List.mem_cons.mp ((h y).mpr (List.mem_cons_self ..)) with z2|z2
    ·exact z2.symm
    ·have:=m1 x z
     have:=l1 y z2
     lia
  subst exy
  have hlm:∀ z,z∈l↔z∈m:=fun z=>by
   constructor
   ·intro hz
    rcases List.mem_cons.mp ((h z).mp (List.mem_cons_of_mem _ hz)) with e|e
    ·subst e;have:=l1 z hz;lia
    ·exact e
   ·intro hz
    rcases List.mem_cons.mp ((h z).mpr (List.mem_cons_of_mem _ hz)) with e|e
    ·subst e;have:=m1 z hz;lia
    ·exact e
  rw [eq_of_order f l2 m2 hlm]
theorem perm_of_map {α β:Type} {f:α→β} {qs ps:List β} (h:qs.Perm ps):∀ {l:List α},ps=l.map f→∃ m:List α,m.Perm l∧qs=m.map f:=by
 induction h with
 | nil=>intro l e;exact⟨[],by rw [List.map_eq_nil_iff.mp e.symm],rfl⟩
 | cons x _ ih =>
  intro l e
  cases l with
  | nil=>cases e
  | cons a l =>
   rw [List.map_cons] at e
   injection e with e1 e2
   obtain ⟨m,p,q⟩:=ih e2
   exact⟨a::m,p.cons a,by rw [List.map_cons,q,e1]⟩
 | swap x y l0 =>
  intro l e
  match l,e with
  | a::b::l,e =>
   simp only [List.map_cons,List.cons.injEq] at e
   obtain ⟨e1,e2,e3⟩:=e
   exact⟨b::a::l,.swap _ _ _,by rw [List.map_cons,List.map_cons,e1,e2,e3]⟩
 | trans _ _ ih1 ih2 =>
  intro l e
  obtain ⟨m,p,q⟩:=ih2 e
  obtain ⟨m',p',q'⟩:=ih1 q
  exact⟨m',p'.trans p,q'⟩
end Mth
namespace Mth
noncomputable def sub (a b:List Int):List Int:=List.zipWith (· - ·) a b
noncomputable def mulv (r:List Int) (k:Int):List Int:=r.map (·*k)
noncomputable def low (v s:List Int) (q:Int):List Int:=sub v (mulv s q)
end Mth
namespace Mth
noncomputable def BdM (M:Nat) (r:List Int):Prop:=∀ i,(r.getD i 0).natAbs≤M
noncomputable def at' (p:Nat) (v:List Int):Nat:=(v.getD p 0).natAbs
structure PS (n p M m l:Nat) (led os:List (List Int)):Prop where
 len:∀ v∈led++os,v.length=n
 bd:∀ v∈led++os,BdM M v
 lo:∀ v∈led,l≤at' p v∧at' p v≤m
 pos:0<l
 big:∃ v∈led,at' p v=m
 low:∃ v∈led,at' p v=l
 one:(∀ v∈led,0<v.getD p 0)∨∀ v∈led,v.getD p 0<0
 zero:∀ v∈os,v.getD p 0=0
end Mth
namespace Mth
noncomputable def mz (p:Nat) (rs:List (List Int)):Nat:=(rs.map (at' p)).sum
noncomputable def PI (n p M:Nat) (led os:List (List Int)):Prop :=
 (∀ v∈led++os,v.length=n)∧(∀ v∈led,v.getD p 0≠0)∧(∀ v∈os,v.getD p 0=0) ∧
  ((∀ v∈led++os,BdM M v)∨(∃ m l M',PS n p M' m l led os∧M'*m*m*l≤3*(M*M*M*M))∨(led.length≤1∧∀ v∈led++os,BdM (6*(M*M*M*M)) v))
end Mth
namespace Mth
noncomputable def r2 (p:Nat×Nat):List Int:=[(p.1:Int),(p.2:Int)]
noncomputable def prd:List (Nat×Nat)→Nat
 | []=>1
 | p::l=>p.2*prd l
noncomputable def tot:List (Nat×Nat)→Nat
 | []=>0
 | p::l=>p.1*prd l+p.2*tot l
end Mth
namespace Mth
noncomputable def gr (b:Nat):Nat→Nat
 | 0=>b
 | i+1=>4*gr b i+3
noncomputable def sb (b:Nat):Nat→Nat
 | 0=>0
 | i+1=>sb b i+gr b (i+1)+1
end Mth
namespace Mth
structure PT (p X m k:Nat) (led os:List (List Int)):Prop where
 bd:∀ v∈led++os,BdM X v
 hi:∀ v∈led,at' p v≤m
 one:(∀ v∈led,0<v.getD p 0)∨∀ v∈led,v.getD p 0<0
 low:∃ v∈led,at' p v+m≤k
end Mth
namespace Mth
noncomputable def gs (b:Nat):Nat→Nat
 | 0=>b
 | i+1=>3*gs b i+3
end Mth
namespace Mth
noncomputable def pd (R:List (List Int)):Nat→Nat→Int
 | _,0=>1
 | h,k+1=>(R.getD h []).getD h 0*pd R (h+1) k
end Mth
namespace Sgn
open PySem PySem.Builtin PySem.Builtin.Str PySem.StrLaws
theorem at_one {z:Str} {c i:Nat}:At z ⟨#[c]⟩ z.length i↔z.cps[i]?=some c:=by
 unfold At subAt
 show i+1≤z.cps.size∧(z.cps.extract i (i+1) == #[c])=true↔_
 constructor
 ·rintro ⟨h1,h2⟩
  have h3:=eq_of_beq h2
  have h4:(z.cps.extract i (i+1))[0]?=some c:=by rw [h3];rfl
  rw [Array.getElem?_extract] at h4
  split at h4
  ·simpa using h4
  ·cases h4
 ·intro h
  have hi:i<z.cps.size:=by
   rcases Nat.lt_or_ge i z.cps.size with h1|h1
   ·exact h1
   ·rw [Array.getElem?_eq_none h1] at h;cases h
  refine⟨hi,beq_iff_eq.mpr ?_⟩
  apply Array.ext
  ·rw [Array.size_extract];simp;lia
  ·intro j h1 h2
   have:j=0:=by simp at h2;lia
   subst this
   rw [Array.getElem_extract]
   rw [Array.getElem?_eq_getElem hi] at h
   simpa using h
end Sgn
namespace Sgn
open PySem PySem.Builtin PySem.Builtin.Str PySem.StrLaws
noncomputable def dgt (c:Nat):Bool:=decide (48≤c) && decide (c≤57)
noncomputable def digits:Str:=⟨#[48,49,50,51,52,53,54,55,56,57]⟩
theorem in_digits (c:Nat):(!(occurrences digits ⟨#[c]⟩ 0 digits.length 1).isEmpty)=dgt c:=by
 rw [Bool.eq_iff_iff,found_iff]
 have h1:(∃ i,i+Str.length ⟨#[c]⟩≤digits.length∧subAt digits ⟨#[c]⟩ i=true)↔∃ i:Nat,digits.cps[i]?=some c:=exists_congr fun i=>at_one (z:=digits) (c:=c) (i:=i)
 rw [h1]
 unfold dgt
 rw [Bool.and_eq_true,decide_eq_true_eq,decide_eq_true_eq]
 constructor
 ·rintro ⟨i,h⟩
  have hi:i<10:=by
   rcases Nat.lt_or_ge i 10 with h1|h1
   ·exact h1
   ·rw [Array.getElem?_eq_none (show digits.cps.size≤i from h1)] at h;cases h
  have h2:digits.cps[i]?=some (48+i):=by
   rcases (show i=0∨i=1∨i=2∨i=3∨i=4∨i=5∨i=6∨i=7∨i=8∨i=9 by lia) with rfl|rfl|rfl|rfl|rfl|rfl|rfl|rfl|rfl|rfl <;> rfl
  rw [h2] at h
  injection h
  lia
 ·rintro ⟨h,h'⟩
  refine⟨c - 48,?_⟩
  rcases (show c=48∨c=49∨c=50∨c=51∨c=52∨c=53∨c=54∨c=55∨c=56∨c=57 by lia) with rfl|rfl|rfl|rfl|rfl|rfl|rfl|rfl|rfl|rfl <;> rfl
noncomputable def cnt (z:Str) (m:Nat):Bool:=(decide (1≤z.length∧z.length≤m) && (z.cps[0]? != some 48)) && z.cps.toList.all dgt
end Sgn
namespace Sgn
open PySem PySem.Builtin PySem.Builtin.Str PySem.StrLaws PySem.NumText PySem.W.KIN PyProof.Rows
theorem dgt_all {z:Str} (h:z.cps.toList.all dgt=true):AllDigits z.cps.toList:=fun c hc=>by
 have:=List.all_eq_true.mp h c hc
 unfold dgt at this
 rw [Bool.and_eq_true,decide_eq_true_eq,decide_eq_true_eq] at this
 exact this
theorem val_ge:∀ (cs:List Nat) (a:Nat),a≤cs.foldl (fun acc c=>acc*10+(c - 48)) a
 | [],a=>Nat.le_refl _
 | c::cs,a=>Nat.le_trans (by lia) (val_ge cs (a*10+(c - 48)))
theorem val_lt:∀ (cs:List Nat) (a:Nat),AllDigits cs→cs.foldl (fun acc c=>acc*10+(c - 48)) a<(a+1)*10 ^ cs.length
 | [],a,_=>by simp
 | c::cs,a,h=>by
  have h1:=h c (.head _)
  refine Nat.lt_of_lt_of_le (val_lt cs _ fun d hd=>h d (.tail _ hd)) ?_
  rw [List.length_cons,Nat.pow_succ,Nat.mul_comm (10 ^ cs.length) 10,← Nat.mul_assoc]
  have h2:a*10+(c - 48)+1≤(a+1)*10:=by lia
  exact Nat.mul_le_mul_right _ h2
noncomputable def num (z:Str):Nat:=digitsVal z.cps.toList
theorem cnt_reads {z:Str} {m:Nat} (h:cnt z m=true) (hm:m≤600):PySem.intText? z=some ((num z:Nat):Int)∧0<num z∧num z<10 ^ m∧z.length≤m:=by
 unfold cnt at h
 rw [Bool.and_eq_true,Bool.and_eq_true,decide_eq_true_eq] at h
 obtain ⟨⟨⟨h1,h2⟩,h3⟩,h4⟩:=h
 have hd:=dgt_all h4
 have hl:z.cps.toList.length=z.length:=Array.length_toList
 have hne:z.cps.toList≠[]:=fun e=>by rw [e] at hl;simp at hl;lia
 refine⟨intText_digits hd hne (by lia),?_,?_,h2⟩
 ·unfold num digitsVal
  have h0:z.cps.toList[0]?≠some 48:=by
   rw [Array.getElem?_toList]
   simpa using h3
  generalize z.cps.toList=cs at h0 hd hne
  cases cs with
  | nil=>exact absurd rfl hne
  | cons c cs =>
   have hc:=hd c (.head _)
   have:c≠48:=fun e=>h0 (by rw [e];rfl)
   exact Nat.lt_of_lt_of_le (show 0<0*10+(c - 48) by lia) (val_ge cs _)
 ·have:=val_lt z.cps.toList 0 hd
  unfold num digitsVal
  refine Nat.lt_of_lt_of_le this ?_
  rw [Nat.zero_add,Nat.one_mul]
  exact Nat.pow_le_pow_right (by decide) (by lia)
noncomputable abbrev txt (n:Nat):Str:=PySem.Str.ofString (toString ((n:Nat):Int))
theorem txt_head:∀ m:Nat,0<m→((Nat.toDigits 10 m).map Char.toNat)[0]?≠some 48:=by
 intro m
 induction m using Nat.strongRecOn with
 | _ m ih =>
  intro hm
  by_cases h:m<10
  ·rw [Nat.toDigits_of_lt_base h]
   rcases (show m=1∨m=2∨m=3∨m=4∨m=5∨m=6∨m=7∨m=8∨m=9 by lia) with rfl|rfl|rfl|rfl|rfl|rfl|rfl|rfl|rfl <;> decide
  ·have hm':m % 10<10:=Nat.mod_lt m (by decide)
   have t:Nat.toDigits 10 (m / 10)++Nat.toDigits 10 (m % 10)=Nat.toDigits 10 (10*(m / 10)+m % 10):=Nat.toDigits_append_toDigits (by decide) (by lia) hm'
   rw [Nat.div_add_mod] at t
   have:=ih (m / 10) (by lia) (by lia)
   rw [← t,List.map_append,List.getElem?_append]
   split
   ·exact this
   ·rename_i hl
    rw [List.getElem?_eq_none (by lia)] at this
    intro _
    have h1:=digitsVal
    have hv:=val_back (m / 10)
    rw [List.eq_nil_of_length_eq_zero (show ((Nat.toDigits 10 (m / 10)).map Char.toNat).length=0 by lia)] at hv
    have:(0:Nat)=m / 10:=hv
    lia
theorem txt_len:∀ (k m:Nat),0<k→m<10 ^ k→(Nat.toDigits 10 m).length≤k
 | 0,_,h,_=>absurd h (by decide)
 | 1,m,_,h=>by rw [Nat.toDigits_of_lt_base (by simpa using h)];exact Nat.le_refl _
 | k+2,m,_,h=>by
  by_cases h10:m<10
  ·rw [Nat.toDigits_of_lt_base h10];simp
  ·have hm':m % 10<10:=Nat.mod_lt m (by decide)
   have t:Nat.toDigits 10 (m / 10)++Nat.toDigits 10 (m % 10)=Nat.toDigits 10 (10*(m / 10)+m % 10):=Nat.toDigits_append_toDigits (by decide) (by lia) hm'
   rw [Nat.div_add_mod] at t
   have:=txt_len (k+1) (m / 10) (by lia) (by rw [Nat.pow_succ] at h;lia)
   rw [← t,List.length_append,Nat.toDigits_of_lt_base hm']
   show _+1≤_
   lia
theorem txt_cnt {n m:Nat} (h0:0<n) (hm:0<m) (h:n<10 ^ m):cnt (txt n) m=true∧num (txt n)=n:=by
 have hs:=signs_num n
 have hl:(txt n).length=(Nat.toDigits 10 n).length:=by
  show (txt n).cps.size=_
  rw [← Array.length_toList,hs,List.length_map]
 have h2:=txt_len m n hm h
 refine⟨?_,?_⟩
 ·unfold cnt
  rw [Bool.and_eq_true,Bool.and_eq_true,decide_eq_true_eq]
  have hge:1≤(Nat.toDigits 10 n).length:=by
   have hv:=val_back n
   rcases Nat.eq_zero_or_pos (Nat.toDigits 10 n).length with e|e
   ·rw [List.eq_nil_of_length_eq_zero e] at hv
    have:(0:Nat)=n:=hv
    lia
   ·exact e
  refine⟨⟨⟨by lia,by lia⟩,?_⟩,?_⟩
  ·rw [bne_iff_ne,← Array.getElem?_toList,hs]
   exact txt_head n h0
  ·rw [hs,List.all_eq_true]
   intro c hc
   obtain ⟨ch,hch,e⟩:=List.mem_map.mp hc
   have r:=digit_range (Nat.isDigit_of_mem_toDigits (by decide) (by decide) hch)
   unfold dgt
   rw [Bool.and_eq_true,decide_eq_true_eq,decide_eq_true_eq,← e]
   exact r
 ·unfold num
  rw [hs]
  exact val_back n
end Sgn
namespace Sgn
open PySem PySem.Builtin PySem.Builtin.Str PySem.StrLaws
theorem one_iff {c d:Nat}:(⟨#[c]⟩:Str)=⟨#[d]⟩↔c=d:=by
 constructor
 ·intro h
  injection h with h
  simpa using h
 ·rintro rfl;rfl
theorem str0:Str.ofString "0"=⟨#[48]⟩:=by decide
theorem str09:Str.ofString "0123456789"=digits:=by decide
theorem cnt_short {z:Str} {m:Nat} (h:¬ 1≤z.length):cnt z m=false:=by
 unfold cnt;rw [decide_eq_false (fun h'=>h h'.1)];rfl
theorem cnt_long {z:Str} {m:Nat} (h:¬ z.length≤m):cnt z m=false:=by
 unfold cnt;rw [decide_eq_false (fun h'=>h h'.2)];rfl
theorem cnt_nought {z:Str} {m:Nat} (h:z.cps[0]?=some 48):cnt z m=false:=by
 unfold cnt;rw [h];simp
theorem cnt_all {z:Str} {m c:Nat} (h1:1≤z.length) (h2:z.length≤m) (h3:z.cps[0]?=some c) (h4:c≠48):cnt z m=z.cps.toList.all dgt:=by
 unfold cnt
 rw [decide_eq_true ⟨h1,h2⟩,h3]
 have:(some c != some 48)=true:=by simpa using h4
 rw [this];rfl
theorem get0 {z:Str} (h:1≤z.length):∃ c,z.cps[0]?=some c:=⟨_,Array.getElem?_eq_getElem (show 0<z.cps.size from h)⟩
theorem range_get (l:List Nat):(List.range l.length).map (fun i=>(l[i]?).getD 0)=l:=by
 apply List.ext_getElem
 ·simp
 ·intro i h1 h2
  simp [h2]
theorem all_range (z:Str):((List.range z.cps.size).map fun i=>dgt ((z.cps[i]?).getD 0)).all id=z.cps.toList.all dgt:=by
 have h:=range_get z.cps.toList
 rw [Array.length_toList] at h
 conv=>rhs;rw [← h]
 rw [List.all_map,List.all_map]
 congr 1
 funext i
 simp
theorem txt_size {n m:Nat} (hm:0<m) (h:n<10 ^ m):(txt n).length≤m:=by
 have hs:=PySem.W.KIN.signs_num n
 show (txt n).cps.size≤m
 rw [← Array.length_toList,hs,List.length_map]
 exact txt_len m n hm h
end Sgn
namespace Sgn
open PySem
theorem empty_app (z:Str):Str.empty++z=z:=by
 cases z with
 | mk cs =>
  show (⟨#[]++cs⟩:Str)=⟨cs⟩
  rw [Array.empty_append]
end Sgn
namespace Sgn
open PySem PySem.Builtin PySem.Builtin.Str PySem.StrLaws PySem.NumText PySem.W.KIN PyProof.Rows
theorem log_bd {i:Int} (h:i.natAbs<2 ^ 1920):i.natAbs.log2<1920:=by
 rcases Nat.eq_zero_or_pos i.natAbs with e|e
 ·rw [e];decide
 ·exact (Nat.log2_lt (by lia)).mpr h
end Sgn
namespace Nam
open PySem PySem.Builtin PySem.Builtin.Str PySem.StrLaws PyProof.Rows
theorem ix_min (i j n:Nat):strSliceIndices (some (i:Int)) (some (j:Int)) 1 n=strSliceIndices (some ((min i n:Nat):Int)) (some ((min j n:Nat):Int)) 1 n:=by
 have h0:¬ (i:Int)<0:=by lia
 have h1:¬ (j:Int)<0:=by lia
 have h2:(1:Int) > 0:=by decide
 have h3:¬ ((min i n:Nat):Int)<0:=by lia
 have h4:¬ ((min j n:Nat):Int)<0:=by lia
 have e1:min (i:Int) (n:Int)=min ((min i n:Nat):Int) (n:Int):=by lia
 have e2:min (j:Int) (n:Int)=min ((min j n:Nat):Int) (n:Int):=by lia
 simp only [strSliceIndices,h0,h1,h2,h3,h4,if_false,if_true,e1,e2]
theorem cut {z:Str} {i j:Nat} (h:i≤j):(Txt.slice z (some (i:Int)) (some (j:Int))).cps.toList=(z.cps.toList.drop i).take (j - i):=by
 have hl:z.cps.toList.length=z.length:=Array.length_toList
 have e:Txt.slice z (some (i:Int)) (some (j:Int))=Txt.slice z (some ((min i z.length:Nat):Int)) (some ((min j z.length:Nat):Int)):=by
  unfold Txt.slice
  rw [ix_min]
 rw [e,beq_iff_eq.mp (slice_closes (x:=z) (i:=((min i z.length:Nat):Int)) (j:=((min j z.length:Nat):Int)) ⟨by lia,by lia,by lia⟩)]
 show (List.take _ (List.drop _ z.cps.toList)).toArray.toList=_
 rw [List.toList_toArray]
 rw [show ((min i z.length:Nat):Int).toNat=min i z.length from rfl,show (((min j z.length:Nat):Int) - ((min i z.length:Nat):Int)).toNat=min j z.length - min i z.length by lia]
 by_cases hi:i≤z.length
 ·rw [Nat.min_eq_left hi]
  by_cases hj:j≤z.length
  ·rw [Nat.min_eq_left hj]
  ·rw [Nat.min_eq_right (by lia)]
   rw [List.take_of_length_le (by rw [List.length_drop];lia),List.take_of_length_le (by rw [List.length_drop];lia)]
 ·rw [Nat.min_eq_right (by lia:z.length≤i),Nat.min_eq_right (by lia:z.length≤j),List.drop_of_length_le (by lia),List.drop_of_length_le (by lia)]
  simp
theorem cut_from {z:Str} {i:Nat}:(Txt.slice z (some (i:Int)) none).cps.toList=z.cps.toList.drop i:=by
 have hl:z.cps.toList.length=z.length:=Array.length_toList
 by_cases h:i≤z.length
 ·rw [slice_from_eq (b:=(z.length:Int)) (by lia) (by lia) rfl]
  show (List.take _ (List.drop _ z.cps.toList)).toArray.toList=_
  rw [List.toList_toArray,show (i:Int).toNat=i from rfl,List.take_of_length_le (by rw [List.length_drop];lia)]
 ·rw [slice_beyond (by lia),List.drop_of_length_le (by lia)]
  rfl
noncomputable def runs (ds:List Nat) (c:Nat):Nat:=(ds.takeWhile (· == c)).length
theorem runs_cons (d:Nat) (ds:List Nat) (c:Nat):runs (d::ds) c=if d=c then runs ds c+1 else 0:=by
 unfold runs
 rw [List.takeWhile_cons]
 by_cases h:d=c
 ·rw [if_pos h,if_pos (by simpa using h)];rfl
 ·rw [if_neg h,if_neg (by simpa using h)];rfl
theorem runs_le:∀ (ds:List Nat) (c:Nat),runs ds c≤ds.length
 | [],_=>Nat.le_refl _
 | d::ds,c=>by
  rw [runs_cons]
  split
  ·have:=runs_le ds c;rw [List.length_cons];lia
  ·exact Nat.zero_le _
theorem runs_at:∀ (ds:List Nat) (c j:Nat),j≤runs ds c→(ds[j]?=some c↔j<runs ds c)
 | [],c,j,h=>by
  have:runs [] c=0:=rfl
  rw [this] at *
  simp
 | d::ds,c,j,h=>by
  rw [runs_cons] at *
  by_cases hd:d=c
  ·rw [if_pos hd] at *
   cases j with
   | zero=>simp [hd]
   | succ j =>
    rw [List.getElem?_cons_succ,runs_at ds c j (by lia)]
    lia
  ·rw [if_neg hd] at *
   have:j=0:=by lia
   subst this
   simp [hd]
theorem runs_rep:∀ (n c:Nat) (rest:List Nat),runs (List.replicate n c++rest) c=n+runs rest c
 | 0,c,rest=>by simp
 | n+1,c,rest=>by
  rw [List.replicate_succ,List.cons_append,runs_cons,if_pos rfl,runs_rep n c rest]
  lia
theorem runs_oth {c d:Nat} (h:d≠c) (n:Nat) {rest:List Nat} (hr:runs rest c=0):runs (List.replicate n d++rest) c=0:=by
 cases n with
 | zero=>simpa using hr
 | succ n=>rw [List.replicate_succ,List.cons_append,runs_cons,if_neg h]
noncomputable def seg (c d:Nat) (k:Int):List Nat:=List.replicate k.toNat c++List.replicate (-k).toNat d
theorem seg_none {c d e:Nat} {k:Int} {rest:List Nat} (h1:c≠e) (h2:d≠e) (hr:runs rest e=0):runs (seg c d k++rest) e=0:=by
 unfold seg
 rw [List.append_assoc]
 exact runs_oth h1 _ (runs_oth h2 _ hr)
theorem seg_runs {c d:Nat} {k:Int} {rest:List Nat} (h:c≠d) (h1:runs rest c=0) (h2:runs rest d=0):(runs (seg c d k++rest) c:Int) - runs (seg c d k++rest) d=k:=by
 unfold seg
 rw [List.append_assoc,runs_rep]
 have e1:runs (List.replicate (-k).toNat d++rest) c=0:=runs_oth (fun e=>h e.symm) _ h1
 by_cases hk:0<k
 ·have:(-k).toNat=0:=by lia
  rw [e1,this,List.replicate_zero,List.nil_append,runs_oth h _ h2]
  lia
 ·have:k.toNat=0:=by lia
  rw [e1,this,List.replicate_zero,List.nil_append,runs_rep,h2]
  lia
theorem seg_len (c d:Nat) (k:Int):(seg c d k).length=k.natAbs:=by
 unfold seg
 rw [List.length_append,List.length_replicate,List.length_replicate]
 lia
theorem seg_drop {c d:Nat} {k:Int} {rest:List Nat}:(seg c d k++rest).drop k.natAbs=rest:=by
 rw [← seg_len c d k,List.drop_left]
noncomputable def stp (cs:List Nat) (s:Nat×List Int) (m:Nat×Nat×List Int):Nat×List Int :=
 (s.1+((runs (cs.drop s.1) m.1:Int) - runs (cs.drop s.1) m.2.1).natAbs,List.zipWith (·+·) s.2 (m.2.2.map (·*((runs (cs.drop s.1) m.1:Int) - runs (cs.drop s.1) m.2.1))))
noncomputable def marks:List (Nat×Nat×List Int):=[(35,98,[-11,7,0,0,0]),(43,45,[-4,4,-1,0,0]),(62,60,[6,-2,0,-1,0]),(94,118,[-5,1,0,0,1])]
noncomputable def letr (c:Nat):Option (List Int) :=
 if c=70 then some [2,-1,0,0,0] else if c=67 then some [0,0,0,0,0] else if c=71 then some [-1,1,0,0,0] else if c=68 then some [-3,2,0,0,0] else if c=65 then some [-4,3,0,0,0] else if c=69 then some [-6,4,0,0,0] else if c=66 then some [-7,5,0,0,0] else none
noncomputable def sgd (y:Str) (m:Nat):Option Int :=
 if y=⟨#[48]⟩ then some 0 else if y.cps[0]?=some 45 then (if Sgn.cnt ⟨(y.cps.toList.drop 1).toArray⟩ m=true then some (-((Sgn.num ⟨(y.cps.toList.drop 1).toArray⟩:Nat):Int)) else none) else if Sgn.cnt y m=true then some ((Sgn.num y:Nat):Int) else none
noncomputable def nmd (z:Str):Option (List Int) :=
 if 300<z.length then none else
 match z.cps.toList with
 | []=>none
 | c::_=>match letr c with
  | none=>none
  | some r0 =>
   if z.cps.toList[(marks.foldl (stp z.cps.toList) (1,r0)).1]?=some 46 then
    match sgd ⟨(z.cps.toList.drop ((marks.foldl (stp z.cps.toList) (1,r0)).1+1)).toArray⟩ 4 with
    | none=>none
    | some o=>some (List.zipWith (·+·) (marks.foldl (stp z.cps.toList) (1,r0)).2 [o,0,0,0,0])
   else none
end Nam
namespace Nam
open PySem PySem.Builtin PySem.Builtin.Str PySem.StrLaws PySem.NumText PySem.W.KIN PyProof.Rows
theorem sgd_int {y:Str} {m:Nat} {o:Int} (hm:m≤600) (h:sgd y m=some o):PySem.intText? y=some o∧y.length≤m+1:=by
 unfold sgd at h
 split at h
 ·rename_i e
  cases h
  subst e
  exact⟨by decide +kernel,by show 1≤m+1;lia⟩
 ·split at h
  ·rename_i h45
   split at h
   ·rename_i hc
    cases h
    have hr:=Sgn.cnt_reads hc hm
    have e1:y.cps.toList=45::y.cps.toList.drop 1:=by
     rw [← Array.getElem?_toList] at h45
     cases hy:y.cps.toList with
     | nil=>rw [hy] at h45;cases h45
     | cons a t=>rw [hy] at h45;cases h45;rfl
    have hl:y.length=(y.cps.toList.drop 1).length+1:=by
     show y.cps.size=_
     rw [← Array.length_toList]
     conv=>lhs;rw [e1]
     rfl
    have hl2:(⟨(y.cps.toList.drop 1).toArray⟩:Str).length=(y.cps.toList.drop 1).length:=by
     show (y.cps.toList.drop 1).toArray.size=_
     rw [List.size_toArray]
    unfold Sgn.cnt at hc
    rw [Bool.and_eq_true,Bool.and_eq_true,decide_eq_true_eq] at hc
    obtain ⟨⟨⟨c1,c2⟩,c3⟩,c4⟩:=hc
    have hd:=Sgn.dgt_all c4
    rw [show (⟨(y.cps.toList.drop 1).toArray⟩:Str).cps.toList=y.cps.toList.drop 1 from List.toList_toArray ..] at hd
    refine⟨?_,by lia⟩
    rw [intText_neg e1 hd (fun e=>by rw [hl2,e] at c1;exact absurd c1 (by decide)) (by lia)]
    unfold Sgn.num
    rw [show (⟨(y.cps.toList.drop 1).toArray⟩:Str).cps.toList=y.cps.toList.drop 1 from List.toList_toArray ..]
   ·cases h
  ·split at h
   ·rename_i hc
    cases h
    have hr:=Sgn.cnt_reads hc hm
    exact⟨hr.1,by lia⟩
   ·cases h
theorem one_toArray (l:List Nat):(⟨l.toArray⟩:Str).cps.toList=l:=List.toList_toArray ..
theorem str_ext {y z:Str} (h:y.cps.toList=z.cps.toList):y=z:=by
 cases y;cases z
 congr 1
 exact Array.ext' h
theorem starts45 (y:Str):(decide (0+(Str.ofString "-").length≤y.length) && subAt y (Str.ofString "-") 0)=decide (y.cps[0]?=some 45):=by
 have e:Str.ofString "-"=⟨#[45]⟩:=by decide
 rw [e,Bool.eq_iff_iff,Bool.and_eq_true,decide_eq_true_eq,decide_eq_true_eq]
 exact Sgn.at_one (z:=y) (c:=45) (i:=0)
end Nam
namespace Nam
open PySem PySem.Builtin PySem.Builtin.Str PySem.StrLaws PyProof.Rows
theorem cut_to {z:Str} {j:Nat}:(Txt.slice z none (some (j:Int))).cps.toList=z.cps.toList.take j:=by
 have e:Txt.slice z none (some (j:Int))=Txt.slice z (some ((0:Nat):Int)) (some (j:Int)):=by
  have hl:z.cps.toList.length=z.length:=Array.length_toList
  have h0:¬ (j:Int)<0:=by lia
  have h2:(1:Int) > 0:=by decide
  have h3:min (0:Int) (z.length:Int)=0:=by lia
  have h5:max (0:Int) 0=0:=by lia
  unfold Txt.slice
  simp only [strSliceIndices,h0,h2,if_false,if_true,Int.ofNat_zero,Int.natCast_zero,Int.lt_irrefl,h3,h5]
 rw [e,cut (Nat.zero_le _),List.drop_zero,Nat.sub_zero]
theorem dot_iff {z:Str} {p:Nat}:Txt.slice z (some (p:Int)) (some ((p:Int)+1))=Str.ofString "."↔z.cps.toList[p]?=some 46:=by
 have e:Str.ofString "."=⟨#[46]⟩:=by decide
 have h:=cut (z:=z) (i:=p) (j:=p+1) (by lia)
 rw [show ((p+1:Nat):Int)=(p:Int)+1 from rfl,show p+1 - p=1 by lia] at h
 rw [e]
 constructor
 ·intro q
  rw [q] at h
  have h':[46]=(z.cps.toList.drop p).take 1:=h
  have:(z.cps.toList.drop p)[0]?=some 46:=by
   cases hd:z.cps.toList.drop p with
   | nil=>rw [hd] at h';cases h'
   | cons a t=>rw [hd] at h';cases h';rfl
  rw [List.getElem?_drop] at this
  exact this
 ·intro q
  apply str_ext
  rw [h]
  have:(z.cps.toList.drop p)[0]?=some 46:=by rw [List.getElem?_drop];exact q
  cases hd:z.cps.toList.drop p with
  | nil=>rw [hd] at this;cases this
  | cons a t=>rw [hd] at this;cases this;rfl
theorem head_one {z:Str} {c:Nat} {t:List Nat} (h:z.cps.toList=c::t):Txt.slice z none (some 1)=⟨#[c]⟩:=by
 apply str_ext
 have:=cut_to (z:=z) (j:=1)
 rw [h] at this
 exact this
theorem from_eq (z:Str) (p:Nat):Txt.slice z (some ((p:Int)+1)) none=⟨(z.cps.toList.drop (p+1)).toArray⟩:=by
 apply str_ext
 rw [one_toArray]
 exact cut_from (i:=p+1)
end Nam
namespace Nam
open PySem
theorem nmd_of {z:Str} {c p:Nat} {t:List Nat} {r0 r:List Int} (h3:¬ 300<z.length) (hcs:z.cps.toList=c::t) (hl:letr c=some r0) (hf:marks.foldl (stp z.cps.toList) (1,r0)=(p,r)) :
  nmd z=if z.cps.toList[p]?=some 46 then (match sgd ⟨(z.cps.toList.drop (p+1)).toArray⟩ 4 with|none=>none|some o=>some (List.zipWith (·+·) r [o,0,0,0,0])) else none:=by
 unfold nmd
 rw [if_neg h3]
 split
 ·rename_i e
  rw [hcs] at e
  cases e
 ·rename_i c' t' e
  rw [hcs] at e
  cases e
  rw [hl]
  simp only [hf]
theorem sgn35:Str.ofString "#"=⟨#[35]⟩:=by decide
theorem sgn98:Str.ofString "b"=⟨#[98]⟩:=by decide
theorem sgn43:Str.ofString "+"=⟨#[43]⟩:=by decide
theorem sgn45:Str.ofString "-"=⟨#[45]⟩:=by decide
theorem sgn62:Str.ofString ">"=⟨#[62]⟩:=by decide
theorem sgn60:Str.ofString "<"=⟨#[60]⟩:=by decide
theorem sgn94:Str.ofString "^"=⟨#[94]⟩:=by decide
theorem sgn118:Str.ofString "v"=⟨#[118]⟩:=by decide
end Nam
namespace Nam
open PySem PySem.NumText PySem.W.KIN PyProof.Rows
theorem app_list (a b:Str):(a++b).cps.toList=a.cps.toList++b.cps.toList:=by
 show (a.cps++b.cps).toList=_
 rw [Array.toList_append]
theorem neg_list (n:Nat):(Str.ofString (toString (-((n+1:Nat):Int)))).cps.toList=45::(Sgn.txt (n+1)).cps.toList:=by
 rw [signs_num,signs_ofString]
 show ("-"++Nat.repr (n+1)).toList.map Char.toNat=_
 rw [String.toList_append,List.map_append,Nat.toList_repr]
 rfl
theorem oct_of {o:Int} (h1:-9999≤o) (h2:o≤9999):sgd (Str.ofString (toString o)) 4=some o∧(Str.ofString (toString o)).length≤5:=by
 rcases Int.lt_trichotomy o 0 with h|h|h
 ·obtain ⟨n,rfl⟩:∃ n:Nat,o=-((n+1:Nat):Int):=⟨(-o).toNat - 1,by lia⟩
  have hl:=neg_list n
  have ht:=Sgn.txt_cnt (n:=n+1) (m:=4) (by lia) (by decide) (by lia)
  have hs:=Sgn.txt_size (n:=n+1) (m:=4) (by decide) (by lia)
  have hlen:(Str.ofString (toString (-((n+1:Nat):Int)))).length=(Sgn.txt (n+1)).length+1:=by
   show (Str.ofString (toString (-((n+1:Nat):Int)))).cps.size=_
   rw [← Array.length_toList,hl,List.length_cons,Array.length_toList]
   rfl
  refine⟨?_,by lia⟩
  have hd:(⟨((Str.ofString (toString (-((n+1:Nat):Int)))).cps.toList.drop 1).toArray⟩:Str)=Sgn.txt (n+1):=by
   apply str_ext
   rw [one_toArray,hl]
   rfl
  unfold sgd
  rw [if_neg (fun e=>by rw [e] at hl;cases hl),if_pos (by rw [← Array.getElem?_toList,hl];rfl),hd,ht.1,ht.2,if_pos rfl]
 ·subst h
  exact⟨by decide +kernel,by decide +kernel⟩
 ·obtain ⟨n,rfl⟩:=Int.eq_ofNat_of_zero_le (Int.le_of_lt h)
  have ht:=Sgn.txt_cnt (n:=n) (m:=4) (by lia) (by decide) (by lia)
  have hs:=Sgn.txt_size (n:=n) (m:=4) (by decide) (by lia)
  have h45:(Sgn.txt n).cps[0]?≠some 45:=fun e=>by
   have hc:=ht.1
   unfold Sgn.cnt at hc
   rw [Bool.and_eq_true] at hc
   have hm:45∈(Sgn.txt n).cps.toList:=List.mem_of_getElem? (i:=0) (by rw [Array.getElem?_toList];exact e)
   exact absurd (List.all_eq_true.mp hc.2 45 hm) (by decide)
  have h48:Sgn.txt n≠⟨#[48]⟩:=fun e=>by
   have hc:=ht.1
   rw [e,Sgn.cnt_nought (by rfl)] at hc
   cases hc
  refine⟨?_,Nat.le_trans hs (by decide)⟩
  unfold sgd
  rw [show Str.ofString (toString ((n:Nat):Int))=Sgn.txt n from rfl,if_neg h48,if_neg h45,ht.1,ht.2,if_pos rfl]
theorem made {T:Str} {L:Nat} {k0 k1 k2 k3 o r0 r1 r2 r3 r4:Int} (hT:T.cps.toList=L::(seg 35 98 k0++(seg 43 45 k1++(seg 62 60 k2++(seg 94 118 k3++(46::(Str.ofString (toString o)).cps.toList)))))) (hl:letr L=some [r0,r1,r2,r3,r4])
  (h1:-9999≤o) (h2:o≤9999) (hb:k0.natAbs+k1.natAbs+k2.natAbs+k3.natAbs≤290) :
  nmd T=some [r0+-11*k0+-4*k1+6*k2+-5*k3+o,r1+7*k0+4*k1+-2*k2+1*k3+0,r2+0*k0+-1*k1+0*k2+0*k3+0,r3+0*k0+0*k1+-1*k2+0*k3+0,r4+0*k0+0*k1+0*k2+1*k3+0]∧T.length≤300:=by
 have ho:=oct_of h1 h2
 generalize hy:(Str.ofString (toString o))=y at hT ho
 have hlen:T.length≤300:=by
  show T.cps.size≤300
  rw [← Array.length_toList,hT]
  simp only [List.length_cons,List.length_append,seg_len]
  have:y.cps.toList.length=y.length:=Array.length_toList
  lia
 refine⟨?_,hlen⟩
 have d0:∀ c:Nat,c≠46→runs (46::y.cps.toList) c=0:=fun c h=>by rw [runs_cons,if_neg (fun e=>h e.symm)]
 have d3:∀ c:Nat,c≠46→c≠94→c≠118→runs (seg 94 118 k3++(46::y.cps.toList)) c=0:=fun c h h1 h2=>seg_none (fun e=>h1 e.symm) (fun e=>h2 e.symm) (d0 c h)
 have d2:∀ c:Nat,c≠46→c≠94→c≠118→c≠62→c≠60→runs (seg 62 60 k2++(seg 94 118 k3++(46::y.cps.toList))) c=0:=fun c h h1 h2 h3 h4=>seg_none (fun e=>h3 e.symm) (fun e=>h4 e.symm) (d3 c h h1 h2)
 have d1:∀ c:Nat,c≠46→c≠94→c≠118→c≠62→c≠60→c≠43→c≠45→runs (seg 43 45 k1++(seg 62 60 k2++(seg 94 118 k3++(46::y.cps.toList)))) c=0:=fun c h h1 h2 h3 h4 h5 h6=>seg_none (fun e=>h5 e.symm) (fun e=>h6 e.symm) (d2 c h h1 h2 h3 h4)
 have s0:=seg_runs (c:=35) (d:=98) (k:=k0) (by decide) (d1 35 (by decide) (by decide) (by decide) (by decide) (by decide) (by decide) (by decide)) (d1 98 (by decide) (by decide) (by decide) (by decide) (by decide) (by decide) (by decide))
 have s1:=seg_runs (c:=43) (d:=45) (k:=k1) (by decide) (d2 43 (by decide) (by decide) (by decide) (by decide) (by decide)) (d2 45 (by decide) (by decide) (by decide) (by decide) (by decide))
 have s2:=seg_runs (c:=62) (d:=60) (k:=k2) (by decide) (d3 62 (by decide) (by decide) (by decide)) (d3 60 (by decide) (by decide) (by decide))
 have s3:=seg_runs (c:=94) (d:=118) (k:=k3) (by decide) (d0 94 (by decide)) (d0 118 (by decide))
 have e0:T.cps.toList.drop 1=seg 35 98 k0++(seg 43 45 k1++(seg 62 60 k2++(seg 94 118 k3++(46::y.cps.toList)))):=by rw [hT];rfl
 have e1:T.cps.toList.drop (1+k0.natAbs)=seg 43 45 k1++(seg 62 60 k2++(seg 94 118 k3++(46::y.cps.toList))):=by rw [← List.drop_drop,e0,seg_drop]
 have e2:T.cps.toList.drop (1+k0.natAbs+k1.natAbs)=seg 62 60 k2++(seg 94 118 k3++(46::y.cps.toList)):=by rw [← List.drop_drop,e1,seg_drop]
 have e3:T.cps.toList.drop (1+k0.natAbs+k1.natAbs+k2.natAbs)=seg 94 118 k3++(46::y.cps.toList):=by rw [← List.drop_drop,e2,seg_drop]
 have e4:T.cps.toList.drop (1+k0.natAbs+k1.natAbs+k2.natAbs+k3.natAbs)=46::y.cps.toList:=by rw [← List.drop_drop,e3,seg_drop]
 have t0:stp T.cps.toList (1,[r0,r1,r2,r3,r4]) (35,98,[-11,7,0,0,0])=(1+k0.natAbs,[r0+-11*k0,r1+7*k0,r2+0*k0,r3+0*k0,r4+0*k0]):=by
  unfold stp
  rw [show T.cps.toList.drop (1,[r0,r1,r2,r3,r4]).1=_ from e0]
  simp only [s0]
  rfl
 have t1:stp T.cps.toList (1+k0.natAbs,[r0+-11*k0,r1+7*k0,r2+0*k0,r3+0*k0,r4+0*k0]) (43,45,[-4,4,-1,0,0])=(1+k0.natAbs+k1.natAbs,[r0+-11*k0+-4*k1,r1+7*k0+4*k1,r2+0*k0+-1*k1,r3+0*k0+0*k1,r4+0*k0+0*k1]):=by
  unfold stp
  simp only [e1,s1]
  rfl
 have t2:stp T.cps.toList (1+k0.natAbs+k1.natAbs,[r0+-11*k0+-4*k1,r1+7*k0+4*k1,r2+0*k0+-1*k1,r3+0*k0+0*k1,r4+0*k0+0*k1]) (62,60,[6,-2,0,-1,0])=(1+k0.natAbs+k1.natAbs+k2.natAbs,[r0+-11*k0+-4*k1+6*k2,r1+7*k0+4*k1+-2*k2,r2+0*k0+-1*k1+0*k2,r3+0*k0+0*k1+-1*k2,r4+0*k0+0*k1+0*k2]):=by
  unfold stp
  simp only [e2,s2]
  rfl
 have t3:stp T.cps.toList (1+k0.natAbs+k1.natAbs+k2.natAbs,[r0+-11*k0+-4*k1+6*k2,r1+7*k0+4*k1+-2*k2,r2+0*k0+-1*k1+0*k2,r3+0*k0+0*k1+-1*k2,r4+0*k0+0*k1+0*k2]) (94,118,[-5,1,0,0,1])=(1+k0.natAbs+k1.natAbs+k2.natAbs+k3.natAbs,[r0+-11*k0+-4*k1+6*k2+-5*k3,r1+7*k0+4*k1+-2*k2+1*k3,r2+0*k0+-1*k1+0*k2+0*k3,r3+0*k0+0*k1+-1*k2+0*k3,r4+0*k0+0*k1+0*k2+1*k3]):=by
  unfold stp
  simp only [e3,s3]
  rfl
 have hf:marks.foldl (stp T.cps.toList) (1,[r0,r1,r2,r3,r4])=(1+k0.natAbs+k1.natAbs+k2.natAbs+k3.natAbs,[r0+-11*k0+-4*k1+6*k2+-5*k3,r1+7*k0+4*k1+-2*k2+1*k3,r2+0*k0+-1*k1+0*k2+0*k3,r3+0*k0+0*k1+-1*k2+0*k3,r4+0*k0+0*k1+0*k2+1*k3]):=by
  unfold marks
  rw [List.foldl_cons,t0,List.foldl_cons,t1,List.foldl_cons,t2,List.foldl_cons,t3,List.foldl_nil]
 rw [nmd_of (by lia) hT hl hf]
 generalize 1+k0.natAbs+k1.natAbs+k2.natAbs+k3.natAbs=p at e4
 have hp:T.cps.toList[p]?=some 46:=by
  have:(T.cps.toList.drop p)[0]?=some 46:=by rw [e4];rfl
  rw [List.getElem?_drop] at this
  exact this
 have hdr:(⟨(T.cps.toList.drop (p+1)).toArray⟩:Str)=y:=by
  apply str_ext
  rw [one_toArray,← List.drop_drop,e4]
  rfl
 rw [if_pos hp,hdr,ho.1]
 rfl
end Nam
namespace Mth
noncomputable def gens (ms:List Int) (rs:List (List Int)):List (List Int):=(List.range 5).map fun i=>mulv (rs.getD i []) (ms.getD i 0)
end Mth
namespace Gap
structure Sg (P:Int→Int→Prop):Prop where
 add:∀ {n j n' j':Int},P n j→P n' j'→P (n+n') (j+j')
 neg:∀ {n j:Int},P n j→P (-n) (-j)→False
 tot:∀ n j:Int,j≠0→P n j∨P (-n) (-j)
 oct:∀ {n:Int},P n 0→0<n
section
variable {P:Int→Int→Prop} {o:Int→Int} {N:Int}
structure Ch (P:Int→Int→Prop) (o:Int→Int) (N:Int):Prop where
 s:Sg P
 z:o 0=0
 f:∀ j,0<j→j<N→P (o j) j∧P (1 - o j) (-j)
variable (C:Ch P o N)
include C
variable {a b:Int} (a0:0<a) (a1:a<N) (mn:∀ j,0<j→j<N→j≠a→P (o j - o a) (j - a)) (b0:0<b) (b1:b<N) (mx:∀ j,0<j→j<N→j≠b→P (o b - o j) (b - j))
include a0 a1 mn in
include a0 a1 mn in
include b0 b1 mx in
include b0 b1 mx in
include a0 a1 mn b0 b1 mx in
include a0 a1 mn b0 b1 mx in
include a0 a1 mn b0 b1 mx in
end
end Gap
namespace Nam
open PySem
noncomputable def J (c:Nat):List (List Nat)→List Nat
 | []=>[]
 | [x]=>x
 | x::y::r=>x++c::J c (y::r)
theorem cut_at {c:Nat}:∀ {x y r s:List Nat},c∉x→c∉y→x++c::r=y++c::s→x=y∧r=s
 | [],[],r,s,_,_,h=>⟨rfl,(List.cons.inj h).2⟩
 | [],d::y,r,s,_,hy,h=>absurd (.head _) ((List.cons.inj h).1 ▸ hy)
 | d::x,[],r,s,hx,_,h=>absurd (.head _) ((List.cons.inj h).1 ▸ hx)
 | d::x,e::y,r,s,hx,hy,h=>by
  obtain ⟨h1,h2⟩:=List.cons.inj h
  obtain ⟨h3,h4⟩:=cut_at (fun z=>hx (.tail _ z)) (fun z=>hy (.tail _ z)) h2
  exact⟨by rw [h1,h3],h4⟩
theorem J_inj {c:Nat}:∀ {a b:List (List Nat)},a≠[]→b≠[]→(∀ x∈a,c∉x)→(∀ x∈b,c∉x)→J c a=J c b→a=b
 | [],_,h,_,_,_,_=>absurd rfl h
 | _::_,[],_,h,_,_,_=>absurd rfl h
 | [x],[y],_,_,_,_,h=>by rw [show x=y from h]
 | [x],y::z::b,_,_,ha,_,h=>by
  have h:x=y++c::J c (z::b):=h
  exact absurd (by rw [h];simp) (ha x (.head _))
 | x::z::a,[y],_,_,_,hb,h=>by
  have h:x++c::J c (z::a)=y:=h
  exact absurd (by rw [← h];simp) (hb y (.head _))
 | x::u::a,y::v::b,_,_,ha,hb,h=>by
  have h:x++c::J c (u::a)=y++c::J c (v::b):=h
  obtain ⟨h1,h2⟩:=cut_at (ha x (.head _)) (hb y (.head _)) h
  rw [h1,J_inj (a:=u::a) (b:=v::b) (List.cons_ne_nil _ _) (List.cons_ne_nil _ _) (fun z hz=>ha z (.tail _ hz)) (fun z hz=>hb z (.tail _ hz)) h2]
theorem join_cps (c:Nat):∀ ws:List Str,(Str.join ⟨#[c]⟩ ws).cps.toList=J c (ws.map fun w=>w.cps.toList)
 | []=>rfl
 | [x]=>rfl
 | x::y::r=>by
  have ih:=join_cps c (y::r)
  show (x++⟨#[c]⟩++Str.join ⟨#[c]⟩ (y::r)).cps.toList=x.cps.toList++c::J c ((y::r).map fun w=>w.cps.toList)
  rw [← ih]
  show ((x.cps++#[c])++(Str.join ⟨#[c]⟩ (y::r)).cps).toList=_
  simp
theorem cps_inj {a b:List Str} (h:(a.map fun w=>w.cps.toList)=b.map fun w=>w.cps.toList):a=b:=by
 induction a generalizing b with
 | nil=>cases b with
  | nil=>rfl
  | cons y b=>cases h
 | cons x a ih=>cases b with
  | nil=>cases h
  | cons y b =>
   obtain ⟨h1,h2⟩:=List.cons.inj h
   rw [ih h2]
   rw [show x=y from Str.ext' (Array.toList_inj.mp h1)]
theorem split_join {c:Nat} {ws:List Str} (h:ws≠[]) (hf:∀ w∈ws,c∉w.cps.toList):Txt.split (Str.join ⟨#[c]⟩ ws) ⟨#[c]⟩=ws:=by
 have h1:=StrLaws.join_split (Str.join ⟨#[c]⟩ ws) ⟨#[c]⟩
 have h2:=StrLaws.split_free (Str.join ⟨#[c]⟩ ws) c
 have hn:Txt.split (Str.join ⟨#[c]⟩ ws) ⟨#[c]⟩≠[]:=by
  have:=PyProof.Rows.split_pos (Str.join ⟨#[c]⟩ ws) ⟨#[c]⟩
  intro z
  rw [z] at this
  exact absurd this (by decide)
 generalize Txt.split (Str.join ⟨#[c]⟩ ws) ⟨#[c]⟩=ts at *
 have h3:=congrArg (fun s:Str=>s.cps.toList) h1
 simp only [join_cps] at h3
 refine cps_inj (J_inj (c:=c) ?_ ?_ ?_ ?_ h3)
 ·simpa using hn
 ·simpa using h
 ·intro x hx
  obtain ⟨t,ht,rfl⟩:=List.mem_map.mp hx
  exact h2 t ht
 ·intro x hx
  obtain ⟨t,ht,rfl⟩:=List.mem_map.mp hx
  exact hf t ht
end Nam
namespace L2
open PySem PySem.Spec PyProof.Rows
noncomputable def Fixed (K:PySem.W.Frag) (a:Addr) (xs:List V):Prop:=∀ H,SqT K H a xs
theorem Fixed.at {K:PySem.W.Frag} {a:Addr} {xs:List V} {H:Hp} (h:Fixed K a xs):SqT K H a xs:=h H
theorem Same.upd_old {H H2:Hp} {l:Addr} {o:HO} (s:Same H H2) (h:H l=none):Same H (upd H2 l o):=fun b u e=>by
 rw [upd_ne (ne_of_none e h)];exact s _ _ e
noncomputable def rBl:V→Hp→(Bool→Hp→Prop)→Prop:=fun x H R=>∃ c,x=.bl c∧R c H
noncomputable def rIn1:V→Hp→(Option Int→Hp→Prop)→Prop:=fun x H R=>∃ i,x=.int i∧R (some i) H
noncomputable def rNewT:List V→Hp→VK→Prop:=fun xs H Q=>xs.length≤sizeLine∧∀ p,H p=none→Q (.ref p) (upd H p (.tup xs))
noncomputable def rNewL:List V→Hp→VK→Prop:=fun xs H Q=>xs.length≤sizeLine∧∀ p,H p=none→Q (.ref p) (upd H p (.lst xs))
noncomputable def rLen (K:PySem.W.Frag):List V→Hp→VK→Prop:=fun xs H Q=>∃ p ys,xs=[.ref p]∧(SqL K H p ys∨SqT K H p ys)∧Q (.int ys.length) H
noncomputable def rTupleOf (K:PySem.W.Frag):List V→Hp→VK→Prop:=fun xs H Q=>∃ p ys,xs=[.ref p]∧((SqL K H p ys∧∀ l,H l=none→Q (.ref l) (upd H l (.tup ys)))∨(SqT K H p ys∧Q (.ref p) H))
noncomputable def rListOf (K:PySem.W.Frag):List V→Hp→VK→Prop:=fun xs H Q=>∃ p ys,xs=[.ref p]∧(SqL K H p ys∨SqT K H p ys)∧∀ l,H l=none→Q (.ref l) (upd H l (.lst ys))
noncomputable def rIsInst (K:PySem.W.Frag):List V→Hp→VK→Prop:=fun xs H Q=>∃ x n t b,xs=[x,.ty n]∧TyR K H x t∧PySem.W.kitOne K t (.type n)=some b∧Q (.bl b) H
noncomputable def rAbs:List V→Hp→VK→Prop:=fun xs H Q=>∃ i,xs=[.int i]∧Q (.int (if i<0 then -i else i)) H
noncomputable def rMax:List V→Hp→VK→Prop:=fun xs H Q=>∃ i j,xs=[.int i,.int j]∧Q (.int (if j > i then j else i)) H
noncomputable def rInt1:List V→Hp→VK→Prop:=fun xs H Q=>(∃ i,xs=[.int i]∧Q (.int i) H)∨∃ k,xs=[.bl k]∧Q (.int (if k then 1 else 0)) H
noncomputable def rBitLen:V→List V→Hp→VK→Prop:=fun x xs H Q=>∃ i,x=.int i∧xs=[]∧Q (.int (bitsI i)) H
noncomputable def rItL (K:PySem.W.Frag):V→Hp→(It→Hp→Prop)→Prop:=fun x H R=>∃ a,x=.ref a∧(∃ xs,SqL K H a xs)∧R (Itl K a) H
noncomputable def rItT (K:PySem.W.Frag):V→Hp→(It→Hp→Prop)→Prop:=fun x H R=>∃ a,x=.ref a∧(∃ xs,SqT K H a xs)∧R (Itt K a) H
noncomputable def rItR:List V→Hp→(It→Hp→Prop)→Prop:=fun vs H R=>∃ j:Int,vs=[.int j]∧-(2 ^ 62)≤j∧j<2 ^ 62∧R (Itr 0 j.toNat) H
noncomputable def rItZ (K:PySem.W.Frag) (k1 k2:Bool):List V→Hp→(It→Hp→Prop)→Prop:=fun vs H R=>∃ a b,vs=[.ref a,.ref b]∧(∃ xs,Sq k1 K H a xs)∧(∃ ys,Sq k2 K H b ys)∧R (Itz K k1 k2 a b) H
noncomputable def rTyped (K:PySem.W.Frag) (T:String) (ts:TA) (r:V→List V→Hp→VK→Prop) (σ:St) (Q:VK):V→Hp→Prop:=fun x H1=>tyV K T x H1∧ts σ H1 fun xs H2=>r x xs H2 Q
noncomputable def rTyped0 (K:PySem.W.Frag) (T:String) (r:V→List V→Hp→VK→Prop) (Q:VK):V→Hp→Prop:=fun x H1=>tyV K T x H1∧r x [] H1 Q
noncomputable def ForGoal (g:TG) (tb:TS) (D:Ends) (J:It) (σ:St) (H:Hp):Prop:=∃ W:Nat→Nat→St→Hp→Prop,(∃ m,W 0 m σ H)∧∀ i m σ H,W i m σ H →
 (J.stop i H∧D.nx σ H)∨(J.go i H∧∃ N:St→Hp→Prop,(∀ σ' H',N σ' H'→∃ m',m'<m∧W (i+1) m' σ' H')∧∀ x H',J.yld i H x H'→g x σ H' fun σ2 H2=>tb { D with nx:=N,ct:=N,bk:=D.nx } σ2 H2)
section
variable {X:Cx}
theorem callN_len:CallR X (.builtin "len") (rLen X.K):=call_len_seq
theorem callN_tuple:CallR X (.type "tuple") (rTupleOf X.K):=call_tuple_of
theorem callN_list:CallR X (.type "list") (rListOf X.K):=call_list_of
theorem callN_isinst:CallR X (.builtin "isinstance") (rIsInst X.K):=call_isinst
theorem callN_abs:CallR X (.builtin "abs") rAbs:=call_abs
theorem callN_max (hc:X.calm=true):CallR X (.builtin "max") rMax:=call_max2 hc
theorem callN_int:CallR X (.type "int") rInt1:=call_int1
theorem mtN_bitlen:MtR X "int.bit_length" rBitLen:=mt_bitlen
end
section
variable {t u:TS} {D:Ends} {σ:St} {H:Hp} {te ta tb:TE} {g:TG} {tt tu:TT} {Q:VK} {i j:Int} {x y v w:V} {K:PySem.W.Frag}
theorem r_seq (h:t { D with nx:=u D } σ H):tSeq t u D σ H:=h
theorem r_asg (h:te σ H fun x H1=>g x σ H1 D.nx):tAsg te g D σ H:=h
theorem r_gname {n:Nat} {R:St→Hp→Prop} (h:R (σ.set n (some v)) H):gName n v σ H R:=h
theorem r_ret (h:te σ H D.rt):tRet te D σ H:=h
theorem r_drop (h:te σ H fun _ H1=>D.nx σ H1):tDrop te D σ H:=h
theorem r_next (h:D.nx σ H):tNext D σ H:=h
theorem r_ifs {c:TT} (h:c σ H fun b H1=>if b=true then t D σ H1 else u D σ H1):tIfS c t u D σ H:=h
theorem r_var {n:Nat} (e:σ[n]?=some (some v)) (h:Q v H):tVar n σ H Q:=⟨v,e,h⟩
theorem r_c (h:Q v H):tC v σ H Q:=h
theorem r_op {r:R2} (h:ta σ H fun x H1=>tb σ H1 fun y H2=>r x y H2 Q):tOp r ta tb σ H Q:=h
theorem r_un {r:V→Hp→VK→Prop} (h:ta σ H fun x H1=>r x H1 Q):tUn r ta σ H Q:=h
theorem r_b {R:Bool→Hp→Prop} (h:te σ H fun x H1=>rBl x H1 R):tB te σ H R:=h
theorem r_test {R:Bool→Hp→Prop} (h:te σ H fun x H1=>rBl x H1 R):tTest te σ H R:=h
theorem r_isbl {b:Bool} {R:Bool→Hp→Prop} (h:R b H):rBl (.bl b) H R:=⟨b,rfl,h⟩
theorem r_and {R:Bool→Hp→Prop} (h:tt σ H fun c H1=>if c=true then tu σ H1 R else R false H1):tAnd tt tu σ H R:=h
theorem r_or {R:Bool→Hp→Prop} (h:tt σ H fun c H1=>if c=true then R true H1 else tu σ H1 R):tOr tt tu σ H R:=h
theorem r_not {R:Bool→Hp→Prop} (h:tt σ H fun c H1=>R (!c) H1):tNot tt σ H R:=h
theorem r_andV (h:ta σ H fun x H1=>rBl x H1 fun c H2=>if c=true then tb σ H2 Q else Q (.bl false) H2):tAndV ta tb σ H Q:=h
theorem r_notV (h:ta σ H fun x H1=>rBl x H1 fun c H2=>Q (.bl (!c)) H2):tNotV ta σ H Q:=h
theorem r_ife (h:tt σ H fun c H1=>if c=true then ta σ H1 Q else tb σ H1 Q):tIf tt ta tb σ H Q:=h
theorem r_I0 {f:Int→Int→V} (h:Q (f i j) H):rI0 f (.int i) (.int j) H Q:=⟨i,j,rfl,rfl,h⟩
theorem r_I {C:Int→Int→Prop} {f:Int→Int→V} (c:C i j) (h:Q (f i j) H):rI C f (.int i) (.int j) H Q:=⟨i,j,rfl,rfl,c,h⟩
theorem r_U {f:Int→V} (h:Q (f i) H):rU f (.int i) H Q:=⟨i,rfl,h⟩
theorem decI {i j:Int}:decide (V.int i=V.int j)=decide (i=j):=by
 by_cases e:i=j
 ·subst e;simp
 ·rw [decide_eq_false e];exact decide_eq_false fun z=>e (by injection z)
theorem r_eqI (h:Q (.bl (decide (i=j))) H):rEq (.int i) (.int j) H Q:=⟨rfl,by rw [decI];exact h⟩
theorem r_neI (h:Q (.bl (!decide (i=j))) H):rNe (.int i) (.int j) H Q:=⟨rfl,by rw [decI];exact h⟩
theorem r_nil {R:List V→Hp→Prop} (h:R [] H):tNil σ H R:=h
theorem r_cons {ts:TA} {R:List V→Hp→Prop} (h:te σ H fun x H1=>ts σ H1 fun xs H2=>R (x::xs) H2):tCons te ts σ H R:=h
theorem r_tup {ts:TA} (h:ts σ H fun xs H1=>rNewT xs H1 Q):tTup ts σ H Q:=h
theorem r_lst {ts:TA} (h:ts σ H fun xs H1=>rNewL xs H1 Q):tLst ts σ H Q:=h
theorem r_newT {xs:List V} (hl:xs.length≤1000) (h:∀ p H2,Same H H2→H2 p=some (.tup xs)→Q (.ref p) H2):rNewT xs H Q :=
 ⟨Nat.le_of_lt (small1000 hl),fun p hp=>h p _ (Same.upd_new hp) upd_same⟩
theorem r_newL {xs:List V} (hl:xs.length≤1000) (h:∀ p H2,H p=none→Same H H2→H2 p=some (.lst xs)→Q (.ref p) H2):rNewL xs H Q :=
 ⟨Nat.le_of_lt (small1000 hl),fun p hp=>h p _ hp (Same.upd_new hp) upd_same⟩
theorem r_cb {r:List V→Hp→VK→Prop} {ts:TA} (h:ts σ H fun vs H1=>r vs H1 Q):tCB r ts σ H Q:=h
theorem r_comp {ix:List (Option Nat)} {wi:TI} (h:wi σ H fun J H1=>CompGoal ix g tt te σ Q J H1):tComp ix wi g tt te σ H Q:=h
theorem r_sl {r:V→Option Int→Option Int→Hp→VK→Prop} {tl th:TO} (h:te σ H fun x H1=>tl σ H1 fun l H2=>th σ H2 fun u H3=>r x l u H3 Q):tSl r te tl th σ H Q:=h
theorem r_nopart {R:Option Int→Hp→Prop} (h:R none H):tNoPart σ H R:=h
theorem r_part {R:Option Int→Hp→Prop} (h:te σ H fun x H1=>rIn1 x H1 R):tPart te σ H R:=h
theorem r_isint {R:Option Int→Hp→Prop} (h:R (some i) H):rIn1 (.int i) H R:=⟨i,rfl,h⟩
theorem r_bm {T:String} {r:V→List V→Hp→VK→Prop} {ts:TA} (h:te σ H fun x H1=>rTyped K T ts r σ Q x H1):tBM K T r te ts σ H Q:=h
theorem r_bm0 {T:String} {r:V→List V→Hp→VK→Prop} (h:te σ H fun x H1=>rTyped0 K T r Q x H1):tBM0 K T r te σ H Q:=h
theorem r_for {wi:TI} {tb:TS} (h:wi σ H fun J H1=>ForGoal g tb D J σ H1):tFor wi g tb D σ H:=h
theorem r_ilist {R:It→Hp→Prop} (h:te σ H fun x H1=>rItL K x H1 R):iList K te σ H R:=h
theorem r_itup {R:It→Hp→Prop} (h:te σ H fun x H1=>rItT K x H1 R):iTup K te σ H R:=h
theorem r_irng {ts:TA} {R:It→Hp→Prop} (h:ts σ H fun vs H1=>rItR vs H1 R):iRng1 ts σ H R:=h
theorem r_izip {k1 k2:Bool} {ts:TA} {R:It→Hp→Prop} (h:ts σ H fun vs H1=>rItZ K k1 k2 vs H1 R):iZip2 K k1 k2 ts σ H R:=h
theorem r_isl {a:Addr} {xs:List V} {R:It→Hp→Prop} (e:SqL K H a xs) (h:R (Itl K a) H):rItL K (.ref a) H R:=⟨a,rfl,⟨_,e⟩,h⟩
theorem r_ist {a:Addr} {xs:List V} {R:It→Hp→Prop} (e:SqT K H a xs) (h:R (Itt K a) H):rItT K (.ref a) H R:=⟨a,rfl,⟨_,e⟩,h⟩
theorem r_isr {R:It→Hp→Prop} (h1:-1000000≤j) (h2:j≤1000000) (h:R (Itr 0 j.toNat) H):rItR [.int j] H R:=⟨j,rfl,by lia,by lia,h⟩
theorem r_isz {k1 k2:Bool} {a b:Addr} {xs ys:List V} {R:It→Hp→Prop} (e1:Sq k1 K H a xs) (e2:Sq k2 K H b ys) (h:R (Itz K k1 k2 a b) H):rItZ K k1 k2 [.ref a,.ref b] H R:=⟨a,b,rfl,⟨_,e1⟩,⟨_,e2⟩,h⟩
theorem sqt_sq {a:Addr} {xs:List V} (h:SqT K H a xs):Sq true K H a xs:=h
theorem sql_sq {a:Addr} {xs:List V} (h:SqL K H a xs):Sq false K H a xs:=h
theorem r_ixT {a:Addr} {xs:List V} (e:SqT K H a xs) (n:atI xs i=some v) (h:Q v H):rIx K (.ref a) (.int i) H Q:=.inr (.inl ⟨a,xs,i,v,rfl,rfl,e,n,h⟩)
theorem r_ixL {a:Addr} {xs:List V} (e:SqL K H a xs) (n:atI xs i=some v) (h:Q v H):rIx K (.ref a) (.int i) H Q:=.inl ⟨a,xs,i,v,rfl,rfl,e,n,h⟩
theorem r_lenT {a:Addr} {xs:List V} (e:SqT K H a xs) (h:Q (.int xs.length) H):rLen K [.ref a] H Q:=⟨a,xs,rfl,.inr e,h⟩
theorem r_lenL {a:Addr} {xs:List V} (e:SqL K H a xs) (h:Q (.int xs.length) H):rLen K [.ref a] H Q:=⟨a,xs,rfl,.inl e,h⟩
theorem r_tupleL {a:Addr} {xs:List V} (e:SqL K H a xs) (h:∀ p H2,Same H H2→H2 p=some (.tup xs)→Q (.ref p) H2):rTupleOf K [.ref a] H Q :=
 ⟨a,xs,rfl,.inl ⟨e,fun p hp=>h p _ (Same.upd_new hp) upd_same⟩⟩
theorem r_listL {a:Addr} {xs:List V} (e:SqL K H a xs) (h:∀ p H2,H p=none→Same H H2→H2 p=some (.lst xs)→Q (.ref p) H2):rListOf K [.ref a] H Q:=⟨a,xs,rfl,.inl e,fun p hp=>h p _ hp (Same.upd_new hp) upd_same⟩
theorem r_abs (h:Q (.int (if i<0 then -i else i)) H):rAbs [.int i] H Q:=⟨i,rfl,h⟩
theorem r_max (h:Q (.int (if j > i then j else i)) H):rMax [.int i,.int j] H Q:=⟨i,j,rfl,h⟩
theorem r_int1b {b:Bool} (h:Q (.int (if b then 1 else 0)) H):rInt1 [.bl b] H Q:=.inr ⟨b,rfl,h⟩
theorem r_bitlen (h:Q (.int (bitsI i)) H):rBitLen (.int i) [] H Q:=⟨i,rfl,rfl,h⟩
theorem r_typed {T:String} {ts:TA} {r:V→List V→Hp→VK→Prop} (e:tyV K T x H) (h:ts σ H fun xs H2=>r x xs H2 Q):rTyped K T ts r σ Q x H:=⟨e,h⟩
theorem r_typed0 {T:String} {r:V→List V→Hp→VK→Prop} (e:tyV K T x H) (h:r x [] H Q):rTyped0 K T r Q x H:=⟨e,h⟩
theorem r_append {l:Addr} {xs:List V} (e:H l=some (.lst xs)) (n:xs.length≤1000) (h:Q .non (upd H l (.lst (xs++[y])))):rAppend (.ref l) [y] H Q:=⟨l,xs,y,rfl,rfl,e,small1000 n,h⟩
theorem r_catT {a b:Addr} {xs ys:List V} (e1:SqT K H a xs) (e2:SqT K H b ys) (n1:xs≠[]) (n2:ys≠[]) (n:xs.length+ys.length≤1000) (h:∀ p H2,Same H H2→H2 p=some (.tup (xs++ys))→Q (.ref p) H2):rCatT K (.ref a) (.ref b) H Q :=
 ⟨a,b,xs,ys,rfl,rfl,e1,e2,n1,Nat.le_of_lt (small1000 n),fun z=>absurd z n2,fun _ p hp=>h p _ (Same.upd_new hp) upd_same⟩
theorem r_slT {a:Addr} {xs:List V} {lo hi:Option Int} (e:SqT K H a xs) (n:¬ (HT.sIx xs.length 0 lo=0∧HT.sIx xs.length xs.length hi=xs.length)) (h:∀ p H2,Same H H2→H2 p=some (.tup (cutV xs lo hi))→Q (.ref p) H2):rSlT K (.ref a) lo hi H Q :=
 ⟨a,xs,rfl,e,n,fun p hp=>h p _ (Same.upd_new hp) upd_same⟩
theorem r_isiT {a:Addr} {xs:List V} {n:String} {b:Bool} (e:SqT K H a xs) (k:PySem.W.kitOne K (.type "tuple") (.type n)=some b) (h:Q (.bl b) H):rIsInst K [.ref a,.ty n] H Q:=⟨_,n,_,b,rfl,.inr (.inl ⟨a,xs,rfl,e,rfl⟩),k,h⟩
theorem r_isiL {a:Addr} {xs:List V} {n:String} {b:Bool} (e:SqL K H a xs) (k:PySem.W.kitOne K (.type "list") (.type n)=some b) (h:Q (.bl b) H):rIsInst K [.ref a,.ty n] H Q:=⟨_,n,_,b,rfl,.inr (.inr ⟨a,xs,rfl,e,rfl⟩),k,h⟩
theorem r_isiI {n:String} {b:Bool} (k:PySem.W.kitOne K (.type "int") (.type n)=some b) (h:Q (.bl b) H):rIsInst K [.int i,.ty n] H Q:=⟨_,n,_,b,rfl,.inl (.int _),k,h⟩
theorem r_isiB {c:Bool} {n:String} {b:Bool} (k:PySem.W.kitOne K (.type "bool") (.type n)=some b) (h:Q (.bl b) H):rIsInst K [.bl c,.ty n] H Q:=⟨_,n,_,b,rfl,.inl (.bl _),k,h⟩
theorem f_tup {a:Addr} {xs:List V} {tb:TS} (Pv:Nat→St→Hp→Prop) (h0:Pv 0 σ H) (hl:∀ i σ H,i≤xs.length→Pv i σ H→SqT K H a xs)
  (hs:∀ i x σ H,xs[i]?=some x→Pv i σ H→g x σ H fun σ2 H2=>tb { D with nx:=Pv (i+1),ct:=Pv (i+1),bk:=D.nx } σ2 H2) (hd:∀ σ H,Pv xs.length σ H→D.nx σ H):ForGoal g tb D (Itt K a) σ H:=for_tup Pv h0 hl hs hd
theorem f_any {J:It} {tb:TS} (n:Nat) (Pv:Nat→St→Prop) (h0:Pv 0 σ) (hgo:∀ i H2,i<n→Same H H2→J.go i H2) (hstop:∀ H2,Same H H2→J.stop n H2)
  (hs:∀ i x σ H2 H3,i<n→Pv i σ→Same H H2→J.yld i H2 x H3→g x σ H3 fun σ2 H4=>tb { D with nx:=fun σ' H'=>Pv (i+1) σ'∧Same H H',ct:=fun σ' H'=>Pv (i+1) σ'∧Same H H',bk:=D.nx } σ2 H4) (hd:∀ σ H2,Pv n σ→Same H H2→D.nx σ H2):ForGoal g tb D J σ H:=by
 refine⟨fun i m σ2 H2=>m=n - i∧i≤n∧Pv i σ2∧Same H H2,⟨n,by simp,Nat.zero_le _,h0,Same.refl _⟩,?_⟩
 rintro i m σ2 H2 ⟨rfl,hi,p,s⟩
 by_cases hlt:i<n
 ·exact .inr ⟨hgo i H2 hlt s,fun σ' H'=>Pv (i+1) σ'∧Same H H',fun σ' H' p'=>⟨n - (i+1),by lia,rfl,hlt,p'.1,p'.2⟩,fun x H' y=>hs i x σ2 H2 H' hlt p s y⟩
 ·have e:i=n:=by lia
  subst e
  exact .inl ⟨hstop H2 s,hd σ2 H2 p s⟩
theorem f_rng {lo:Int} {n:Nat} {tb:TS} (Pv:Nat→St→Prop) (h0:Pv 0 σ) (hs:∀ i σ H2,i<n→Pv i σ→Same H H2→g (.int (lo+i)) σ H2 fun σ2 H4=>tb { D with nx:=fun σ' H'=>Pv (i+1) σ'∧Same H H',ct:=fun σ' H'=>Pv (i+1) σ'∧Same H H',bk:=D.nx } σ2 H4)
  (hd:∀ σ H2,Pv n σ→Same H H2→D.nx σ H2):ForGoal g tb D (Itr lo n) σ H:=by
 refine f_any n Pv h0 (fun i H2 hi _=>hi) (fun H2 _=>Nat.le_refl _) (fun i x σ H2 H3 hi p s y=>?_) hd
 obtain ⟨rfl,rfl⟩:=y
 exact hs i σ _ hi p s
theorem f_zip {k1 k2:Bool} {a b:Addr} {xs ys:List V} {m n:Nat} {tb:TS} (ha:Sq k1 K H a xs) (hb:Sq k2 K H b ys) (hlen:xs.length=ys.length) (Pv:Nat→St→Prop) (h0:Pv 0 σ)
  (hs:∀ i x y σ H2,xs[i]?=some x→ys[i]?=some y→Pv i σ→Same H H2→tb { D with nx:=fun σ' H'=>Pv (i+1) σ'∧Same H H',ct:=fun σ' H'=>Pv (i+1) σ'∧Same H H',bk:=D.nx } ((σ.set m (some x)).set n (some y)) H2)
  (hd:∀ σ H2,Pv xs.length σ→Same H H2→D.nx σ H2):ForGoal (gTup K 2 (gCons (gName m) (gCons (gName n) gNil))) tb D (Itz K k1 k2 a b) σ H:=by
 refine f_any xs.length Pv h0 (fun i H2 hi s=>?_) (fun H2 s=>?_) (fun i x σ H2 H3 hi p s hy=>?_) hd
 ·exact⟨_,_,xs[i],ys[i]'(hlen ▸ hi),s.sq ha,s.sq hb,List.getElem?_eq_getElem hi,List.getElem?_eq_getElem (hlen ▸ hi)⟩
 ·exact⟨_,_,s.sq ha,s.sq hb,.inl (Nat.le_refl _)⟩
 ·obtain ⟨q,x',y',rfl,hq,e1,e2,rfl⟩:=hy
  refine⟨q,_,rfl,SqT.of upd_same,rfl,_,_,rfl,_,_,rfl,rfl,?_⟩
  have s2:Same H2 (upd H2 q (.tup [x',y'])):=Same.upd_new hq
  exact hs i x' y' σ _ (e1 _ (s.sq ha)) (e2 _ (s.sq hb)) p (s.trans s2)
end
theorem if_tt {c:Bool} {A B:Prop} (e:c=true) (h:A):if c=true then A else B:=by rw [if_pos e];exact h
theorem if_ff {c:Bool} {A B:Prop} (e:c=false) (h:B):if c=true then A else B:=by rw [e];exact iteF h
theorem if_both {c:Bool} {A B:Prop} (h1:c=true→A) (h2:c=false→B):if c=true then A else B:=by
 cases c with
 | true=>exact iteT (h1 rfl)
 | false=>exact iteF (h2 rfl)
end L2
namespace L2
open PySem PySem.Spec PyProof.Rows
section
variable {t u:TS} {D:Ends} {σ:St} {H:Hp} {te ta tb:TE} {g:TG} {tt tu:TT} {Q:VK} {i j:Int} {x y v w:V} {K:PySem.W.Frag} {X:Cx}
theorem r_call0 {sp:Sp} {E:XK} {ts:TA} (h:ts σ H fun vs H1=>sp vs H1 Q E):tCall sp [] E ts σ H Q:=by
 unfold tCall
 simp only [List.append_nil]
 exact h
noncomputable def WGo (tb:TS) (D:Ends) (W:Nat→St→Hp→Prop) (m:Nat) (σ:St) (H1:Hp):Prop:=∃ N:St→Hp→Prop,(∀ σ' H',N σ' H'→∃ m',m'<m∧W m' σ' H')∧tb { D with nx:=N,ct:=N,bk:=D.nx } σ H1
theorem f_while {c:TT} {tb:TS} (W:Nat→St→Hp→Prop) (m:Nat) (h0:W m σ H) (hs:∀ m σ H,W m σ H→c σ H fun b H1=>if b=true then WGo tb D W m σ H1 else D.nx σ H1):tWhile c tb D σ H:=⟨W,⟨m,h0⟩,hs⟩
theorem w_go {tb:TS} {W:Nat→St→Hp→Prop} {m:Nat} (h:tb { D with nx:=fun σ' H'=>∃ m',m'<m∧W m' σ' H',ct:=fun σ' H'=>∃ m',m'<m∧W m' σ' H',bk:=D.nx } σ H):WGo tb D W m σ H:=⟨_,fun _ _ z=>z,h⟩
theorem f_rngE {lo:Int} {n:Nat} {tb:TS} (Pv:Nat→St→Prop) (h0:Pv 0 σ) (hs:∀ i σ,i<n→Pv i σ→g (.int (lo+i)) σ H fun σ2 H4=>tb { D with nx:=fun σ' H'=>Pv (i+1) σ'∧H'=H,ct:=fun σ' H'=>Pv (i+1) σ'∧H'=H,bk:=D.nx } σ2 H4)
  (hd:∀ σ,Pv n σ→D.nx σ H):ForGoal g tb D (Itr lo n) σ H:=by
 refine for_range (fun i σ2 H2=>Pv i σ2∧H2=H) ⟨h0,rfl⟩ (fun i σ2 H2 hi p=>?_) (fun σ2 H2 p=>?_)
 ·obtain ⟨p,rfl⟩:=p
  exact hs i σ2 hi p
 ·obtain ⟨p,rfl⟩:=p
  exact hd σ2 p
end
end L2
namespace L2
open PySem PySem.Spec PyProof.Rows
section
variable {X:Cx} (K:PySem.W.Frag) (hK:X.K=K)
include hK
theorem kN_len:CallR X (.builtin "len") (rLen K):=hK ▸ callN_len
theorem kN_tuple:CallR X (.type "tuple") (rTupleOf K):=hK ▸ callN_tuple
theorem kN_list:CallR X (.type "list") (rListOf K):=hK ▸ callN_list
theorem kN_isinst:CallR X (.builtin "isinstance") (rIsInst K):=hK ▸ callN_isinst
theorem kx_seq:IxR X (rIx K):=hK ▸ ix_seq
theorem ksl_tup:SlR X (rSlT K):=hK ▸ sl_tup
theorem kop_catT:OpR X (binaryOp .Add) (rCatT K):=hK ▸ op_catT
theorem kpi_list {tg l:Expr} {tl:TE} (hl:PE X l tl):PI X tg l (iList K tl):=hK ▸ pi_list hl
theorem kpi_tup {tg l:Expr} {tl:TE} (hl:PE X l tl):PI X tg l (iTup K tl):=hK ▸ pi_tup hl
theorem kpi_zip2 (k1 k2:Bool) {es:List Expr} {kk:Nat} {tpos:Pos} {a b:Expr} {ta:TA} {p pos:Pos} (hg:Gl X "zip") (hm:X.mg "zip"=none) (ha:PA X [a,b] ta) (hs:starEach [a,b] X.env=[(false,eval a X.env),(false,eval b X.env)]:=by rfl) (hs2:starEach [b] X.env=[(false,eval b X.env)]:=by rfl) :
  PI X (.Tuple es kk tpos) (.Call (.Name "zip" p) [a,b] [] pos) (iZip2 K k1 k2 ta):=hK ▸ pi_zip2 k1 k2 hg hm ha hs hs2
theorem kpg_tup {es:List Expr} {k:Nat} {t:TGs} {n:Nat} {pos:Pos} (hc:X.calm=true) (h:PGs X es t)
  (hn:(assignEach es X.env).length=n:=by rfl) (hst:(assignEach es X.env).findIdx? (·.1)=none:=by rfl):PG X (.Tuple es k pos) (gTup K n t):=hK ▸ pg_tup hc h hn hst
end
end L2
namespace Mth
theorem bits_bl (x:Int):L2.bitsI x=bl x:=rfl
theorem PPn_mul {e0 e1 e2 e3 e4:Int} (hb:e0≤4000∧e1≤4000∧e2≤4000∧e3≤4000∧e4≤4000∧-100000≤e0∧-100000≤e1∧-100000≤e2∧-100000≤e3∧-100000≤e4) {i:Nat} {p e:Int} (hp:p.natAbs<16) (he:e≤4000):L2.CMulB (PPn e0 e1 e2 e3 e4 i) (p ^ e.toNat):=PPn_bits hb hp he
end Mth
namespace L2
open PySem PySem.Spec PyProof.Rows
section
variable {σ:St} {H:Hp} {te:TE} {Q:VK} {K:PySem.W.Frag} {ix:List (Option Nat)}
theorem rd_row5 {a:Addr} {x0 x1 x2 x3 x4:Int} (F:Int→V) (fr:St) (hpk:pick ix σ=none::fr) (ha:SqT K H a [.int x0,.int x1,.int x2,.int x3,.int x4])
  (step:∀ x H' (Qc:VK),Same H H'→(∀ H5,Same H' H5→Qc (F x) H5)→te (some (.int x)::fr) H' Qc)
  (hQ:∀ l H',H l=none→Same H H'→H' l=some (.lst [F x0,F x1,F x2,F x3,F x4])→Q (.ref l) H'):CompGoal ix (gName 0) (fun _ H Q=>Q true H) te σ Q (Itt K a) H :=
 rd_mapRow (r:=[x0,x1,x2,x3,x4]) F fr hpk ha (by show 5≤1000;decide) (fun x H' Qc _ s k=>step x H' Qc s k) hQ
end
end L2
namespace L2
open PySem PySem.Spec PyProof.Rows
section
variable {H:Hp} {Q:VK} {K:PySem.W.Frag}
theorem cut_tail (x:V) (xs:List V):cutV (x::xs) (some 1) none=xs:=by
 have e:HT.sIx (x::xs).length 0 (some 1)=1:=by
  have h:=HT.sIx_nat (x::xs).length 0 1
  simp only [List.length_cons] at h ⊢
  have h2:min 1 (xs.length+1)=1:=by lia
  rw [h2] at h
  exact h
 unfold cutV
 rw [e,HT.sIx_none]
 simp
theorem r_slT1 {a:Addr} {x:V} {xs:List V} (e:SqT K H a (x::xs)) (h:∀ p H2,Same H H2→H2 p=some (.tup xs)→Q (.ref p) H2):rSlT K (.ref a) (some 1) none H Q :=
 r_slT e (fun z=>by
  have h2:=HT.sIx_nat (x::xs).length 0 1
  have h3:HT.sIx (x::xs).length 0 (some 1)=min 1 (x::xs).length:=h2
  rw [h3] at z
  have:=z.1
  simp only [List.length_cons] at this
  lia) fun p H2 s m=>h p H2 s (by rw [cut_tail] at m;exact m)
end
end L2
namespace L2
open PySem
section
variable {prog:Program} {w:World} {A:Around} {E:Value→Shared→Prop} {s:Shared}
structure Zip3 (k1 k2 k3:Bool) (n a b c:Nat) (i:Nat) (f0:Value) (h:Heap):Prop where
 z:IsZip h (n+5) (n+3) (n+4) f0
 ti:IsT h (n+3) #[.ref n,.ref (n+1),.ref (n+2)]
 to:∃ u v x,IsT h (n+4) #[u,v,x]
 i1:ItAt k1 h n a i
 i2:ItAt k2 h (n+1) b i
 i3:ItAt k3 h (n+2) c i
theorem zip3_next {k1 k2 k3:Bool} {n a b c:Nat} {i:Nat} {xs ys zs:Array Value} {x y zz:Value} {Q:Value→Shared→Prop} (Z:Zip3 k1 k2 k3 n a b c i .none s.heap) (ha:a<n) (hb:b<n) (hc:c<n)
  (h1:SrcOf k1 s.heap a xs) (h2:SrcOf k2 s.heap b ys) (h3:SrcOf k3 s.heap c zs) (hx:xs[i]?=some x) (hy:ys[i]?=some y) (hz0:zs[i]?=some zz)
  (hQ:∀ h',Zip3 k1 k2 k3 n a b c (i+1) (rawInt s.heap.objs.size) h'→IsT h' s.heap.objs.size #[x,y,zz]→h'.objs.size=s.heap.objs.size+1→Off [n,n+1,n+2,n+4,n+5] s.heap h'→Q (.ref s.heap.objs.size) { s with heap:=h' }) :
  wpAny (model prog w) A (Builtin.«zip.__next__» ⟨[.ref (n+5)],[]⟩) (fun fin s'=>∃ v,fin=.done (.ret v)∧Q v s') E s:=by
 obtain ⟨hz,hTI,⟨u,v,x0,hTO⟩,hi1,hi2,hi3⟩:=Z
 show wpAny _ _ (field (.ref (n+5)) 2 >>= _) _ _ _
 refine wpAny_bind (wpAny_field hz rfl (x:=.bool false) rfl ?_)
 show wpAny _ _ (field (.ref (n+5)) 3 >>= _) _ _ _
 refine wpAny_bind (wpAny_field hz rfl (x:=.ref (n+3)) rfl ?_)
 refine wpAny_bind (wpAny_seqItems hTI rfl ?_)
 show wpAny _ _ (Builtin.SmallTypes.ownedTupleIsFree (.ref (n+5)) >>= _) _ _ _
 refine wpAny_bind ?_
 unfold Builtin.SmallTypes.ownedTupleIsFree
 refine wpAny_bind (wpAny_field hz rfl (x:=.none) rfl (wpAny_pure ?_))
 simp only [if_true]
 refine wpAny_bind (wpAny_rule ?_)
 refine wpAny_bind (wpAny_field hz rfl (x:=.ref (n+4)) rfl ?_)
 refine wpAny_bind (wpAny_setField_rec hz (by simp) fun g1 hz1 hs1=>?_)
 replace hz1:IsZip g1 (n+5) (n+3) (n+4) .ellipsis:=hz1
 refine wpAny_bind ?_
 simp only [List.zipIdx_cons,List.zipIdx_nil,List.forIn_cons,List.forIn_nil]
 refine wpAny_bind (wpAny_bind (wpAny_onRaise ?_))
 show wpAny _ _ (Builtin.SmallTypes.nextOf (.ref n) >>= _) _ _ _
 refine wpAny_bind (sub_item (hi1.keep fun o e=>(hs1.2 _ (nne (by lia))).trans e) (h1.keep fun o e=>(hs1.2 _ (nne (by lia))).trans e) hx fun g2 hi1' hs2=>wpAny_pure ?_)
 have up2:∀ d o,d≠n+5→d≠n→s.heap.get? d=some o→g2.get? d=some o:=fun d o d1 d2 e=>(hs2.2 _ d2).trans ((hs1.2 _ d1).trans e)
 have hTO2:IsT g2 (n+4) #[u,v,x0]:=up2 _ _ (nne (by lia)) (nne (by lia)) hTO
 refine wpAny_bind (wpAny_seqItems hTO2 rfl ?_)
 refine wpAny_bind (upd_tup hTO2 (by simp) fun g3 hTO3 hs3=>?_)
 replace hTO3:IsT g3 (n+4) #[x,v,x0]:=hTO3
 refine wpAny_bind (wpAny_letGo (wpAny_pure ?_))
 refine wpAny_bind (wpAny_bind (wpAny_onRaise ?_))
 show wpAny _ _ (Builtin.SmallTypes.nextOf (.ref (n+1)) >>= _) _ _ _
 refine wpAny_bind (sub_item (hi2.keep fun o e=>(hs3.2 _ (nne (by lia))).trans (up2 _ _ (nne (by lia)) (nne (by lia)) e)) (h2.keep fun o e=>(hs3.2 _ (nne (by lia))).trans (up2 _ _ (nne (by lia)) (nne (by lia)) e)) hy fun g4 hi2' hs4=>wpAny_pure ?_)
 have up4:∀ d o,d≠n+4→d≠n+1→g2.get? d=some o→g4.get? d=some o:=fun d o d1 d2 e=>(hs4.2 _ d2).trans ((hs3.2 _ d1).trans e)
 have hTO4:IsT g4 (n+4) #[x,v,x0]:=(hs4.2 _ (nne (by lia))).trans hTO3
 refine wpAny_bind (wpAny_seqItems hTO4 rfl ?_)
 refine wpAny_bind (upd_tup hTO4 (by simp) fun g5 hTO5 hs5=>?_)
 replace hTO5:IsT g5 (n+4) #[x,y,x0]:=hTO5
 refine wpAny_bind (wpAny_letGo (wpAny_pure ?_))
 refine wpAny_bind (wpAny_bind (wpAny_onRaise ?_))
 show wpAny _ _ (Builtin.SmallTypes.nextOf (.ref (n+2)) >>= _) _ _ _
 refine wpAny_bind (sub_item (hi3.keep fun o e=>(hs5.2 _ (nne (by lia))).trans (up4 _ _ (nne (by lia)) (nne (by lia)) (up2 _ _ (nne (by lia)) (nne (by lia)) e))) (h3.keep fun o e=>(hs5.2 _ (nne (by lia))).trans (up4 _ _ (nne (by lia)) (nne (by lia)) (up2 _ _ (nne (by lia)) (nne (by lia)) e))) hz0 fun g6 hi3' hs6=>wpAny_pure ?_)
 have up6:∀ d o,d≠n+4→d≠n+2→g4.get? d=some o→g6.get? d=some o:=fun d o d1 d2 e=>(hs6.2 _ d2).trans ((hs5.2 _ d1).trans e)
 have hTO6:IsT g6 (n+4) #[x,y,x0]:=(hs6.2 _ (nne (by lia))).trans hTO5
 refine wpAny_bind (wpAny_seqItems hTO6 rfl ?_)
 refine wpAny_bind (upd_tup hTO6 (by simp) fun g7 hTO7 hs7=>?_)
 replace hTO7:IsT g7 (n+4) #[x,y,zz]:=hTO7
 refine wpAny_bind (wpAny_letGo (wpAny_pure (wpAny_pure ?_)))
 refine wpAny_bind (wpAny_seqItems hTO7 rfl ?_)
 refine wpAny_bind (wpAny_newTuple ?_)
 have hsz:g7.objs.size=s.heap.objs.size:=by rw [hs7.1,hs6.1,hs5.1,hs4.1,hs3.1,hs2.1,hs1.1]
 have all7:∀ d o,d≠n→d≠n+1→d≠n+2→d≠n+4→g1.get? d=some o→g7.get? d=some o:=fun d o d0 d1 d2 d4 e=>(hs7.2 _ d4).trans (up6 _ _ d4 d2 (up4 _ _ d4 d1 ((hs2.2 _ d0).trans e)))
 have hz7:IsZip g7 (n+5) (n+3) (n+4) .ellipsis:=all7 _ _ (nne (by lia)) (nne (by lia)) (nne (by lia)) (nne (by lia)) hz1
 have off7:Off [n,n+1,n+2,n+4,n+5] s.heap g7:=fun d o hd e=>by
  simp only [List.mem_cons,List.not_mem_nil,or_false,not_or] at hd
  exact all7 d o hd.1 hd.2.1 hd.2.2.1 hd.2.2.2.1 ((hs1.2 _ hd.2.2.2.2).trans e)
 have hzlt:n+5<g7.objs.size:=Heap.lt_size hz7
 show wpAny _ _ (Builtin.SmallTypes.ownedTupleHandOut (.ref (n+5)) (.ref g7.objs.size) >>= _) _ _ _
 refine wpAny_bind ?_
 unfold Builtin.SmallTypes.ownedTupleHandOut
 have hz8:IsZip (g7.push { cls:=.type "tuple",data:=.seq #[x,y,zz] }) (n+5) (n+3) (n+4) .ellipsis:=Heap.get?_push_of_some _ hz7
 refine wpAny_bind (wpAny_setField_rec hz8 (by simp) fun g9 hz9 hs9=>?_)
 replace hz9:IsZip g9 (n+5) (n+3) (n+4) (rawInt g7.objs.size):=hz9
 refine wpAny_setField_rec hz9 (by simp) fun gA hzA hsA=>?_
 replace hzA:IsZip gA (n+5) (n+3) (n+4) (rawInt g7.objs.size):=hzA
 have up:∀ d o,d≠n+5→g7.get? d=some o→gA.get? d=some o:=fun d o d1 e=>(hsA.2 _ d1).trans ((hs9.2 _ d1).trans (Heap.get?_push_of_some _ e))
 have hTA:IsT gA g7.objs.size #[x,y,zz]:=(hsA.2 _ (Nat.ne_of_gt hzlt)).trans ((hs9.2 _ (Nat.ne_of_gt hzlt)).trans (Heap.get?_push_size _ rfl))
 have hzA':gA.objs.size=g7.objs.size+1:=by rw [hsA.1,hs9.1,Heap.size_push]
 rw [hsz] at hzA hTA hzA'
 refine wpAny_pure ⟨_,rfl,?_⟩
 show Q (.ref g7.objs.size) _
 rw [hsz]
 refine hQ gA ⟨hzA,up _ _ (nne (by lia)) (off7 _ _ (by simp) hTI),⟨x,y,zz,up _ _ (nne (by lia)) hTO7⟩,?_,?_,?_⟩ hTA hzA' fun d o hd e=>?_
 ·exact hi1'.keep fun o e=>up _ o (nne (by lia)) ((hs7.2 _ (nne (by lia))).trans (up6 _ _ (nne (by lia)) (nne (by lia)) (up4 _ _ (nne (by lia)) (nne (by lia)) e)))
 ·exact hi2'.keep fun o e=>up _ o (nne (by lia)) ((hs7.2 _ (nne (by lia))).trans (up6 _ _ (nne (by lia)) (nne (by lia)) e))
 ·exact hi3'.keep fun o e=>up _ o (nne (by lia)) ((hs7.2 _ (nne (by lia))).trans e)
 ·exact up d o (fun z=>hd (by simp [z])) (off7 d o hd e)
end
end L2
namespace L2
open PySem PySem.Spec PyProof.Rows
noncomputable def rm (H:Hp) (l:Addr):Hp:=fun b=>if b=l then none else H b
theorem rm_at {H:Hp} {l:Addr}:rm H l l=none:=by unfold rm;rw [if_pos rfl]
theorem rm_ne {H:Hp} {l b:Addr} (h:b≠l):rm H l b=H b:=by unfold rm;rw [if_neg h]
theorem rm_same {H:Hp} {l:Addr}:Same (rm H l) H:=fun b o e=>by
 by_cases h:b=l
 ·subst h;rw [rm_at] at e;cases e
 ·rw [rm_ne h] at e;exact e
theorem rm_sqT {K:PySem.W.Frag} {H:Hp} {l a:Addr} {xs ys:List V} (h:SqT K H a xs) (hl:H l=some (.lst ys)):SqT K (rm H l) a xs:=by
 have ne:∀ {o},H a=some o→(∀ zs,o≠.lst zs)→a≠l:=fun {o} e n z=>by subst z;rw [hl] at e;exact n _ (Option.some.inj e).symm
 rcases h with (h|⟨o,h⟩)|h
 ·exact .inl (.inl (by rw [rm_ne (ne h fun _ z=>nomatch z)];exact h))
 ·exact .inl (.inr ⟨o,by rw [rm_ne (ne h fun _ z=>nomatch z)];exact h⟩)
 ·exact .inr h
end L2
namespace L2
open PySem PySem.Spec PyProof.Rows PySem.W
structure XCls (K:Frag) (C:Addr):Prop where
 ga:findIn K (.ref C) "__getattribute__"=some (some (.builtin "BaseException.__getattribute__"))
 gt:findIn K (.ref C) "__getattr__"=some none
 fc:findObj K C none "__class__"=some (.bind (.builtin "getset_descriptor.__get__") (.builtin "object.__class__"))
 ob:mroIn K C (.type "object")=some true
 be:subIn K (.ref C) (.type "BaseException")=some true
 cl:(clsIn K C).isSome=true
section
variable {prog:Program} {w:World} {A:Around} {E:Value→Shared→Prop} {s:Shared} {K:Frag} {x C:Addr} {ox:Obj}
theorem exc_class {Q:Option Value→Shared→Prop} (V:XCls K C) (X:K.In s.heap) (I:InstAt s.heap x ox C none) (h:Q (some (.ref C)) { s with toks:=s.toks+1 }) :
  wpAny (model prog w) A (getAttr? (.ref x) "__class__") Q E s:=by
 obtain ⟨hh,g,d,t,os⟩:=s
 have L0:=I.type (M:=model prog w)
 have L1:=looks_findIn (M:=model prog w) X V.ga
 have L2:=looks_findIn (M:=model prog w) X V.gt
 have L3:=looks_find (M:=model prog w) X I V.fc
 have L4:=looks_subIn (M:=model prog w) X V.be
 have f3:=F.attr_ValueError.ga.bind (.ref x)
 unfold getAttr? getAttrBy? getAttrBy
 refine wpAny_bind (wpAny_mkText (wpAny_bind (wpAny_attempt (wpAny_holding (wpAny_bind (L0.at (wpAny_bind (L1.at ?_))))))))
 have hx2:(Value.builtin "BaseException.__getattribute__" == Value.builtin "object.__getattribute__")=false:=by decide +kernel
 have hx1:(onTheHeap (Value.ref C) && Value.builtin "BaseException.__getattribute__" == Value.builtin "object.__getattribute__")=false:=by rw [hx2];rfl
 dsimp only
 rw [hx1]
 simp only [Bool.false_eq_true,if_false]
 unfold getAttrByItsOwn hookBefore
 rw [if_pos (show onTheHeap (Value.ref C)=true from rfl)]
 refine wpAny_bind (L2.at (wpAny_bind (wpAny_attempt (wpAny_holding ?_))))
 unfold callGetattribute boundAndCalled
 rw [if_neg (by decide)]
 rw [f3]
 refine wpAny_bind (wpAny_pure (wpAny_call ?_))
 refine codeAny_call_builtin F.attr_ValueError.ga.plain F.entry_bexc_ga ?_
 have hk:builtinKind "BaseException.__getattribute__"=some .slot:=by decide +kernel
 have hsplit:splitId "BaseException.__getattribute__"=some ("BaseException","__getattribute__"):=by decide +kernel
 have ha:=F.args_bexc_ga (.ref x) (.str "__class__" t)
 simp only [checkBuiltinCall,hk,hsplit]
 refine wpAny_bind ?_
 unfold isInstance
 refine wpAny_bind (L0.at (L4.at ?_))
 rw [if_neg (by decide)]
 refine wpAny_of_eq (a:=()) ha ?_
 show wpAny _ _ (Builtin.«object.__getattribute__» ⟨[.ref x,.str "__class__" t],[]⟩) _ _ _
 unfold Builtin.«object.__getattribute__»
 refine wpAny_bind (wpAny_pure ?_)
 refine wpAny_bind (wpAny_pure (wpAny_bind (L0.at (wpAny_bind (L3.at ?_)))))
 show wpAny _ _ (holding [.builtin "object.__class__"] (call (.builtin "getset_descriptor.__get__") [.builtin "object.__class__",.ref x,.ref C]) >>= ret) _ _ _
 refine wpAny_bind (wpAny_holding (wpAny_call (class_get (s:=⟨hh,g,d,t+1,os⟩) X I V.ob ?_)))
 refine wpAny_pure ?_
 show wpAny _ _ (handedOut (.ref C)) _ _ _
 rw [handedOut_of rfl]
 exact wpAny_pure (wpAny_pure h)
end
end L2
namespace L2
open PySem PySem.Spec PyProof.Rows PySem.W
theorem kitx_exc {K:Frag} {a C:Addr} (V:XCls K C):KitX K (.ref a) (.ref C) (fun h=>∃ ox,PySem.W.InstAt h a ox C none) where
 ty:=fun _ _ _ ⟨_,I⟩=>I.type
 it:=fun _ _ X _=>by
  obtain ⟨cd,hc⟩:=Option.isSome_iff_exists.mp V.cl
  unfold clsIn at hc
  split at hc
  ·rename_i c' d' cd' sl' ho
   intro A' Q' E' s' k q
   unfold isType loadHead
   exact wpAny_bind (wpAny_loadPart (k _ _ (X _ _ ho)) (wpAny_pure q))
  ·cases hc
 ne:=fun h tp dd its n sl X htp=>by
  obtain ⟨cd,hc⟩:=Option.isSome_iff_exists.mp V.cl
  refine Bool.eq_false_iff.mpr fun q=>?_
  have e:C=tp:=Value.ref.inj (beq_iff_eq.mp q)
  subst e
  unfold clsIn at hc
  split at hc
  ·rename_i c' d' cd' sl' ho
   have z:=(X _ _ ho).symm.trans htp
   cases z
  ·cases hc
 ca:=fun X ⟨_,I⟩ k=>exc_class V X I k
noncomputable def ExcO (a C:Addr):HO:=.ext fun h=>∃ ox,PySem.W.InstAt h a ox C none
section
variable {M:Model} {A:Around} {E:Value→Shared→Prop} {s:Shared}
theorem entry_core {base:Heap} {env:Env} {outer:List Env} {L e:Addr} {oe:Obj} {vs:Array Value} {head:Value} {hadNext:Bool} {Q:Unit→Shared→Prop}
  (hfr:A.frames=some (env::outer)) (hl:s.heap.FunFrames base (env::outer)) (hf:env.frame=some L)
  (he:s.heap.get? e=some oe) (hd:oe.data=.fields vs) (hsz:1<vs.size)
  (h:∀ h' T,(∀ b o,b≠e→b∉frs (env::outer)→s.heap.get? b=some o→h'.get? b=some o)→(∀ b o,b≠e→s.heap.get? b=some o→∃ sl,h'.get? b=some { o with slots:=sl }) →
   s.heap.get? T=none→T≠e→h'.get? e=some (oe.mapFields (·.setIfInBounds 1 (.ref T)))→(∃ oT ts,h'.get? T=some oT∧oT.data=.fields ts∧ts[3]?=some .none)→Q () { s with heap:=h' }) :
  wpAny M A (do let a ← frameOf env;let pl ← entryPlaceOf L hadNext;let b ← EntryCells.newEntry head a .none (rawInt L) .none pl;setField (.ref e) 1 b) (fun _ s'=>wpAny M A (setFlight (.ref e) none) Q E s') E s:=by
 have hene:e∉(env::outer).filterMap (·.frame):=fun hm=>by
  obtain ⟨_,o,ho,hnf⟩:=hl.mem hm
  rw [he] at ho;injection ho with ho;subst ho;exact hnf vs hd
 refine wpAny_bind (wpAny_frameOf_fun hfr hl hf fun h₁ hs₁=>?_)
 refine wpAny_bind (wpAny_entryPlaceOf fun pl hpl=>?_)
 unfold EntryCells.newEntry newFields
 refine wpAny_bind (wpAny_newObj_type ?_ (hpl.sizeOk5 _ _ _ _ _))
 have he₁:h₁.get? e=some oe:=(hs₁.2.1 e hene).trans he
 have he₂:=Heap.get?_push_of_some (h:=h₁) { cls:=.type "traceback",dict:=none,data:=.fields ([head,.ref L,.none,rawInt L,.none]++(if pl.isEmpty then List.replicate 6 Value.none else pl)).toArray } he₁
 refine wpAny_setField he₂ hd hsz ?_
 have hTe:h₁.objs.size≠e:=Nat.ne_of_gt (Heap.lt_size he₁)
 have hd₃:=Obj.data_mapFields hd (·.setIfInBounds 1 (Value.ref h₁.objs.size))
 have he₃:=Heap.get?_update_self (Obj.mapFields (·.setIfInBounds 1 (Value.ref h₁.objs.size))) he₂ (Obj.isFreed_of_fields hd₃)
 have hT₃:=(Heap.get?_update_other (h₁.push { cls:=.type "traceback",dict:=none,data:=.fields ([head,.ref L,.none,rawInt L,.none]++(if pl.isEmpty then List.replicate 6 Value.none else pl)).toArray })
  (Obj.mapFields (·.setIfInBounds 1 (Value.ref h₁.objs.size))) (Ne.symm hTe)).trans (Heap.get?_push_size h₁ rfl)
 unfold setFlight
 refine wpAny_bind (wpAny_field he₃ hd₃ (x:=.ref h₁.objs.size) (by simp [hsz]) ?_)
 rw [if_pos (show (Value.ref h₁.objs.size != Value.none)=true from by simp)]
 have keep:∀ b o,b≠e→h₁.get? b=some o →
   (((h₁.push { cls:=.type "traceback",dict:=none,data:=.fields ([head,.ref L,.none,rawInt L,.none]++(if pl.isEmpty then List.replicate 6 Value.none else pl)).toArray }).update e (Obj.mapFields (·.setIfInBounds 1 (Value.ref h₁.objs.size)))).update h₁.objs.size
    (Obj.mapFields (·.setIfInBounds 3 ((none:Option Addr).elim Value.none fun f=>rawInt f)))).get? b=some o:=fun b o hbe hb=>by
  have hbT:h₁.objs.size≠b:=Nat.ne_of_gt (Heap.lt_size hb)
  rw [Heap.get?_update_other _ _ hbT,Heap.get?_update_other _ _ (Ne.symm hbe)]
  exact Heap.get?_push_of_some _ hb
 refine wpAny_setField hT₃ rfl (by simp only [List.size_toArray,List.length_append,List.length_cons,List.length_nil] <;> lia) (h _ h₁.objs.size (fun b o hbe hbf hb=>keep b o hbe ((hs₁.2.1 b hbf).trans hb)) (fun b o hbe hb=>?_) (Heap.get?_none_of_le (by rw [hs₁.1];exact Nat.le_refl _)) hTe ?_ ?_)
 ·obtain ⟨sl,hs⟩:=hs₁.2.2 b o hb
  exact⟨sl,keep b _ hbe hs⟩
 ·rw [Heap.get?_update_other _ _ hTe];exact he₃
 ·exact⟨_,_,Heap.get?_update_self _ hT₃ (Obj.isFreed_of_fields (Obj.data_mapFields rfl _)),Obj.data_mapFields rfl _,by first|(simp;done)|(rcases hpl with rfl|⟨_,_,_,_,_,_,_,rfl⟩ <;> simp)⟩
noncomputable def HeadOk (h:Heap) (e:Addr) (vs:Array Value):Option Addr→Prop
 | none=>vs[1]?=some .none
 | some T=>vs[1]?=some (.ref T)∧T≠e∧∃ oT ts,h.get? T=some oT∧oT.data=.fields ts∧ts[3]?=some .none
theorem note_core {base:Heap} {env:Env} {outer:List Env} {L e:Addr} {oe:Obj} {vs:Array Value} {T0:Option Addr} {Q:Unit→Shared→Prop}
  (hfr:A.frames=some (env::outer)) (hl:s.heap.FunFrames base (env::outer)) (hf:env.frame=some L)
  (he:s.heap.get? e=some oe) (hd:oe.data=.fields vs) (hh:HeadOk s.heap e vs T0)
  (h:∀ h' T,(∀ b o,b≠e→some b≠T0→b∉frs (env::outer)→s.heap.get? b=some o→h'.get? b=some o)→(∀ b o,b≠e→some b≠T0→s.heap.get? b=some o→∃ sl,h'.get? b=some { o with slots:=sl }) →
   s.heap.get? T=none→T≠e→h'.get? e=some (oe.mapFields (·.setIfInBounds 1 (.ref T)))→(∃ oT ts,h'.get? T=some oT∧oT.data=.fields ts∧ts[3]?=some .none)→Q () { s with heap:=h' }) :
  wpAny M A (noteFrame (.ref e) env) (fun _ s'=>wpAny M A (setFlight (.ref e) none) Q E s') E s:=by
 unfold noteFrame
 simp only [hf]
 cases T0 with
 | none =>
  have h1:vs[1]?=some .none:=hh
  refine wpAny_bind (wpAny_field he hd h1 ?_)
  rw [if_neg (by decide)]
  exact entry_core hfr hl hf he hd (Array.getElem?_eq_some_iff.mp h1).1 fun h' T k1 k2 k3 k4 k5 k6=>h h' T (fun b o b1 _ b3 b4=>k1 b o b1 b3 b4) (fun b o b1 _ b3=>k2 b o b1 b3) k3 k4 k5 k6
 | some T =>
  obtain ⟨h1,hTe,oT,ts,hT,hdT,h3⟩:=hh
  refine wpAny_bind (wpAny_field he hd h1 ?_)
  rw [if_pos (show (Value.ref T != Value.none)=true from by simp)]
  refine wpAny_bind (wpAny_field hT hdT h3 ?_)
  rw [if_neg (show ¬ ((Value.none == rawInt L)=true) from by simp [rawInt])]
  refine wpAny_bind (wpAny_setField hT hdT (Array.getElem?_eq_some_iff.mp h3).1 ?_)
  have other:∀ b,b≠T→(s.heap.update T (Obj.mapFields (·.setIfInBounds 3 Value.none))).get? b=s.heap.get? b:=fun b hb=>Heap.get?_update_other _ _ (Ne.symm hb)
  have noRecord:∀ b o,s.heap.get? b=some o→(∀ vs,o.data≠.fields vs)→b≠T:=fun b o hb hnf q=>by
   rw [q,hT] at hb;injection hb with hb;subst hb;exact hnf ts hdT
  have hT2:=Heap.get?_update_self (Obj.mapFields (·.setIfInBounds 3 Value.none)) hT (Obj.isFreed_of_fields (Obj.data_mapFields hdT _))
  refine entry_core hfr (hl.of_keeps fun b o hb hnf=>⟨o,(other b (noRecord b o hb hnf)).trans hb,rfl⟩) hf ((other e (Ne.symm hTe)).trans he) hd (Array.getElem?_eq_some_iff.mp h1).1 fun h' T' k1 k2 k3 k4 k5 k6=>?_
  refine h h' T' (fun b o b1 b2 b3 b4=>k1 b o b1 b3 ((other b fun z=>b2 (by rw [z])).trans b4)) (fun b o b1 b2 b4=>k2 b o b1 ((other b fun z=>b2 (by rw [z])).trans b4)) ?_ k4 k5 k6
  by_cases hq:T'=T
  ·rw [hq,hT2] at k3;cases k3
  ·rw [other T' hq] at k3;exact k3
theorem flight_again {e:Addr} {oe:Obj} {vs:Array Value} {T:Addr} {Q:Unit→Shared→Prop} (he:s.heap.get? e=some oe) (hd:oe.data=.fields vs) (hh:HeadOk s.heap e vs (some T))
  (h:∀ h',(∀ b o,b≠T→s.heap.get? b=some o→h'.get? b=some o)→(∃ oT ts,h'.get? T=some oT∧oT.data=.fields ts∧ts[3]?=some .none)→Q () { s with heap:=h' }):wpAny M A (setFlight (.ref e) none) Q E s:=by
 obtain ⟨h1,hTe,oT,ts,hT,hdT,h3⟩:=hh
 have hsz3:3<ts.size:=(Array.getElem?_eq_some_iff.mp h3).1
 unfold setFlight
 refine wpAny_bind (wpAny_field he hd h1 ?_)
 rw [if_pos (show (Value.ref T != Value.none)=true from by simp)]
 refine wpAny_setField hT hdT hsz3 (h _ (fun b o hb e=>(Heap.get?_update_other _ _ (Ne.symm hb)).trans e) ⟨_,_,Heap.get?_update_self _ hT (Obj.isFreed_of_fields (Obj.data_mapFields hdT _)),Obj.data_mapFields hdT _,?_⟩)
 simp [hsz3]
end
end L2
namespace L2
open PySem PySem.Spec PyProof.Rows PySem.W
theorem ObjOk.there {P:Program} {w:World} {H:Hp} {h:Heap} {a:Addr} {o:HO} (x:ObjOk P w H h a o):∃ ob,h.get? a=some ob:=by
 cases o with
 | lst xs=>obtain ⟨_,_,_,_,e⟩:=x;exact⟨_,e⟩
 | tup xs=>obtain ⟨_,_,_,ob,e,_⟩:=x;exact⟨_,e⟩
 | dK kvs=>obtain ⟨_,_,_,_,o,_,_,e,_⟩:=x;exact⟨_,e⟩
 | dT kvs=>obtain ⟨_,_,_,_,o,_,_,e,_⟩:=x;exact⟨_,e⟩
 | set S n=>obtain ⟨o,_,_,_,e,_⟩:=x;exact⟨_,e⟩
 | ins C dx fs=>obtain ⟨_,_,_,e,_⟩:=x;exact⟨_,e⟩
 | own y=>obtain ⟨_,e⟩:=x;exact⟨_,e⟩
 | xd fs=>obtain ⟨_,⟨_,_,_,e,_⟩,_⟩:=x;exact⟨_,e⟩
 | rng lo hi=>obtain ⟨_,_,_,e⟩:=x;exact⟨_,e⟩
 | frz ob u=>obtain ⟨e,_⟩:=x;exact⟨_,e⟩
 | tbl ps=>exact⟨_,(show h.get? a=some _ from x)⟩
 | met f y=>exact⟨_,(show h.get? a=some _ from x)⟩
 | ext φ=>obtain ⟨_,⟨_,e⟩,_⟩:=x;exact⟨_,e⟩
theorem HOk.free {P:Program} {w:World} {H:Hp} {h:Heap} {a:Addr} (x:HOk P w H h) (e:h.get? a=none):H a=none:=by
 cases q:H a with
 | none=>rfl
 | some o=>obtain ⟨ob,z⟩:=(x a o q).there;rw [e] at z;cases z
noncomputable def Exc (h:Heap) (H:Hp) (h0:Heap) (ps:List (Addr×Obj)) (a C:Addr):Prop:=∃ oe vs T0,h.get? a=some oe∧oe.cls=.ref C∧oe.dict=none∧oe.data=.fields vs∧1<vs.size∧HeadOk h a vs T0∧H a=none∧(h0.get? a=none∧∀ p∈ps,p.1≠a) ∧
 ∀ T,T0=some T→H T=none∧h0.get? T=none∧∀ p∈ps,p.1≠T
noncomputable def CX1 (P:Program) (w:World):CXT:=fun outer H s E e s'=>∃ a C H',e=.ref a∧s'.os=s.os∧AllBare s'.gens∧Un (frs outer) [] H H' s.heap s'.heap∧HOk P w H' s'.heap∧Exc s'.heap H' s.heap [] a C∧E (.ref C) none H'
noncomputable abbrev EXT:=Addr→St→Hp→Prop
noncomputable def XW (X:Cx) (EX:EXT):Value→Shared→Prop:=fun e s'=>∃ a C σ' H',e=.ref a∧Inv X.nox [] σ' H' s'∧Exc s'.heap H' X.s₀.heap X.pn a C∧EX C σ' H'
theorem mapFields_dict (o:Obj) (f:Array Value→Array Value):(o.mapFields f).dict=o.dict:=by
 unfold Obj.mapFields;split <;> rfl
theorem leaves {P:Program} {w:World} {K:PySem.W.Frag} {mg:Str→Option Value} {base:Heap} {N:List Str} {qual:Str} {scope:Scope} {f:Addr} {cd:Value} {A:Around} {outer:List Env} {s:Shared} {H:Hp} {E:XK} {e:Value} {s':Shared}
  (h:XW (cxOf (CX1 P w) P w K mg base N qual scope f cd A outer s H E) (fun C _ H'=>E (.ref C) none H') e s'):(cxOf (CX1 P w) P w K mg base N qual scope f cd A outer s H E).xe e s':=by
 obtain ⟨a,C,σ',H',rfl,I,⟨oe,vs,T0,he,hc,hdi,hd,hsz,hh,hHa,⟨h0a,_⟩,hT⟩,hE⟩:=h
 have h0a':s.heap.get? a=none:=h0a
 have hT':∀ T,T0=some T→H' T=none∧s.heap.get? T=none:=fun T z=>⟨(hT T z).1,(hT T z).2.1⟩
 show wpAny (model P w) (A.deeper (envOfC qual scope s.heap.objs.size f cd)) (leaving (envOfC qual scope s.heap.objs.size f cd) (.ref a)) _ _ s'
 unfold leaving
 refine wpAny_bind (note_core (L:=s.heap.objs.size) I.ok.frames I.stack rfl he hd hh fun h' T k1 k2 k3 k4 k5 k6=>?_)
 have ne:∀ b o,s.heap.get? b=some o→b≠a∧some b≠T0∧b≠s.heap.objs.size:=fun b o q=>⟨fun z=>(by rw [z,h0a'] at q;cases q),fun z=>(by rw [(hT' b z.symm).2] at q;cases q),Nat.ne_of_lt (Heap.lt_size q)⟩
 have nfr:∀ b o,s.heap.get? b=some o→b∉frs outer→b∉frs (envOfC qual scope s.heap.objs.size f cd::outer):=fun b o q hb z=>by
  rcases List.mem_cons.mp (I.stkSub b z) with r|r
  ·exact (ne b o q).2.2 r
  ·exact hb r
 have off:Off (a::(T0.toList++frs (envOfC qual scope s.heap.objs.size f cd::outer))) s'.heap h':=fun b o hb q=>by
  simp only [List.mem_cons,List.mem_append,not_or] at hb
  exact k1 b o hb.1 (fun z=>hb.2.1 (by rw [← z];simp)) hb.2.2 q
 refine⟨a,C,H',rfl,I.os,I.bare,⟨fun b o q n hb hx=>?_,fun b o q n hb hx=>?_,fun b o q n hx=>I.base.free b o q n hx,fun b o q hx=>?_,I.base.tups,I.base.frzs,I.base.tbls⟩,I.hok.off (fun b hb=>?_) off,?_,hE⟩
 ·exact k1 b o (ne b o q).1 (ne b o q).2.1 (nfr b o q hb) (I.base.keep b o q n hb hx)
 ·obtain ⟨sl,q1⟩:=I.base.slot b o q n hb hx
  obtain ⟨sl',q2⟩:=k2 b _ (ne b o q).1 (ne b o q).2.1 q1
  exact⟨sl',q2⟩
 ·obtain ⟨o',q1⟩:=I.base.there b o q hx
  obtain ⟨sl',q2⟩:=k2 b _ (ne b o q).1 (ne b o q).2.1 q1
  exact⟨_,q2⟩
 ·simp only [List.mem_cons,List.mem_append] at hb
  rcases hb with rfl|hb|hb
  ·exact hHa
  ·cases T0 with
   | none=>simp at hb
   | some T1 =>
    simp only [Option.toList_some,List.mem_singleton] at hb
    rw [hb];exact (hT' T1 rfl).1
  ·exact I.stkFree b hb
 ·refine⟨_,_,some T,k5,(Obj.cls_mapFields _ _).trans hc,(mapFields_dict _ _).trans hdi,Obj.data_mapFields hd _,by simpa using hsz,⟨by simp [hsz],k4,k6⟩,hHa,⟨h0a',fun _ z=>nomatch z⟩,fun T' e=>?_⟩
  cases e
  refine⟨I.hok.free k3,?_,fun _ z=>nomatch z⟩
  cases q:s.heap.get? T with
  | none=>rfl
  | some o =>
   obtain ⟨o',q1⟩:=I.base.there T o q (by show T∉([]:List Addr);simp)
   rw [k3] at q1;cases q1
noncomputable def OkX (P:Program) (w:World) (K:PySem.W.Frag) (mg:Str→Option Value) (base:Heap) (k:Nat) (x:Str) (ps:List Str) (sp:Sp):Prop :=
 ∃ f fd,FnOk P w K mg base (CX1 P w) k f fd ps sp∧mg x=some (.ref f)∧PySem.W.keepIn K (.ref f)=true∧Binds K fd ps []
theorem PSs.xe {X:Cx} {E:Value→Shared→Prop} {st:List Stmt} {t:TS} (h:PSs (X.wish E) st t) (k:∀ e s,E e s→X.xe e s):PSs X st t:=fun pins s σ H D I hw =>
 wpAny_mono (h pins s σ H D (I.wish _) hw) (fun _ _ z=>z.unwish) k
section
variable {P:Program} {w:World} {K:PySem.W.Frag} {mg:Str→Option Value} {base:Heap}
theorem Def.okX {x:Str} {st:Stmt} {N ps:List Str} {k:Nat} {sp:Sp} (D:Def K mg x st ps) (S:FnScope N ps (defScope st)) (len:∀ vs H Q E,sp vs H Q E→vs.length=ps.length)
  (hbody:∀ (f:Addr) (cdv:Value) (A:Around) (outer:List Env) (s:Shared) (H:Hp) (vs:List V) (Q:VK) (E:XK),Room k (A.deeper (envOfC x (defScope st) s.heap.objs.size f cdv))→sp vs H Q E →
   ∃ t,PSs ((cxOf (CX1 P w) P w K mg base N x (defScope st) f cdv A outer s H E).wish (XW (cxOf (CX1 P w) P w K mg base N x (defScope st) f cdv A outer s H E) fun C _ H'=>E (.ref C) none H')) (defBody st) t∧t { nx:=fun _ H'=>Q .non H',rt:=Q } (start N vs) H):OkX P w K mg base (k+1) x ps sp:=by
 obtain ⟨f,fd,F,hm,hb⟩:=D
 obtain ⟨oc,od,kV,doc,pm,an,cdv,ct,osl,rfl,lk,hcd⟩:=F.ex
 refine⟨f,_,fn_of lk hcd S len fun A outer s H vs Q E hr hsp=>?_,hm,F.kp,hb⟩
 obtain ⟨t,h,q⟩:=hbody f cdv A outer s H vs Q E hr hsp
 exact⟨t,h.xe fun e s z=>leaves z,q⟩
end
noncomputable def tCallX (sp:Sp) (EX:EXT) (t:TA):TE:=fun σ H Q=>t σ H fun vs H1=>sp vs H1 Q fun C _ H2=>∃ c,C=.ref c∧EX c σ H2
section
variable {X:Cx} {EX:EXT} {k:Nat} {x:Str} {ps:List Str} {sp:Sp} {p pos:Pos} {e:Expr} {es:List Expr} {t:TA}
theorem pcallX (O:OkX X.prog X.w X.K X.mg X.base k x ps sp) (hr:Room k X.A) (hX:∀ e s',XW X EX e s'→X.xe e s') (hex:X.ex=[]) (ha:PA X (e::es) t) (hg:Gl X x:=by rfl)
  (hdb:(x == ("__debug__":Str))=false:=by decide) (he:starEach (e::es) X.env=(false,eval e X.env)::starEach es X.env:=by rfl) (hpl:(backTo pos (starEach es X.env)).any (·.1)=false:=by rfl) :
  PE X (.Call (.Name x p) (e::es) [] pos) (tCallX sp EX t):=by
 obtain ⟨f,fd,F,hm,hk,hb⟩:=O
 intro pins s σ H Q I h
 refine wpAny_Call_Name_kw (ld_glob I hg hm ?_ hdb)
 refine PySem.W.callWith_K (h₀:=X.base) I.ok.mod.kin hk (thn (ha pos pins s σ H _ I h) fun us s1 ⟨vs,H1,I1,r,q⟩=>⟨I1.kIn,?_⟩) he hpl
 have r2:Vals (vs++[]) (us++[]):=r.append .nil
 have hl:(us++[]).length=ps.length:=by rw [← r2.length,List.append_nil];exact F.len _ _ _ _ q
 rw [List.append_nil] at r2
 refine wpAny_call (codeAny_mono (F.run X.A X.stack s1 H1 ⟨us,[]⟩ (us++[]) vs Q _ hr I1.env0 (hb s1 us I1.kIn hl) r2 q) fun r s' hq=>?_)
 cases r with
 | error e =>
  obtain ⟨a,C,H',rfl,ho,hg',un,hok,⟨oe,vs',T0,e1,e2,e3,e4,e5,e6,e7,e8,e9⟩,c,ec,hE⟩:=hq
  cases ec
  have I2:Inv X pins σ H' s':=I1.call' (ch:=[]) ho un hok hg' fun b z=>absurd z (by simp)
  have nw:∀ b,s1.heap.get? b=none→X.s₀.heap.get? b=none:=fun b z=>by
   cases q:X.s₀.heap.get? b with
   | none=>rfl
   | some o =>
    obtain ⟨o',q1⟩:=I1.base.there b o q (by rw [hex];simp)
    rw [z] at q1;cases q1
  have np:∀ b,s1.heap.get? b=none→∀ p∈X.pn,p.1≠b:=fun b z p hp q=>by
   have:=(I1.pin p (List.mem_append_left _ hp)).1
   rw [q,z] at this;cases this
  exact hX _ _ ⟨a,C,σ,H',rfl,(I2.pins_of fun p hp=>absurd hp (by simp)).wish _,⟨oe,vs',T0,e1,e2,e3,e4,e5,e6,e7,⟨nw a e8.1,fun p hp=>np a e8.1 p hp⟩,fun T z=>⟨(e9 T z).1,nw T (e9 T z).2.1,fun p hp=>np T (e9 T z).2.1 p hp⟩⟩,hE⟩
 | ok fl =>
  cases fl with
  | ret u=>exact I1.after hq
  | next=>exact False.elim hq
  | brk=>exact False.elim hq
  | cont=>exact False.elim hq
end
end L2
namespace L2
open PySem PySem.Spec PyProof.Rows PySem.W
section
variable {X:Cx} {pins:List (Addr×Obj)} {σ:List (Option V)} {H H':Hp} {s:Shared} {h':Heap}
theorem Inv.step2 {t':Nat} {ch:List Addr} (I:Inv X pins σ H s)
  (hch:∀ b∈ch,X.s₀.heap.get? b=none∧b≠X.env.locals∧(∀ x c,X.env.cells.lookup x=some c→c≠b)∧∀ p∈X.pn++pins,p.1≠b)
  (keep:∀ b o,b≠X.env.locals→b∉X.fs→b∉ch→s.heap.get? b=some o→H b=none→h'.get? b=some o)
  (slot:∀ b o,b≠X.env.locals→b∈X.fs→b∉ch→s.heap.get? b=some o→H b=none→∃ sl,h'.get? b=some { o with slots:=sl }) (free:∀ b o,b∉ch→s.heap.get? b=some o→H b=none→H' b=none)
  (there:∀ b o,b∉ch→s.heap.get? b=some o→∃ o',h'.get? b=some o')
  (tups:∀ b xs,H b=some (.tup xs)→H' b=some (.tup xs)) (frzs:∀ b o u,H b=some (.frz o u)→H' b=some (.frz o u)) (tbls:∀ b ps,H b=some (.tbl ps)→∃ more,H' b=some (.tbl (ps++more)))
  (ns:∀ m,s.heap.Ns X.env.locals m→h'.Ns X.env.locals m) (hok:HOk X.prog X.w H' h') :
  Inv X pins σ H' { s with heap:=h',toks:=t' }:=by
 have neL:∀ b o,X.s₀.heap.get? b=some o→b≠X.env.locals:=fun b o e=>Nat.ne_of_lt (Nat.lt_of_lt_of_le (Heap.lt_size e) I.ok.above)
 have neC:∀ b o,X.s₀.heap.get? b=some o→b∉ch:=fun b o e hb=>by rw [(hch b hb).1] at e;cases e
 have cellK:∀ x c,X.env.cells.lookup x=some c→∀ v,s.heap.IsCell c v→h'.IsCell c v:=fun x c e v ⟨o,ho,hd⟩=>by
  have nch:c∉ch:=fun z=>(hch c z).2.2.1 x c e rfl
  by_cases hc:c∈X.fs
  ·obtain ⟨sl,q⟩:=slot c o (I.cne x c e) hc nch ho (I.freeC x c e)
   exact⟨_,q,hd⟩
  ·exact⟨o,keep c o (I.cne x c e) hc nch ho (I.freeC x c e),hd⟩
 refine⟨I.ok,I.os,I.bare,⟨fun b o e n hb hx=>?_,fun b o e n hb hx=>?_,fun b o e n hx=>?_,fun b o e hx=>?_,fun b xs e=>tups b xs (I.base.tups b xs e),fun b o xs e=>frzs b o xs (I.base.frzs b o xs e),fun b ps e=>?_⟩,?_,fun x c e=>?_,?_,fun x c e=>?_,fun p hp=>?_,hok,I.len⟩
 ·exact keep b o (neL b o e) hb (neC b o e) (I.base.keep b o e n hb hx) (I.base.free b o e n hx)
 ·obtain ⟨sl,e1⟩:=I.base.slot b o e n hb hx
  obtain ⟨sl',e2⟩:=slot b _ (neL b o e) hb (neC b o e) e1 (I.base.free b o e n hx)
  exact⟨sl',e2⟩
 ·obtain ⟨o',e1⟩:=I.base.there b o e hx
  exact free b o' (neC b o e) e1 (I.base.free b o e n hx)
 ·obtain ⟨o',e1⟩:=I.base.there b o e hx
  exact there b o' (neC b o e) e1
 ·obtain ⟨m1,e1⟩:=I.base.tbls b ps e
  obtain ⟨m2,e2⟩:=tbls b _ e1
  exact⟨m1++m2,by rw [e2,Array.append_assoc]⟩
 ·obtain ⟨m,hn,hl⟩:=I.loc
  refine⟨m,ns m hn,fun i x v e1 e2 e3=>?_⟩
  obtain ⟨u,r,l⟩:=hl i x v e1 e2 e3
  refine⟨u,r,?_⟩
  rcases l with l|⟨k,c,e,z⟩
  ·exact .inl l
  ·exact .inr ⟨k,c,e,cellK x c e _ z⟩
 ·obtain ⟨v,z⟩:=I.cell x c e
  exact⟨v,cellK x c e v z⟩
 ·obtain ⟨m,⟨o,_,_,ho,_⟩,_⟩:=I.loc
  exact free _ o (fun z=>(hch _ z).2.1 rfl) ho I.free
 ·obtain ⟨v,o,ho,hd⟩:=I.cell x c e
  exact free c o (fun z=>(hch c z).2.2.1 x c e rfl) ho (I.freeC x c e)
 ·obtain ⟨e,n,ne,nf,d⟩:=I.pin p hp
  have nch:p.1∉ch:=fun z=>(hch p.1 z).2.2.2 p hp rfl
  exact⟨keep p.1 p.2 ne nf nch e n,free p.1 p.2 nch e n,ne,nf,d⟩
theorem Inv.recd {a:Addr} {oe:Obj} {vs:Array Value} (I:Inv X pins σ H s) (he:s.heap.get? a=some oe) (hd:oe.data=.fields vs):a≠X.env.locals∧(∀ x c,X.env.cells.lookup x=some c→c≠a)∧a∉X.fs:=by
 refine⟨fun z=>?_,fun x c e z=>?_,fun z=>?_⟩
 ·obtain ⟨m,⟨o,_,_,ho,hdd,_⟩,_⟩:=I.loc
  rw [z,ho] at he;cases he;rw [hdd] at hd;cases hd
 ·obtain ⟨v,o,ho,hdd⟩:=I.cell x c e
  rw [z,he] at ho;cases ho;rw [hdd] at hd;cases hd
 ·obtain ⟨_,o,ho,hnf⟩:=I.funs.mem z
  rw [he] at ho;cases ho;exact hnf vs hd
end
theorem own_obj {K:Frag} {h:Heap} {C:Addr} {bmB:List Value} {newId:String} (X:K.In h) (q:excIn K C bmB newId=true) :
  ∃ bm N nm q bs hdct sn sub ab col dd k0 k1 k2 k3 k5 mN,h.get? C=some (excClassObj nm q C N bs bm hdct sn sub ab col dd k0 k1 k2 k3 k5 newId)∧h.Ns N mN∧mN "__init__"=none∧OwnTail h bmB bm:=by
 unfold excIn at q
 split at q
 ·rename_i dd cd sl ho
  split at q
  ·rename_i C' bm k0 k1 k2 k3 n k5 hm hs
   simp only [Bool.and_eq_true,beq_iff_eq,Bool.not_eq_true'] at q
   obtain ⟨⟨⟨⟨⟨rfl,rfl⟩,hdel⟩,ht⟩,hok⟩,hni⟩:=q
   obtain ⟨nm,bs,mro,ns,qn,hd,sn,sub,ab,col,del⟩:=cd
   dsimp only at hm hdel hok hni
   subst hm hdel
   have hsl:sl=#[k0,k1,k2,k3,some (.builtin n),k5]:=by
    obtain ⟨l⟩:=sl
    simp only at hs
    rw [hs]
   subst hsl
   exact⟨bm,ns,nm,qn,bs,hd,sn,sub,ab,col,dd,k0,k1,k2,k3,k5,_,X _ _ ho,.of_isNs (isNs_of_in X hok),nsMap_none_of_in X hok hni,tail_of_in X ht⟩
  ·cases q
 ·cases q
section
variable {X:Cx} {EX:EXT}
noncomputable def tRaise (EX:EXT) (C:Addr) (ta:TA):TS:=fun _ σ H=>ta σ H fun vs H1=>vs.length≤1000∧EX C σ H1
theorem ps_raise {x:Str} {np cpos pos:Pos} {e0:Expr} {rest:List Expr} {C:Addr} {B Bn newId nid initId inN:String} {bm bmN:List Value} {ta:TA} (q:excIn X.K C bm newId=true) (Fn:ExcBaseFacts Bn newId inN bmN) (hBn:bm.contains (.type Bn)=true)
  (FB:ExcBaseFacts B nid initId bm) (hc:X.calm=true) (hX:∀ e s',XW X EX e s'→X.xe e s') (hex:X.ex=[]) (hg:Gl X x) (hm:X.mg x=some (.ref C)) (ha:PA X (e0::rest) ta)
  (he:starEach (e0::rest) X.env=(false,eval e0 X.env)::starEach rest X.env:=by rfl) (hpl:(backTo cpos (starEach rest X.env)).any (·.1)=false:=by rfl) (hdb:(x == ("__debug__":Str))=false:=by decide) :
  PS X (.Raise (some (.Call (.Name x np) (e0::rest) [] cpos)) none pos) (tRaise EX C ta):=by
 intro pins s σ H D I h
 obtain ⟨bm',N,nm,qn,bs,hdct,sn,sub,ab,col,dd,k0,k1,k2,k3,k5,mN,hC,hN,hni,T⟩:=own_obj I.ok.mod.kin q
 refine wpAny_Raise_call_subU (C:=C) (nm:=nm) (q:=qn) (N:=N) (bs:=bs) (bm:=bm') (hdct:=hdct) (sn:=sn) (sub:=sub) (ab:=ab) (col:=col) (dd:=dd) (k0:=k0) (k1:=k1) (k2:=k2) (k3:=k3) (k5:=k5)
  Fn hBn FB (mN:=mN) (T.hasType FB.hasBase) (I.ok.hd hc) (by rw [he];show (false || (backTo cpos (starEach rest X.env)).any (·.1))=false;rw [hpl];rfl) hni (ld_glob I hg hm ⟨rfl,?_⟩ hdb)
 have hh:=ha cpos pins s σ H _ I h
 rw [he] at hh ⊢
 refine Calls.evalArgs_plain (wpAny_mono hh (fun us s2 z=>?_) fun _ _ y=>y)
 obtain ⟨vs,H1,I1,r,hl,hE⟩:=z
 refine⟨rfl,by rw [← r.length];exact Nat.le_of_lt (small1000 hl),I1.bk _ _ hC,hN.keeps I1.bk,T.keeps I1.bk,fun h' e hm'=>hX _ _ ?_⟩
 obtain ⟨t,het,htn,htt⟩:=hm'.there
 have nw:X.s₀.heap.get? e=none:=by
  cases q:X.s₀.heap.get? e with
  | none=>rfl
  | some o =>
   obtain ⟨o',q1⟩:=I1.base.there e o q (by rw [hex];simp)
   rw [hm'.new] at q1;cases q1
 have np:∀ p∈X.pn,p.1≠e:=fun p hp z=>by
  have:=(I1.pin p (List.mem_append_left _ hp)).1
  rw [z,hm'.new] at this;cases this
 exact⟨e,C,σ,H1,rfl,((I1.kept (t':=s2.toks) hm'.keeps).pins_of fun p hp=>absurd hp (by simp)).wish _,⟨_,_,none,het,rfl,rfl,rfl,by simp,rfl,I1.hok.free hm'.new,⟨nw,np⟩,fun T z=>nomatch z⟩,hE⟩
end
end L2
namespace L2
open PySem PySem.Spec PyProof.Rows PySem.W
structure HCls (K:Frag) (D:Addr):Prop where
 ty:typeIn K (.ref D)=some (.type "type")
 cl:(clsIn K D).isSome=true
 be:subIn K (.ref D) (.type "BaseException")=some true
theorem matches_own {K:Frag} {M:Model} {A:Around} {E:Value→Shared→Prop} {s:Shared} {a C D:Addr} {oe:Obj} {b:Bool} {Q:Bool→Shared→Prop} (V:HCls K D) (X:K.In s.heap) (he:s.heap.get? a=some oe) (hc:oe.cls=.ref C)
  (hsub:subIn K (.ref C) (.ref D)=some b) (h:Q b s):wpAny M A (excMatches (.ref a) (.ref D)) Q E s:=by
 obtain ⟨hh,g,d,t,os⟩:=s
 have L1:=looks_typeIn (M:=M) X V.ty
 have L2:Looks M hh (typeOf (.ref a)) (.ref C):=hc ▸ (Looks.ld he).andThen .now
 have L3:=looks_subIn (M:=M) X V.be
 have L4:=looks_subIn (M:=M) X hsub
 have L5:Looks M hh (isType (.ref D)) true:=by
  obtain ⟨cd,hcd⟩:=Option.isSome_iff_exists.mp V.cl
  unfold clsIn at hcd
  split at hcd
  ·rename_i c' d' cd' sl' ho
   intro A' Q' E' s' k q
   unfold isType loadHead
   exact wpAny_bind (wpAny_loadPart (k _ _ (X _ _ ho)) (wpAny_pure q))
  ·cases hcd
 have f:=tc_notTuple
 unfold excMatches isInstance isExcClass
 refine wpAny_bind ?_
 refine wpAny_bind (L1.at (wpAny_of_eq f ?_))
 simp only [Bool.false_eq_true,if_false]
 refine wpAny_bind (wpAny_pure ?_)
 simp only [List.forIn_cons,List.forIn_nil]
 refine wpAny_bind (wpAny_bind (wpAny_bind (wpAny_bind (L5.at ?_))))
 simp only [if_true]
 refine L3.at ?_
 simp only [Bool.not_true,Bool.false_eq_true,if_false]
 refine wpAny_pure (wpAny_pure ?_)
 refine wpAny_bind (L2.at ?_)
 refine wpAny_bind (wpAny_bind (wpAny_bind (L4.at ?_)))
 cases b with
 | true =>
  simp only [if_true]
  exact wpAny_pure (wpAny_pure (wpAny_pure h))
 | false =>
  simp only [Bool.false_eq_true,if_false]
  exact wpAny_pure (wpAny_pure (wpAny_pure h))
end L2
namespace L2
open PySem PySem.Spec PyProof.Rows PySem.W
noncomputable abbrev pnCx (X:Cx) (pins:List (Addr×Obj)):Cx:={ X with pn:=X.pn++pins }
noncomputable abbrev hdCx (X:Cx) (a:Addr):Cx:={ X with A:=X.A.mark (some (.ref a)),calm:=false,xe:=fun _ _=>False }
section
variable {X:Cx} {pins:List (Addr×Obj)} {σ:St} {H:Hp} {s:Shared}
theorem Inv.toPn (I:Inv X pins σ H s):Inv (pnCx X pins) [] σ H s :=
 ⟨⟨I.ok.mod,I.ok.kind,I.ok.glob,I.ok.blt,I.ok.above,I.ok.inj,I.ok.has,I.ok.cab,I.ok.hd,I.ok.frames,I.ok.stk,I.ok.exf,I.ok.bs,I.ok.bsz,I.ok.noex,I.ok.exfs,I.ok.funs,I.ok.frf⟩,I.os,I.bare,I.base,I.loc,I.cell,I.free,I.freeC,fun p hp=>I.pin p (by simpa using hp),I.hok,I.len⟩
theorem Inv.ofPn (I:Inv (pnCx X pins) [] σ H s):Inv X pins σ H s :=
 ⟨⟨I.ok.mod,I.ok.kind,I.ok.glob,I.ok.blt,I.ok.above,I.ok.inj,I.ok.has,I.ok.cab,I.ok.hd,I.ok.frames,I.ok.stk,I.ok.exf,I.ok.bs,I.ok.bsz,I.ok.noex,I.ok.exfs,I.ok.funs,I.ok.frf⟩,I.os,I.bare,I.base,I.loc,I.cell,I.free,I.freeC,fun p hp=>I.pin p (by simpa using hp),I.hok,I.len⟩
theorem Inv.toHd (I:Inv X pins σ H s) (a:Addr):Inv (hdCx X a) pins σ H s :=
 ⟨⟨I.ok.mod,I.ok.kind,I.ok.glob,I.ok.blt,I.ok.above,I.ok.inj,I.ok.has,I.ok.cab,(fun z=>nomatch z),I.ok.frames,I.ok.stk,I.ok.exf,I.ok.bs,I.ok.bsz,I.ok.noex,I.ok.exfs,I.ok.funs,I.ok.frf⟩,I.os,I.bare,I.base,I.loc,I.cell,I.free,I.freeC,I.pin,I.hok,I.len⟩
theorem Inv.ofHd {a:Addr} (hhd:X.calm=true→X.A.handled=none) (I:Inv (hdCx X a) pins σ H s):Inv X pins σ H s :=
 ⟨⟨I.ok.mod,I.ok.kind,I.ok.glob,I.ok.blt,I.ok.above,I.ok.inj,I.ok.has,I.ok.cab,hhd,I.ok.frames,I.ok.stk,I.ok.exf,I.ok.bs,I.ok.bsz,I.ok.noex,I.ok.exfs,I.ok.funs,I.ok.frf⟩,I.os,I.bare,I.base,I.loc,I.cell,I.free,I.freeC,I.pin,I.hok,I.len⟩
theorem Inv.track {a C:Addr} {oe:Obj} {vs:Array Value} {t':Nat} (I:Inv X pins σ H s) (he:s.heap.get? a=some oe) (hc:oe.cls=.ref C) (hdi:oe.dict=none) (hd:oe.data=.fields vs) (hH:H a=none) (h0:X.s₀.heap.get? a=none) (hp:∀ p∈X.pn++pins,p.1≠a) :
  Inv X pins σ (upd H a (ExcO a C)) { s with toks:=t' }:=by
 obtain ⟨n1,n2,n3⟩:=I.recd he hd
 have ins:PySem.W.InstAt s.heap a oe C none:=⟨he,hc,by unfold notCls;rw [hd],by rw [hdi];trivial⟩
 refine I.step2 (h':=s.heap) (ch:=[a]) (fun b hb=>?_) (fun b o _ _ _ e _=>e) (fun b o _ _ _ e _=>⟨o.slots,e⟩) (fun b o hb e n=>?_) (fun b o _ e=>⟨o,e⟩) (fun b xs e=>?_) (fun b o u e=>?_) (fun b ps e=>⟨#[],?_⟩) (fun m hm=>hm) ?_
 ·obtain rfl:b=a:=by simpa using hb
  exact⟨h0,n1,n2,hp⟩
 ·rw [upd_ne (by simpa using hb)];exact n
 ·rw [upd_ne (ne_of_none e hH)];exact e
 ·rw [upd_ne (ne_of_none e hH)];exact e
 ·rw [upd_ne (ne_of_none e hH)];simpa using e
 ·intro b o e
  by_cases hb:b=a
  ·subst hb
   rw [upd_same] at e
   cases e
   refine⟨⟨oe,ins⟩,⟨oe,he⟩,fun h1 h2 z k=>?_⟩
   obtain ⟨ox,z1,z2,z3,z4⟩:=z
   refine⟨ox,k _ z1,z2,z3,?_⟩
   cases q:ox.dict with
   | none=>trivial
   | some dx=>rw [q] at z4;exact z4.elim
  ·rw [upd_ne hb] at e
   exact (I.hok b o e).stay (fun _ _ _ q=>q) (fun c q=>by rw [upd_ne (ne_of_none q hH)];exact q) fun c xs q=>by rw [upd_ne (ne_of_none q hH)];exact q
theorem Inv.goes {i:Nat} {x:Str} {h':Heap} {m:Str→Option Value} {v:Option Value} {t':Nat} (I:Inv X pins σ H s) (hN:X.N.Nodup) (hi:X.N[i]?=some x) (hm:s.heap.Ns X.env.locals m) (hn':h'.Ns X.env.locals (fun y=>if y=x then v else m y)) (hs:Heap.SameBut X.env.locals s.heap h') :
  Inv X pins (σ.set i none) H { s with heap:=h',toks:=t' }:=by
 obtain ⟨m2,hn,hl⟩:=id I.loc
 obtain ⟨oL,es,ep,hoL,rL⟩:=id hn
 have em:m2=m:=by
  obtain ⟨o1,es1,ep1,ho1,hd1,_,hf1⟩:=hn
  obtain ⟨o2,es2,ep2,ho2,hd2,_,hf2⟩:=hm
  rw [ho1] at ho2;cases ho2;rw [hd1] at hd2;cases hd2
  funext y
  rw [← hf1,← hf2]
 subst em
 have hiσ:i<σ.length:=by rw [I.len];exact (List.getElem?_eq_some_iff.mp hi).1
 have cne:=I.cne
 refine⟨I.ok,I.os,I.bare,⟨fun b o e n hb hx=>?_,fun b o e n hb hx=>?_,I.base.free,fun b o e hx=>?_,I.base.tups,I.base.frzs,I.base.tbls⟩,⟨_,hn',fun j y v' e1 e2 e3=>?_⟩,fun y c e=>?_,I.free,I.freeC,fun p hp=>?_,?_,by simpa using I.len⟩
 ·exact (hs.2 b (Nat.ne_of_lt (Nat.lt_of_lt_of_le (Heap.lt_size e) I.ok.above))).trans (I.base.keep b o e n hb hx)
 ·obtain ⟨sl,e1⟩:=I.base.slot b o e n hb hx
  exact⟨sl,(hs.2 b (Nat.ne_of_lt (Nat.lt_of_lt_of_le (Heap.lt_size e) I.ok.above))).trans e1⟩
 ·obtain ⟨o',e1⟩:=I.base.there b o e hx
  exact⟨o',(hs.2 b (Nat.ne_of_lt (Nat.lt_of_lt_of_le (Heap.lt_size e) I.ok.above))).trans e1⟩
 ·by_cases hj:j=i
  ·subst hj
   rw [List.getElem?_set_self hiσ] at e2
   cases e2
  ·rw [List.getElem?_set_ne (Ne.symm hj)] at e2
   obtain ⟨u',r',q⟩:=hl j y v' e1 e2 e3
   refine⟨u',r',?_⟩
   rcases q with ⟨k,e⟩|⟨k,c,e,z⟩
   ·refine .inl ⟨k,?_⟩
    have:y≠x:=fun e=>hj (nodup_ix hN e1 (e ▸ hi))
    simp [this,e]
   ·exact .inr ⟨k,c,e,z.sameBut hs (cne y c e)⟩
 ·obtain ⟨w',z⟩:=I.cell y c e
  exact⟨w',z.sameBut hs (cne y c e)⟩
 ·obtain ⟨e,n,ne,nf,d⟩:=I.pin p hp
  exact⟨(hs.2 p.1 ne).trans e,n,ne,nf,d⟩
 ·intro b ob e
  refine (I.hok b ob e).stay (fun c w' hc q=>(hs.2 c ?_).trans q) (fun _ q=>q) fun _ _ q=>q
  rintro rfl
  rcases hc with rfl|hc
  ·rw [I.free] at e;cases e
  ·rw [I.free] at hc;cases hc
end
noncomputable def tTry (K:Frag) (D0:Addr) (i:Nat) (tb:EXT→TS) (th:TS):TS:=fun D σ H =>
 tb (fun C σ' H'=>subIn K (.ref C) (.ref D0)=some true∧∀ a,H' a=none→th { nx:=fun σ2 H2=>D.nx (σ2.set i none) H2,rt:=D.rt,bk:=fun σ2 H2=>D.bk (σ2.set i none) H2,ct:=fun σ2 H2=>D.ct (σ2.set i none) H2 } (σ'.set i (some (.ref a))) (upd H' a (ExcO a C))) D σ H
theorem ps_try {X:Cx} {body:List Stmt} {x n:Str} {np hpos pos:Pos} {b0:Stmt} {suite:List Stmt} {i:Nat} {D0:Addr} {tb:EXT→TS} {th:TS} (V:HCls X.K D0) (hex:X.ex=[])
  (hst:X.stack=X.env::X.outer) (hfr:X.env.frame=some X.env.locals) (hN:X.N.Nodup) (hi:X.N[i]?=some n) (hloc:X.env.scope.names.lookup n=some .local) (hg:Gl X x) (hm:X.mg x=some (.ref D0))
  (hb:∀ pins EX,PSs ((pnCx X pins).wish (XW (pnCx X pins) EX)) body (tb EX)) (hs:∀ a,PSs (hdCx X a) (b0::suite) th) (hdb:(x == ("__debug__":Str))=false:=by decide) :
  PS X (.Try body [.ExceptHandler (some (.Name x np)) (some n) (b0::suite) hpos] [] [] pos) (tTry X.K D0 i tb th):=by
 intro pins s σ H D I h
 have back:∀ {f:Flow} {s':Shared} {E:Value→Shared→Prop},SP ((pnCx X pins).wish E) [] D f s'→SP X pins D f s':=fun {f s' E} q=>by
  cases f with
  | next=>obtain ⟨σ',H',J,z⟩:=q;exact⟨σ',H',(Inv.unwish J).ofPn,z⟩
  | brk=>obtain ⟨σ',H',J,z⟩:=q;exact⟨σ',H',(Inv.unwish J).ofPn,z⟩
  | cont=>obtain ⟨σ',H',J,z⟩:=q;exact⟨σ',H',(Inv.unwish J).ofPn,z⟩
  | ret u=>obtain ⟨v,σ',H',J,r,z⟩:=q;exact⟨v,σ',H',(Inv.unwish J).ofPn,r,z⟩
 refine wpAny_Try_except (wpAny_mono (hb pins _ [] s σ H D (I.toPn.wish _) h) (fun f s1 q=>?_) (fun e s1 q=>?_))
 ·cases f with
  | next=>exact wpAny_execs_nil (back q)
  | brk=>exact back q
  | cont=>exact back q
  | ret u=>exact back q
 obtain ⟨a,C,σ',H',rfl,I0,⟨oe,vs,T0,he,hc,hdi,hd,hsz,hh,hHa,⟨h0a,hpa⟩,hT⟩,hsub,hth⟩:=q
 have I1:Inv X pins σ' H' s1:=(Inv.unwish I0).ofPn
 have h0a':X.s₀.heap.get? a=none:=h0a
 have hpa':∀ p∈X.pn++pins,p.1≠a:=hpa
 have hT':∀ T,T0=some T→H' T=none∧X.s₀.heap.get? T=none∧∀ p∈X.pn++pins,p.1≠T:=hT
 have fr1:X.A.frames=some (X.env::X.outer):=by rw [← hst];exact I1.ok.frames
 refine note_core (base:=X.base) (L:=X.env.locals) fr1 (hst ▸ I1.stack) hfr he hd hh fun h1 T k1 k2 k3 k4 k5 k6=>?_
 obtain ⟨n1,n2,n3⟩:=I1.recd he hd
 have t1:∀ T',T0=some T'→∃ oT ts,s1.heap.get? T'=some oT∧oT.data=.fields ts:=fun T' z=>by
  subst z
  obtain ⟨_,_,oT,ts,q1,q2,_⟩:=hh
  exact⟨oT,ts,q1,q2⟩
 have fsub:∀ b,b∈frs (X.env::X.outer)→b=X.env.locals∨b∈X.fs:=fun b hb=>by
  rcases List.mem_cons.mp (I1.stkSub b (hst ▸ hb)) with z|z
  ·exact .inl z
  ·exact .inr z
 have off:Off (a::(T0.toList++frs (X.env::X.outer))) s1.heap h1:=fun b o hb q=>by
  simp only [List.mem_cons,List.mem_append,not_or] at hb
  exact k1 b o hb.1 (fun z=>hb.2.1 (by rw [← z];simp)) hb.2.2 q
 have hok1:HOk X.prog X.w H' h1:=I1.hok.off (fun b hb=>by
  simp only [List.mem_cons,List.mem_append] at hb
  rcases hb with rfl|hb|hb
  ·exact hHa
  ·cases T0 with
   | none=>simp at hb
   | some T1 =>
    simp only [Option.toList_some,List.mem_singleton] at hb
    rw [hb];exact (hT' T1 rfl).1
  ·exact I1.stkFree b (hst ▸ hb)) off
 have nT0:∀ b,b∉(a::T0.toList)→b≠a∧some b≠T0:=fun b hb=>by
  simp only [List.mem_cons,not_or] at hb
  exact⟨hb.1,fun z=>hb.2 (by rw [← z];simp)⟩
 have I2:Inv X pins σ' H' { s1 with heap:=h1 }:=by
  refine I1.step2 (h':=h1) (t':=s1.toks) (ch:=a::T0.toList) (fun b hb=>?_) (fun b o b1 b2 b3 e _=>?_) (fun b o b1 b2 b3 e _=>?_) (fun b o _ _ n=>n) (fun b o b3 e=>?_) (fun b xs e=>e) (fun b o u e=>e) (fun b ps e=>⟨#[],by rw [e];simp⟩) (fun m hm=>?_) hok1
  ·rcases List.mem_cons.mp hb with rfl|hb
   ·exact⟨h0a',n1,n2,hpa'⟩
   ·cases T0 with
    | none=>simp at hb
    | some T1 =>
     simp only [Option.toList_some,List.mem_singleton] at hb
     subst hb
     obtain ⟨oT,ts,q1,q2⟩:=t1 _ rfl
     obtain ⟨m1,m2,m3⟩:=I1.recd q1 q2
     exact⟨(hT' _ rfl).2.1,m1,m2,(hT' _ rfl).2.2⟩
  ·refine k1 b o (nT0 b b3).1 (nT0 b b3).2 (fun z=>?_) e
   rcases fsub b z with q|q
   ·exact b1 q
   ·exact b2 q
  ·exact k2 b o (nT0 b b3).1 (nT0 b b3).2 e
  ·obtain ⟨sl,q⟩:=k2 b o (nT0 b b3).1 (nT0 b b3).2 e
   exact⟨_,q⟩
  ·obtain ⟨o,es,ep,ho,hd',r⟩:=hm
   obtain ⟨sl,q⟩:=k2 _ o (fun z=>n1 z.symm) (fun z=>by
    obtain ⟨oT,ts,q1,q2⟩:=t1 _ z.symm
    exact (I1.recd q1 q2).1 rfl) ho
   exact⟨_,es,ep,q,hd',r⟩
 have T2:H' T=none:=I1.hok.free k3
 have T3:X.s₀.heap.get? T=none:=by
  cases q:X.s₀.heap.get? T with
  | none=>rfl
  | some o =>
   obtain ⟨o',q1⟩:=I1.base.there T o q (by rw [hex];simp)
   rw [k3] at q1;cases q1
 have T4:∀ p∈X.pn++pins,p.1≠T:=fun p hp z=>by
  have:=(I1.pin p hp).1
  rw [z,k3] at this;cases this
 refine wpAny_handleBy_cons (codeAny_handlers_test (ld_glob (X:=hdCx X a) (I2.toHd a) hg hm ?_ hdb)) (by intro z;cases z)
 refine matches_own V I2.kIn k5 ((Obj.cls_mapFields _ _).trans hc) hsub ?_
 refine codeAny_handlers_suite_as (flight_again k5 (Obj.data_mapFields hd _) ⟨by simp [hsz],k4,k6⟩ fun h2 f1 f2=>?_)
 have I3:Inv X pins σ' H' { s1 with heap:=h2 }:=by
  obtain ⟨oT,ts,q1,q2,q3⟩:=k6
  obtain ⟨m1,m2,m3⟩:=I2.recd (a:=T) q1 q2
  have hok2:HOk X.prog X.w H' h2:=I2.hok.off (ch:=[T]) (fun b hb=>by rw [show b=T by simpa using hb];exact T2) fun b o hb q=>f1 b o (by simpa using hb) q
  refine Inv.step2 (s:={ s1 with heap:=h1 }) (h':=h2) (t':=s1.toks) (ch:=[T]) I2 (fun b hb=>?_) (fun b o b1 b2 b3 e _=>f1 b o (by simpa using b3) e) (fun b o b1 b2 b3 e _=>⟨o.slots,f1 b o (by simpa using b3) e⟩) (fun b o _ _ n=>n) (fun b o b3 e=>⟨o,f1 b o (by simpa using b3) e⟩) (fun b xs e=>e) (fun b o u e=>e) (fun b ps e=>⟨#[],by rw [e];simp⟩) (fun m hm=>?_) hok2
  ·obtain rfl:b=T:=by simpa using hb
   exact⟨T3,m1,m2,T4⟩
  ·obtain ⟨o,es,ep,ho,hd',r⟩:=hm
   exact⟨o,es,ep,f1 _ o (fun z=>m1 z.symm) ho,hd',r⟩
 have I4:Inv X pins σ' (upd H' a (ExcO a C)) { s1 with heap:=h2 }:=I3.track (t':=s1.toks) (f1 a _ (Ne.symm k4) k5) ((Obj.cls_mapFields _ _).trans hc) ((mapFields_dict _ _).trans hdi) (Obj.data_mapFields hd _) hHa h0a' hpa'
 refine store_ok (X:=hdCx X a) (v:=.ref a) (I4.toHd a) hN hi (Or.inl hloc) rfl (fun s5 I6=>?_) (Or.inr hloc)
 refine wpAny_mono (hs a pins s5 _ _ _ I6 (hth a hHa)) (fun f s6 q=>?_) (fun _ _ z=>z.elim)
 have hcls:(X.env.scope.kind == .class || (X.env.scope.kind == .module && X.env.locals != X.env.globals))=false:=by rw [I1.ok.kind];rfl
 cases f with
 | next =>
  obtain ⟨σ2,H2,J,z⟩:=q
  have J':=J.ofHd I1.ok.hd
  obtain ⟨m,hm',_⟩:=id J'.loc
  exact wpAny_nameGoes_keeps hloc hm' hcls fun h' v hn hss=>⟨_,H2,J'.goes hN hi hm' hn hss,z⟩
 | brk =>
  obtain ⟨σ2,H2,J,z⟩:=q
  have J':=J.ofHd I1.ok.hd
  obtain ⟨m,hm',_⟩:=id J'.loc
  exact wpAny_nameGoes_keeps hloc hm' hcls fun h' v hn hss=>⟨_,H2,J'.goes hN hi hm' hn hss,z⟩
 | cont =>
  obtain ⟨σ2,H2,J,z⟩:=q
  have J':=J.ofHd I1.ok.hd
  obtain ⟨m,hm',_⟩:=id J'.loc
  exact wpAny_nameGoes_keeps hloc hm' hcls fun h' v hn hss=>⟨_,H2,J'.goes hN hi hm' hn hss,z⟩
 | ret u =>
  obtain ⟨v0,σ2,H2,J,r,z⟩:=q
  have J':=J.ofHd I1.ok.hd
  obtain ⟨m,hm',_⟩:=id J'.loc
  exact wpAny_nameGoes_keeps hloc hm' hcls fun h' v hn hss=>⟨v0,_,H2,J'.goes hN hi hm' hn hss,r,z⟩
end L2
namespace L2
open PySem PySem.Spec PyProof.Rows PySem.W
noncomputable def rIsX (K:Frag):List V→Hp→VK→Prop:=fun xs H Q=>∃ a C c b,xs=[.ref a,c]∧H a=some (ExcO a C)∧XCls K C ∧
 ((∃ n,c=.ty n∧kitOne K (.ref C) (.type n)=some b)∨(∃ D,c=.ref D∧kitOne K (.ref C) (.ref D)=some b)∨∃ (tp:Addr) (Ds:List Addr),c=.ref tp∧SqT K H tp (Ds.map V.ref)∧kitAny K (.ref C) (Ds.map Value.ref)=some b)∧Q (.bl b) H
theorem vals_refs:∀ {Ds:List Addr} {us:List Value},Vals (Ds.map V.ref) us→us=Ds.map Value.ref
 | [],_,.nil=>rfl
 | _::_,_,.cons r t=>by
  have e:=vals_refs t
  cases r
  rw [e];rfl
section
variable {X:Cx}
theorem call_isX:CallR X (.builtin "isinstance") (rIsX X.K):=by
 intro pins s σ H xs us Q I r h
 obtain ⟨a,C,c,b,rfl,hH,V,ty,q⟩:=h
 obtain ⟨u,c',rfl,ru,rc⟩:=vals2 r
 obtain rfl:u=Value.ref a:=ru
 have fin:∀ tk,EP X pins σ Q (.bool b) { s with toks:=tk }:=fun tk=>⟨.bl b,H,I.tok tk,rfl,q⟩
 obtain ⟨hx,_⟩:=I.hok a _ hH
 rcases ty with ⟨n,rfl,e⟩|⟨D,rfl,e⟩|⟨tp,Ds,rfl,hs,e⟩
 ·obtain rfl:c'=Value.type n:=rc
  exact kia_one (kitx_exc V) I.kIn hx e (fun z=>nomatch z) fin
 ·obtain rfl:c'=Value.ref D:=rc
  exact kia_one (kitx_exc V) I.kIn hx e (fun z=>nomatch z) fin
 ·obtain rfl:c'=Value.ref tp:=rc
  obtain ⟨its,rv,p,_⟩:=I.tuple hs
  obtain ⟨⟨oc,od,da,sl⟩,h1,h2,n,h3⟩:=p
  dsimp only at h2 h3
  subst h2 h3
  rw [vals_refs rv] at h1
  exact kia_tup (kitx_exc V) I.kIn hx h1 e (fun z=>nomatch z) fin
theorem kN_isx (K:Frag) (hK:X.K=K):CallR X (.builtin "isinstance") (rIsX K):=hK ▸ call_isX
variable {K:Frag} {H:Hp} {Q:VK}
theorem r_isxT {a C:Addr} {n:String} {b:Bool} (W:XCls K C) (e:H a=some (ExcO a C)) (k:kitOne K (.ref C) (.type n)=some b) (h:Q (.bl b) H):rIsX K [.ref a,.ty n] H Q:=⟨a,C,_,b,rfl,e,W,.inl ⟨n,rfl,k⟩,h⟩
theorem r_isxR {a C D:Addr} {b:Bool} (W:XCls K C) (e:H a=some (ExcO a C)) (k:kitOne K (.ref C) (.ref D)=some b) (h:Q (.bl b) H):rIsX K [.ref a,.ref D] H Q:=⟨a,C,_,b,rfl,e,W,.inr (.inl ⟨D,rfl,k⟩),h⟩
end
section
variable {K:Frag} {D:Ends} {σ:St} {H:Hp} {Q:VK} {EX:EXT}
theorem r_callX {sp:Sp} {ts:TA} (h:ts σ H fun vs H1=>sp vs H1 Q fun C _ H2=>∃ c,C=.ref c∧EX c σ H2):tCallX sp EX ts σ H Q:=h
theorem r_raise {C:Addr} {ts:TA} (h:ts σ H fun vs H1=>vs.length≤1000∧EX C σ H1):tRaise EX C ts D σ H:=h
theorem r_try {D0:Addr} {i:Nat} {tb:EXT→TS} {th:TS} (h:tb (fun C σ' H'=>subIn K (.ref C) (.ref D0)=some true∧∀ a,H' a=none→th { nx:=fun σ2 H2=>D.nx (σ2.set i none) H2,rt:=D.rt,bk:=fun σ2 H2=>D.bk (σ2.set i none) H2,ct:=fun σ2 H2=>D.ct (σ2.set i none) H2 } (σ'.set i (some (.ref a))) (upd H' a (ExcO a C))) D σ H):tTry K D0 i tb th D σ H:=h
end
end L2
namespace L2
open PySem PySem.Spec PyProof.Rows PySem.W
section
variable {K:Frag} {C D:Addr} {cd:ClassData}
theorem XCls.mk' (q1:findIn K (.ref C) "__getattribute__"=some (some (.builtin "BaseException.__getattribute__"))) (q2:findIn K (.ref C) "__getattr__"=some none) (q3:clsIn K C=some cd)
  (q4:findIn K (.ref C) "__class__"=some (some (.builtin "object.__class__"))) (q5:specialIn K (.builtin "object.__class__") "__get__"=some (some (.builtin "getset_descriptor.__get__"))) (q6:takesIn K (.builtin "object.__class__")=some true)
  (q7:mroIn K C (.type "object")=some true) (q8:subIn K (.ref C) (.type "BaseException")=some true):XCls K C :=
 ⟨q1,q2,by unfold findObj;rw [q3,Option.bind_some,q4,Option.bind_some];simp [q5,q6],q7,q8,by rw [q3];rfl⟩
theorem HCls.mk' (q1:typeIn K (.ref D)=some (.type "type")) (q2:clsIn K D=some cd) (q3:subIn K (.ref D) (.type "BaseException")=some true):HCls K D:=⟨q1,by rw [q2];rfl,q3⟩
theorem kit_neg (V:HCls K D) (n:C≠D) (h:subIn K (.ref C) (.ref D)=some false):kitOne K (.ref C) (.ref D)=some false:=by
 unfold kitOne
 rw [if_neg (fun z=>n (Value.ref.inj (beq_iff_eq.mp z)))]
 show (if ((clsIn K D).isSome && typeIn K (.ref D) == some (.type "type"))=true then subIn K (.ref C) (.ref D) else none)=_
 rw [V.ty,V.cl]
 simp only [beq_self_eq_true,Bool.and_self,if_true]
 exact h
theorem kit_ty {n:String} {b:Bool} (m:kitMeta n=true) (h:subIn K (.ref C) (.type n)=some b):kitOne K (.ref C) (.type n)=some b:=by
 unfold kitOne
 rw [if_neg (fun z=>by cases beq_iff_eq.mp z)]
 show (if kitMeta n=true then subIn K (.ref C) (.type n) else none)=_
 rw [if_pos m]
 exact h
theorem meta_ValueError:kitMeta "ValueError"=true:=by decide +kernel
end
end L2
namespace L2
open PySem PySem.Spec PyProof.Rows
section
variable {X:Cx}
theorem ps_setC {y:Str} {py spos:Pos} {k:Nat} {tg iter elt:Expr} {ifs:List Expr} {scope:Scope} {pos:Pos} {N:List Str} {ix:List (Option Nat)} {wi:TI} {g:TG} {tt:TT} {te:TE}
  (hN:X.N.Nodup) (hk0:X.N[k]?=some y) (hy:Loc X.env.scope y) (hc:X.calm=true) (hi:PI X tg iter wi)
  (hg:∀ pins C s H fp,PG (compCx X pins N scope C s H fp) tg g)
  (ht:∀ pins C s H fp,PTs (compCx X pins N scope C s H fp) ifs tt)
  (he:∀ pins C s H fp,PE (compCx X pins N scope C s H fp) elt te)
  (hk:scope.kind=.function) (hcell:∀ y∈scope.names,y.2≠.cell) (hnames:∀ y∈scope.names,y.2=.local→scope.names.lookup y.1=some .local)
  (hfr0:(scope.names.all fun y=>!(y.2 == NameKind.free) || (X.env.cells.lookup y.1).isSome)=true) (hix:IxOk X scope N ix)
  (hs:∀ x,foldedSetIterable iter X.env x=pure x:=by intro _;rfl)
  (hsw:swapsWith (.ListComp elt [⟨tg,iter,ifs,0⟩] scope pos) (some (.Name y py)) spos.line X.env=pure true:=by rfl)
  (hf:X.fn y=true∨X.env.scope.names.lookup y=some .local:=by first|exact .inl rfl|exact .inr rfl|assumption) :
  PS X (.Assign [.Name y py] (.ListComp elt [⟨tg,iter,ifs,0⟩] scope pos) spos) (tAsg (tComp ix wi g tt te) (gName k)):=by
 intro pins s σ H D I h
 replace h:wi σ H fun J H1=>CompGoal ix g tt te σ (fun x H1=>D.nx (σ.set k (some x)) H1) J H1:=h
 have hfr:∀ y∈scope.names,y.2=.free→(X.env.cells.lookup y.1).isSome=true:=fun y hy e=>by
  have z:=List.all_eq_true.mp hfr0 y hy
  rw [e] at z
  simpa using z
 have hfr':∀ p∈scope.names,p.2=.free→∃ c,X.env.cells.lookup p.1=some c:=fun p hp e=>Option.isSome_iff_exists.mp (hfr p hp e)
 have clsub:∀ x c,(clOf X.env.cells scope.names []).lookup x=some c→X.env.cells.lookup x=some c:=clOf_sub (fun x c q=>by simp at q)
 have clhas:∀ x,scope.names.lookup x=some .free→∃ c,(clOf X.env.cells scope.names []).lookup x=some c:=fun x hx=>by
  have hm:=PySem.mem_of_lookup hx
  exact Option.isSome_iff_exists.mp (clOf_has (.inr ⟨hm,hfr _ hm rfl⟩))
 rw [exec_Assign_Name_used _ _ _ _ hsw]
 refine wpAny_bind (wpAny_standAt (wpAny_bind ?_))
 show wpAny _ X.A (do let _ ← comprehension (.ListComp elt [⟨tg,iter,ifs,0⟩] scope pos) scope X.env _ (newList []) false (eval iter X.env) (some (assign (.Name y py) X.env))) _ _ s
 refine wpAny_bind (wpAny_mono (wpAny_comprehension_free (use:=some (assign (.Name y py) X.env)) (Q:=fun _ s'=>SP X pins D .next s') rfl hs (closure_eq hfr') hk hnames (thn (hi pins s σ H _ I h) fun v s1 h1=>thn h1 fun itv s2 h2=>?_)) (fun _ s' hq=>wpAny_pure (wpAny_pure hq)) fun _ _ e=>e)
 obtain ⟨it,fp,tn,J,H2,e,I2,T,st2,f2,hW⟩:=h2
 subst e
 have hfree2:H2 s2.heap.objs.size=none:=I2.hok.fresh (Nat.le_refl _)
 obtain ⟨W,⟨m0,w0⟩,turn⟩:=hW s2.heap.objs.size hfree2
 refine wpAny_newObj_type ?_
 have I3:Inv X pins σ (upd H2 s2.heap.objs.size (.lst [])) { s2 with heap:=s2.heap.push { cls:=.type "list",data:=.seq ([]:List Value).toArray } }:=I2.lnew (its:=[]) (t':=s2.toks) .nil (Nat.zero_le _)
 have f3:∀ b∈fp,FpOk X pins (upd H2 s2.heap.objs.size (.lst [])) b:=fun b hb=>by
  refine⟨?_,(f2 b hb).2⟩
  obtain ⟨o,eo,_⟩:=T.obj _ _ st2 b hb
  rw [upd_ne (Nat.ne_of_lt (Heap.lt_size eo))]
  exact (f2 b hb).1
 have st3:tn 0 (s2.heap.push { cls:=.type "list",data:=.seq ([]:List Value).toArray }):=T.keep _ _ _ st2 fun b _ o e=>Heap.get?_push_of_some _ e
 generalize hs3:({ s2 with heap:=s2.heap.push { cls:=.type "list",data:=.seq ([]:List Value).toArray } }:Shared)=s3 at I3
 have st3:tn 0 s3.heap:=by rw [← hs3];exact st3
 generalize hH3:upd H2 s2.heap.objs.size (.lst [])=H3 at I3 f3 w0
 generalize hacc:s2.heap.objs.size=acc at *
 refine wpAny_newFunctionEnv hcell (by intro y hy;simp at hy) (fun h₁ hns₁ hsb₁=>?_) hk
 have old:∀ b o,s3.heap.get? b=some o→h₁.get? b=some o:=fun b o q=>hsb₁.extBut b o (Nat.ne_of_lt (Heap.lt_size q)) (Heap.get?_push_of_some _ q)
 have hCfree:H3 s3.heap.objs.size=none:=I3.hok.fresh (Nat.le_refl _)
 have fpl:∀ b∈fp,b<s3.heap.objs.size:=fun b hb=>by
  obtain ⟨o,eo,_⟩:=T.obj _ _ st3 b hb
  exact Heap.lt_size eo
 have nstk:∀ b,b≠X.env.locals→b∉X.fs→b∉frs X.stack:=fun b h1 h2 z=>by
  rcases List.mem_cons.mp (I3.stkSub b z) with q|q
  ·exact h1 q
  ·exact h2 q
 have clt:∀ x c,X.env.cells.lookup x=some c→c<s3.heap.objs.size:=fun x c q=>by
  obtain ⟨v,z⟩:=I3.cell x c q
  exact z.lt
 have YI:∀ (h':Heap) (m:Str→Option Value),(∀ b o,s3.heap.get? b=some o→h'.get? b=some o)→h'.Ns s3.heap.objs.size m →
   Inv (compCx X pins N scope s3.heap.objs.size s3 H3 fp) [] (pick ix σ) H3 { s3 with heap:=h',toks:=s3.toks+([]:List (Str×Value)).length }:=by
  intro h' m hk' hn
  refine⟨⟨I3.ok.mod,hk,I3.ok.glob,I3.ok.blt,Nat.le_refl _,fun x y c q1 q2=>I3.ok.inj x y c (clsub x c q1) (clsub y c q2),fun x hx=>clhas x (relabel_not_local hcell hx),fun x c hf _=>absurd hf Bool.false_ne_true,
   I3.ok.hd,I3.ok.frames,.inl rfl,fun b hb=>⟨Nat.ne_of_lt (fpl b hb),fun x c q=>(f3 b hb).2.2.2.2.1 x c (clsub x c q)⟩,I3.bs,Nat.le_trans I3.ok.bsz I3.sz,fun b o e hb=>?_,fun b hb=>nstk b (f3 b hb).2.1 (f3 b hb).2.2.1,I3.stack,I3.stkFree⟩,
   rfl,I3.bare,Un.kept hk',⟨m,hn,fun i x v h1 h2 h3=>?_⟩,fun x c q=>?_,hCfree,fun x c q=>I3.freeC x c (clsub x c q),fun p hp=>?_,I3.hok.kept hk',?_⟩
  ·have q:=(I3.bs b o e).2
   rcases (f3 b hb).2.2.2.1 with z|z
   ·exact I3.ok.noex b o e z
   ·exact absurd (Nat.lt_of_lt_of_le (Heap.lt_size e) (Nat.le_trans I3.ok.bsz z)) (Nat.lt_irrefl _)
  ·obtain ⟨j,e1,e2⟩:=pick_get h2
   obtain ⟨a1,a2,a3,a4⟩:=hix.get h1 e1
   obtain ⟨mX,hnX,hlX⟩:=I3.loc
   obtain ⟨u,ru,l⟩:=hlX j x v a1 e2 a2
   refine⟨u,ru,?_⟩
   rcases l with ⟨l1,_⟩|⟨_,c,lc,z⟩
   ·have l1':X.env.scope.names.lookup x=some .local:=l1
    rw [l1'] at a3
    exact absurd a3 (by decide)
   ·obtain ⟨c',hc'⟩:=clhas x a4
    have ec:=clsub x c' hc'
    rw [lc] at ec
    have ec':c=c':=Option.some.inj ec
    subst ec'
    exact .inr ⟨relabel_free a4,c,hc',z.keeps hk'⟩
  ·obtain ⟨v,z⟩:=I3.cell x c (clsub x c q)
   exact⟨v,z.keeps hk'⟩
  ·have hp':p∈X.pn++pins:=by simpa using hp
   obtain ⟨a1,a2,a3,a4,a5⟩:=I3.pin p hp'
   exact⟨hk' _ _ a1,a2,Nat.ne_of_lt (Heap.lt_size a1),nstk p.1 a3 a4,a5⟩
  ·show (pick ix σ).length=N.length
   unfold pick
   rw [List.length_map]
   exact hix.len
 have fpY:∀ {pl:List (Addr×Obj)} {H':Hp},pl=[]→(∀ b∈fp,H' b=none)→∀ b∈fp,FpOk (compCx X pins N scope s3.heap.objs.size s3 H3 fp) pl H' b:=fun {pl H'} epl hn b hb=>by
  obtain ⟨f0,f1,f2',f3',f4,f5⟩:=f3 b hb
  subst epl
  exact⟨hn b hb,Nat.ne_of_lt (fpl b hb),nstk b f1 f2',.inl hb,fun x c q=>f4 x c (clsub x c q),fun p hp=>f5 p (by simpa using hp)⟩
 have loop:∀ s4:Shared,(∃ m,s4={ s3 with heap:=h₁,toks:=s3.toks+([]:List (Str×Value)).length }∧h₁.Ns s3.heap.objs.size m) →
   codeAny (model X.prog X.w) X.A (.compLoop (.ListComp elt [⟨tg,iter,ifs,0⟩] scope pos) 0 (.ref it) (.ref acc) (compEnvC scope (clOf X.env.cells scope.names []) s3.heap.objs.size X.env))
    (compPost (model X.prog X.w) X.A X.xe (some (assign (.Name y py) X.env)) (fun _ s'=>SP X pins D .next s') (.ref acc) s3.heap.objs.size) s4:=by
  rintro s4 ⟨m4,rfl,hn4⟩
  refine comp_loop (E:=fun _ _=>False) (fun _ _ z=>z.elim)
   (fun n s'=>∃ i σ' ys H',Inv (compCx X pins N scope s3.heap.objs.size s3 H3 fp) [] σ' H' s'∧tn i s'.heap∧(∀ b∈fp,H' b=none)∧W i n σ' ys H') ?_ m0
   ⟨0,pick ix σ,[],H3,YI h₁ m4 old hn4,T.keep _ _ _ st3 fun b _ o q=>old b o q,fun b hb=>(f3 b hb).1,w0⟩
  rintro n s5 ⟨i,σ5,ys,H5,I5,st5,fr5,w5⟩
  obtain ⟨hl5,hstep⟩:=turn i n σ5 ys H5 w5
  rcases hstep with ⟨stop,q⟩|⟨go,m',hm',step⟩
  ·refine thn (T.done (compCx X pins N scope s3.heap.objs.size s3 H3 fp) rfl rfl rfl hc i [] s5 σ5 H5 (fun _ _=>False) I5 (fpY rfl fr5) st5 stop) fun r s6 ⟨hr,I6⟩=>?_
   subst hr
   obtain ⟨m6,hn6,_⟩:=I6.loc
   have I6X:Inv X pins σ H5 s6:=I3.call' (ch:=fp) I6.os I6.base I6.hok I6.bare fun b hb=>by
    obtain ⟨f0,f1,f2',f3',f4,f5⟩:=f3 b hb
    exact⟨f3',f1,f4,f5⟩
   have neL:X.env.locals≠s3.heap.objs.size:=fun z=>by
    obtain ⟨m,⟨o,_,_,ho,_⟩,_⟩:=I3.loc
    exact Nat.lt_irrefl _ (z ▸ Heap.lt_size ho)
   have neCl:∀ x c,X.env.cells.lookup x=some c→c≠s3.heap.objs.size:=fun x c e=>Nat.ne_of_lt (clt x c e)
   refine wpAny_assign_Name (store_ok2 (u:=.ref acc) (v:=.ref acc) I6X hN hk0 hy rfl (fun s7 I7 ⟨a7,sb7,ha7⟩=>?_) hf)
   have na7:s3.heap.objs.size≠a7:=by
    rcases ha7 with z|z
    ·exact fun w=>neL (z ▸ w.symm)
    ·exact fun w=>neCl _ _ z w.symm
   refine⟨m6,hn6.sameBut sb7 na7,fun h' sb=>?_⟩
   refine⟨σ.set k (some (.ref acc)),H5,Inv.step2 (ch:=[s3.heap.objs.size]) I7 (fun b hb=>?_) (fun b o _ _ nb e _=>(sb.2 b (fun z=>nb (by rw [z];exact List.mem_singleton.mpr rfl))).trans e) (fun b o _ _ nb e _=>⟨o.slots,(sb.2 b (fun z=>nb (by rw [z];exact List.mem_singleton.mpr rfl))).trans e⟩)
    (fun _ _ _ _ e=>e) (fun b o nb e=>⟨o,(sb.2 b (fun z=>nb (by rw [z];exact List.mem_singleton.mpr rfl))).trans e⟩) (fun _ _ e=>e) (fun _ _ _ e=>e) (fun b ps e=>⟨#[],by simpa using e⟩) (fun m hm=>hm.sameBut sb neL) (I7.hok.letGo I6.free sb),q⟩
   have eb:b=s3.heap.objs.size:=List.mem_singleton.mp hb
   subst eb
   refine⟨?_,Ne.symm neL,neCl,fun p hp=>Nat.ne_of_lt (Heap.lt_size (I3.pin p hp).1)⟩
   cases q9:X.s₀.heap.get? s3.heap.objs.size with
   | none=>rfl
   | some o=>exact absurd (Nat.lt_of_lt_of_le (Heap.lt_size q9) I3.sz) (Nat.lt_irrefl _)
  ·refine thn (T.item (compCx X pins N scope s3.heap.objs.size s3 H3 fp) rfl rfl rfl hc i [] s5 σ5 H5 (fun _ _=>False) I5 (fpY rfl fr5) st5 go) fun r s6 ⟨u,hr,h6⟩=>?_
   subst hr
   refine thn h6 fun _ s7 ⟨x,H7,I7,r7,y7,st7,fr7⟩=>?_
   have I7':=I7.pinned (fpY rfl fr7) (T.obj _ _ st7)
   refine thn (hg pins s3.heap.objs.size s3 H3 fp _ s7 σ5 H7 x u _ I7' r7 (step x H7 y7)) fun _ s8 ⟨σ8,H8,I8,q8⟩=>?_
   refine thn (wp_tests (ht pins s3.heap.objs.size s3 H3 fp) I8 q8) fun b s9 ⟨H9,I9,q9⟩=>?_
   have back:∀ {σz:St} {Hz:Hp} {sz:Shared} {yz:List V},Inv (compCx X pins N scope s3.heap.objs.size s3 H3 fp) ([]++pinsAt fp s7.heap) σz Hz sz→W (i+1) m' σz yz Hz →
     ∃ m,m<n∧∃ i σ' ys H',Inv (compCx X pins N scope s3.heap.objs.size s3 H3 fp) [] σ' H' sz∧tn i sz.heap∧(∀ b∈fp,H' b=none)∧W i m σ' ys H':=fun {σz Hz sz yz} Iz wz=>by
    refine⟨m',hm',i+1,σz,yz,Hz,Iz.unpinned,T.keep _ _ _ st7 fun b hb o e=>(Iz.pin (b,o) (List.mem_append_right _ (List.mem_append_right _ (mem_pinsAt hb e)))).1,fun b hb=>?_,wz⟩
    obtain ⟨o,e,d⟩:=T.obj _ _ st7 b hb
    exact (Iz.pin (b,o) (List.mem_append_right _ (List.mem_append_right _ (mem_pinsAt hb e)))).2.1
   cases b with
   | false=>exact back I9 q9
   | true =>
    refine thn (he pins s3.heap.objs.size s3 H3 fp _ s9 σ8 H9 _ I9 q9) fun v s10 ⟨y,H10,I10,r10,hl10,hz10,w10⟩=>?_
    refine thn (mt_append _ s10 σ8 H10 (.ref acc) [y] (.ref acc) [v] (fun _ H'=>H'=upd H10 acc (.lst (ys++[y]))) I10 rfl (.cons r10 .nil) ⟨acc,ys,y,rfl,rfl,hl10,hz10,rfl⟩) fun _ s11 ⟨_,H11,I11,_,e11⟩=>?_
    subst e11
    exact back I11 w10
 have hn4:∃ m,h₁.Ns s3.heap.objs.size m:=⟨_,hns₁⟩
 obtain ⟨m4,hn4⟩:=hn4
 have L:=loop _ ⟨m4,rfl,hn4⟩
 exact codeAny_compStart_list L (T.self _ 0 _ _ _ (T.keep _ _ _ st3 fun b _ o q=>old b o q) L)
end
end L2
namespace L2
open PySem PySem.Spec PyProof.Rows
theorem boot_ValueError:bootBuiltins "ValueError"=some (.type "ValueError"):=by decide +kernel
section
variable {K:PySem.W.Frag} {H:Hp} {Q:VK} {D:Ends} {σ:St}
theorem join {t:TS} {u:St→Hp→Prop} (P:St→Hp→Prop) (h1:∀ nx:St→Hp→Prop,(∀ σ' H',P σ' H'→nx σ' H')→t { D with nx:=nx } σ H) (h2:∀ σ' H',P σ' H'→u σ' H'):t { D with nx:=u } σ H:=h1 u h2
end
end L2
namespace L2
open PySem PySem.Spec PyProof.Rows
noncomputable def rAll (K:PySem.W.Frag):List V→Hp→VK→Prop:=fun xs H Q=>∃ (a:Addr) (bs:List Bool),xs=[.ref a]∧SqL K H a (bs.map V.bl)∧Q (.bl (bs.all id)) H
theorem range_allB (bs:List Bool):((List.range bs.length).all fun i=>(bs[i]?).getD true)=bs.all id:=by
 rw [Bool.eq_iff_iff,List.all_eq_true,List.all_eq_true]
 constructor
 ·intro h b hb
  obtain ⟨i,hi,rfl⟩:=List.getElem_of_mem hb
  have:=h i (List.mem_range.mpr hi)
  simpa [List.getElem?_eq_getElem hi] using this
 ·intro h i hi
  have hi':=List.mem_range.mp hi
  simpa [List.getElem?_eq_getElem hi'] using h _ (List.getElem_mem hi')
section
variable {X:Cx}
theorem call_allB (hc:X.calm=true):CallR X (.builtin "all") (rAll X.K):=by
 intro pins s σ H xs us Q I r h
 obtain ⟨a,bs,rfl,hs,q⟩:=h
 obtain ⟨u,rfl,ru⟩:=vals1 r
 cases ru
 obtain ⟨its,rv,p,_⟩:=I.list hs
 have hl:s.heap.IsList a its.toArray:=by
  obtain ⟨o,n,h1,h2,h3⟩:=p
  exact⟨o,h1,h2,n,h3.2⟩
 have hlt:a<s.heap.objs.size:=by obtain ⟨_,e,_⟩:=hl;exact Heap.lt_size e
 have hh:X.A.handled=none:=I.ok.hd hc
 refine call_all_walk (wpAny_pyIter_list hl ?_)
 refine⟨s.heap.objs.size,[s.heap.objs.size,a],[s.heap.objs.size],its.toArray.size,_,_,fun i=>(bs[i]?).getD true,rfl,Walks.list (A:=X.A.in1) hh _ a (Nat.ne_of_lt hlt) its.toArray,
  ⟨⟨_,Heap.get?_push_size _ rfl,rfl,rfl⟩,hl.push _⟩,fun i v s' Q' E' hP hQ=>?_,fun h' tk hk=>?_⟩
 ·have hP':its[i]?=some v:=by simpa using hP
  have hi:i<its.length:=(List.getElem?_eq_some_iff.mp hP').1
  have hb:i<bs.length:=by have:=rv.length;simp at this;lia
  obtain ⟨u1,e1,r1⟩:=rv.get (i:=i) (x:=.bl bs[i]) (by simp [hb])
  rw [hP'] at e1
  cases e1
  cases r1
  simp only [List.getElem?_eq_getElem hb,Option.getD_some] at hQ
  exact wpAny_truthy_bool hQ
 ·have e:((List.range its.toArray.size).all fun i=>(bs[i]?).getD true)=bs.all id:=by
   have:=rv.length
   simp at this
   rw [List.size_toArray,← this];exact range_allB bs
  rw [e]
  exact⟨.bl (bs.all id),H,I.kept (t':=tk) (fun b x e=>hk b x (fun hm=>by rw [List.mem_singleton.mp hm] at e;exact Nat.lt_irrefl _ (Heap.lt_size e)) (Heap.get?_push_of_some _ e)),rfl,q⟩
theorem kN_all (K:PySem.W.Frag) (hK:X.K=K) (hc:X.calm=true):CallR X (.builtin "all") (rAll K):=hK ▸ call_allB hc
end
section
variable {K:PySem.W.Frag} {H:Hp} {Q:VK} {σ:St}
theorem r_all {a:Addr} {bs:List Bool} (e:SqL K H a (bs.map V.bl)) (h:Q (.bl (bs.all id)) H):rAll K [.ref a] H Q:=⟨a,bs,rfl,e,h⟩
theorem r_isiN {n:String} {b:Bool} (k:PySem.W.kitOne K (.type "NoneType") (.type n)=some b) (h:Q (.bl b) H):rIsInst K [.non,.ty n] H Q:=⟨_,n,_,b,rfl,.inl .non,k,h⟩
theorem r_isiS {x:Str} {n:String} {b:Bool} (k:PySem.W.kitOne K (.type "str") (.type n)=some b) (h:Q (.bl b) H):rIsInst K [.str x,.ty n] H Q:=⟨_,n,_,b,rfl,.inl (.str _),k,h⟩
theorem rd_mapRowV {a:Addr} {xs:List V} {ix:List (Option Nat)} {te:TE} (F:V→V) (fr:St) (hpk:pick ix σ=none::fr) (ha:SqT K H a xs) (hn:xs.length≤1000)
  (step:∀ x H' (Qc:VK),x∈xs→Same H H'→(∀ H5,Same H' H5→Qc (F x) H5)→te (some x::fr) H' Qc)
  (hQ:∀ l H',H l=none→Same H H'→H' l=some (.lst (xs.map F))→Q (.ref l) H'):CompGoal ix (gName 0) (fun _ H Q=>Q true H) te σ Q (Itt K a) H:=by
 refine rd_comp1 fr xs.length (fun i=>F (xs.getD i .non)) hpk (by lia) (fun H' s=>⟨_,s.at ha,by simp⟩) (fun i H' hi s=>⟨_,xs[i],s.at ha,List.getElem?_eq_getElem hi⟩) (fun i x H' H2 Qc hi hs hy kc=>?_) fun l H' hl hs hl'=>hQ l H' hl hs ?_
 ·obtain ⟨rfl,e1⟩:=hy
  have e2:=e1 _ (hs.at ha)
  have e3:xs.getD i .non=x:=by rw [List.getD,e2];rfl
  rw [e3] at kc
  exact step _ _ Qc (List.mem_of_getElem? e2) hs kc
 ·rw [hl']
  congr 2
  apply List.ext_getElem (by simp)
  intro i h1 h2
  simp at h1 h2
  simp [List.getD,h2]
end
end L2
namespace L2
open PySem PySem.Spec PyProof.Rows
noncomputable abbrev inCx (X:Cx):Cx:={ X with A:=X.A.in1.in1,xe:=fun _ _=>False }
section
variable {X:Cx} {pins:List (Addr×Obj)} {σ:St} {H:Hp} {s:Shared}
theorem Inv.toIn (I:Inv X pins σ H s):Inv (inCx X) pins σ H s :=
 ⟨⟨I.ok.mod,I.ok.kind,I.ok.glob,I.ok.blt,I.ok.above,I.ok.inj,I.ok.has,I.ok.cab,I.ok.hd,I.ok.frames,I.ok.stk,I.ok.exf,I.ok.bs,I.ok.bsz,I.ok.noex,I.ok.exfs,I.ok.funs,I.ok.frf⟩,I.os,I.bare,I.base,I.loc,I.cell,I.free,I.freeC,I.pin,I.hok,I.len⟩
theorem Inv.ofIn (I:Inv (inCx X) pins σ H s):Inv X pins σ H s :=
 ⟨⟨I.ok.mod,I.ok.kind,I.ok.glob,I.ok.blt,I.ok.above,I.ok.inj,I.ok.has,I.ok.cab,I.ok.hd,I.ok.frames,I.ok.stk,I.ok.exf,I.ok.bs,I.ok.bsz,I.ok.noex,I.ok.exfs,I.ok.funs,I.ok.frf⟩,I.os,I.bare,I.base,I.loc,I.cell,I.free,I.freeC,I.pin,I.hok,I.len⟩
theorem key_call {k:Nat} {f:Addr} {fd:FuncData} {ps:List Str} {sp:Sp} {x:V} {u:Value} {Q:VK} (F:FnOk X.prog X.w X.K X.mg X.base CX0 k f fd ps sp) (hr:Room (k+2) X.A) (hb:Binds X.K fd ps []) (I:Inv X pins σ H s) (r:RelV x u) (h:sp [x] H Q E0) :
  wpAny (model X.prog X.w) X.A.in1.in1 (call (.ref f) [u]) (EP X pins σ Q) (fun _ _=>False) s :=
 thn (run_fn (X:=inCx X) F (Room.in1 (Room.in1 hr)) hb .nil pass0 I.toIn (.cons r .nil) h) fun v s' ⟨y,H',J,z,q⟩=>⟨y,H',J.ofIn,z,q⟩
theorem Inv.wrote {a:Addr} {o o':Obj} {h':Heap} {t':Nat} (I:Inv X (pins++[(a,o)]) σ H s) (h0:X.s₀.heap.get? a=none) (hc:∀ x c,X.env.cells.lookup x=some c→c≠a) (hp:∀ p∈X.pn++pins,p.1≠a)
  (sb:Heap.SameBut a s.heap h') (e:h'.get? a=some o') (d:∀ v,o'.data≠.cell v):Inv X (pins++[(a,o')]) σ H { s with heap:=h',toks:=t' }:=by
 obtain ⟨g1,g2,g3,g4,g5⟩:=I.pin (a,o) (List.mem_append_right _ (List.mem_append_right _ (List.mem_singleton.mpr rfl)))
 have I1:Inv X pins σ H s:=I.unpinned
 have nm:∀ {b:Addr},b∉[a]→b≠a:=fun nb z=>nb (List.mem_singleton.mpr z)
 have I2:Inv X pins σ H { s with heap:=h',toks:=t' }:=Inv.step2 (ch:=[a]) I1 (fun b hb=>by
   have eb:b=a:=List.mem_singleton.mp hb
   subst eb
   exact⟨h0,g3,hc,hp⟩) (fun b ob _ _ nb q _=>(sb.2 b (nm nb)).trans q) (fun b ob _ _ nb q _=>⟨ob.slots,(sb.2 b (nm nb)).trans q⟩)
   (fun _ _ _ _ q=>q) (fun b ob nb q=>⟨ob,(sb.2 b (nm nb)).trans q⟩) (fun _ _ q=>q) (fun _ _ _ q=>q) (fun b ps q=>⟨#[],by simpa using q⟩) (fun m hm=>hm.sameBut sb (Ne.symm g3)) (I1.hok.letGo g2 sb)
 exact I2.pins_of fun p hp=>(List.mem_append.mp hp).elim (fun z=>I2.pin p (List.mem_append_right _ z)) fun z=>by
  rw [List.mem_singleton.mp z]
  exact⟨e,g2,g3,g4,d⟩
end
end L2
namespace L2
open PySem PySem.Spec PyProof.Rows
inductive PV:List (Int×V)→List (Int×Value)→Prop where
 | nil:PV [] []
 | cons {k:Int} {x:V} {u:Value} {qs ps} (r:RelV x u) (t:PV qs ps):PV ((k,x)::qs) ((k,u)::ps)
theorem PV.zip:∀ {kz:List Int} {xs:List V} {vs:List Value},Vals xs vs→PV (kz.zip xs) (kz.zip vs)
 | [],_,_,_=>.nil
 | _::_,_,_,.nil=>.nil
 | _::_,_,_,.cons r t=>.cons r (PV.zip t)
theorem PV.perm {ps ps':List (Int×Value)} (h:ps'.Perm ps):∀ {qs:List (Int×V)},PV qs ps→∃ qs':List (Int×V),qs'.Perm qs∧PV qs' ps':=by
 induction h with
 | nil=>intro qs h;exact⟨qs,.refl _,h⟩
 | cons x _ ih =>
  intro qs h
  cases h with
  | cons r t =>
   obtain ⟨qs',p,z⟩:=ih t
   exact⟨_::qs',p.cons _,.cons r z⟩
 | swap x y l =>
  intro qs h
  cases h with
  | cons r t =>
   cases t with
   | cons r2 t2=>exact⟨_::_::_,.swap _ _ _,.cons r2 (.cons r t2)⟩
 | trans _ _ ih1 ih2 =>
  intro qs h
  obtain ⟨q1,p1,z1⟩:=ih2 h
  obtain ⟨q2,p2,z2⟩:=ih1 z1
  exact⟨q2,p2.trans p1,z2⟩
theorem PV.vals:∀ {qs:List (Int×V)} {ps:List (Int×Value)},PV qs ps→Vals (qs.map Prod.snd) (ps.map Prod.snd)∧qs.map Prod.fst=ps.map Prod.fst
 | _,_,.nil=>⟨.nil,rfl⟩
 | _,_,.cons r t=>⟨.cons r t.vals.1,by rw [List.map_cons,List.map_cons,t.vals.2]⟩
section
variable {X:Cx} {pins:List (Addr×Obj)} {σ:St} {H:Hp} {s:Shared}
theorem top_pin {p:Addr×Obj} (I:Inv X (pins++[p]) σ H s):s.heap.get? p.1=some p.2:=(I.pin p (List.mem_append_right _ (List.mem_append_right _ (List.mem_singleton.mpr rfl)))).1
theorem took {kA:Array Value} {kz:List Int} {j:Nat} {n:Int} {t:Tok} (hk:IntsAre kA.toList (kz.take j)) (hn:kz[j]?=some n):IntsAre (kA.push (.int n t)).toList (kz.take (j+1)):=by
 rw [Array.toList_push,List.take_add_one,hn]
 exact ksk_snoc hk
theorem sort_rest {a kS f:Addr} {e1 k:Nat} {fd:FuncData} {ps:List Str} {sp:Sp} {b:Bool} {vs:List Value} {xs:List V} {kz:List Int} {P:PySem.Fin→Shared→Prop} {E:Value→Shared→Prop}
  (F:FnOk X.prog X.w X.K X.mg X.base CX0 k f fd ps sp) (hr:Room (k+2) X.A) (hb:Binds X.K fd ps [])
  (I:Inv X ((pins++[(a,seqObj "list" #[] e1)])++[(kS,seqObj "list" #[] 0)]) σ H s) (h0:X.s₀.heap.get? kS=none) (hc:∀ x c,X.env.cells.lookup x=some c→c≠kS) (hp:∀ p∈X.pn++(pins++[(a,seqObj "list" #[] e1)]),p.1≠kS)
  (hv:Vals xs vs) (hlen:kz.length=vs.length) (h64:vs.length<64)
  (turn:∀ (i:Nat) (x:V) (n:Int),xs[i]?=some x→kz[i]?=some n→∀ H',Same H H'→sp [x] H' (fun v H''=>v=.int n∧Same H' H'') E0)
  (done:∀ H' s' kA e,Inv X ((pins++[(a,seqObj "list" #[] e1)])++[(kS,seqObj "list" kA e)]) σ H' s'→Same H H'→IntsAre kA.toList kz→wpAny (model X.prog X.w) X.A.in1.in1 (ksk_end a b vs.toArray e1 (.ref kS) kA) P E s') :
  wpAny (model X.prog X.w) X.A.in1.in1 (ksk_rest a (.ref f) b vs.toArray e1 (.ref kS)) P E s:=by
 have lens:xs.length=vs.length:=hv.length
 let Wk:Nat→Shared→Prop:=fun i s'=>∃ H' kA e,Inv X ((pins++[(a,seqObj "list" #[] e1)])++[(kS,seqObj "list" kA e)]) σ H' s'∧Same H H'∧IntsAre kA.toList (kz.take i)
 have start:Wk 0 s:=⟨H,#[],0,I,Same.refl _,by rw [List.take_zero];exact .nil⟩
 have last:∀ s',Wk (0+vs.length) s'→wpAny (model X.prog X.w) X.A.in1.in1 (do let keys ← Builtin.List.listItems (.ref kS);ksk_end a b vs.toArray e1 (.ref kS) keys) P E s':=by
  rintro s' ⟨H',kA,e,I',sm,hk⟩
  rw [Nat.zero_add,List.take_of_length_le (Nat.le_of_eq hlen)] at hk
  exact wpAny_bind (listItems_at (top_pin I') rfl (done H' s' kA e I' sm hk))
 rw [ksk_rest]
 refine wpAny_bind (wpAny_rule ?_)
 rw [List.forIn_toArray]
 refine wpAny_bind (ksk_fold Wk vs 0 s start (fun j u s' hu w=>?_) last)
 rw [Nat.zero_add] at w ⊢
 obtain ⟨H',kA,e,I',sm,hk⟩:=w
 have hj:=(List.getElem?_eq_some_iff.mp hu).1
 have few:kA.size+1≤64:=by
  have q:=hk.length
  rw [Array.length_toList,List.length_take] at q
  lia
 obtain ⟨u',eu,ru⟩:=hv.get (List.getElem?_eq_getElem (lens.symm ▸ hj:j<xs.length))
 cases hu.symm.trans eu
 have hn:kz[j]?=some (kz[j]'(hlen.symm ▸ hj)):=List.getElem?_eq_getElem _
 refine wpAny_bind (wpAny_attempt (wpAny_mono (key_call F hr hb I' ru (turn j _ _ (List.getElem?_eq_getElem _) hn H' sm)) ?_ fun _ _ no=>no.elim))
 rintro _ s2 ⟨y,H2,I2,ry,rfl,sm2⟩
 obtain ⟨t2,rfl⟩:=ry
 have at2:=top_pin I2
 refine wpAny_bind (listUpdate_at at2 rfl ?_ (by rw [sizeLine_eq];lia) (by rw [Array.size_push,sizeLine_eq];lia))
 exact wpAny_pure ⟨rfl,H2,_,_,I2.wrote h0 hc hp (Heap.SameBut.update _ _ _) (get?_update_seq at2 _) (fun _ z=>nomatch z),sm.trans sm2,took hk hn⟩
end
end L2
namespace L2
open PySem PySem.Spec PyProof.Rows
theorem ns_uniq {h:Heap} {a:Addr} {m m':Str→Option Value} (x:h.Ns a m) (y:h.Ns a m'):m=m':=by
 obtain ⟨o1,es1,ep1,ho1,hd1,_,hf1⟩:=x
 obtain ⟨o2,es2,ep2,ho2,hd2,_,hf2⟩:=y
 rw [ho1] at ho2;cases ho2;rw [hd1] at hd2;cases hd2
 funext z
 rw [← hf1,← hf2]
noncomputable def SortedBy (b:Bool) (kz:List Int) (xs ys:List V):Prop:=∃ qs:List (Int×V),qs.Perm (kz.zip xs)∧ys=qs.map Prod.snd∧qs.Pairwise (fun p q=>if b then q.1≤p.1 else p.1≤q.1)
theorem pair_fst {b:Bool}:∀ {qs:List (Int×V)} {ps:List (Int×Value)},PV qs ps→ps.Pairwise (fun p q=>if b then q.1≤p.1 else p.1≤q.1)→qs.Pairwise (fun p q=>if b then q.1≤p.1 else p.1≤q.1)
 | _,_,.nil,_=>.nil
 | _,_,.cons (k:=k) (qs:=qs) (ps:=ps) r t,h=>by
  obtain ⟨h1,h2⟩:=List.pairwise_cons.mp h
  refine List.pairwise_cons.mpr ⟨fun q hq=>?_,pair_fst t h2⟩
  have hm:q.1∈ps.map Prod.fst:=by rw [← t.vals.2];exact List.mem_map.mpr ⟨q,hq,rfl⟩
  obtain ⟨p,hp,e⟩:=List.mem_map.mp hm
  have:=h1 p hp
  rw [e] at this
  exact this
theorem sorted_of {b:Bool} {kz:List Int} {xs:List V} {vs out:List Value} (hv:Vals xs vs) (h:KskOut b kz vs out):∃ ys,Vals ys out∧SortedBy b kz xs ys:=by
 obtain ⟨ps,hp,rfl,hw⟩:=h
 obtain ⟨qs,h1,h2⟩:=PV.perm hp (PV.zip hv)
 exact⟨qs.map Prod.snd,h2.vals.1,qs,h1,rfl,pair_fst h2 hw⟩
theorem SortedBy.length {b:Bool} {kz:List Int} {xs ys:List V} (h:SortedBy b kz xs ys) (hl:kz.length=xs.length):ys.length=xs.length:=by
 obtain ⟨qs,p,rfl,_⟩:=h
 rw [List.length_map,p.length_eq,List.length_zip,hl,Nat.min_self]
section
variable {X:Cx} {pins:List (Addr×Obj)} {σ:St} {H:Hp} {s:Shared}
noncomputable def others (h:Heap) (L k a:Addr):List (Addr×Obj):=(List.range h.objs.size).filterMap fun b=>if b=L∨b=k∨b=a then none else (h.get? b).map fun o=>(b,o)
theorem mem_others {h:Heap} {L k a b:Addr} {o:Obj} (e:h.get? b=some o) (n1:b≠L) (n2:b≠k) (n3:b≠a):(b,o)∈others h L k a :=
 List.mem_filterMap.mpr ⟨b,List.mem_range.mpr (Heap.lt_size e),by rw [if_neg (by simp [n1,n2,n3]),e];rfl⟩
theorem of_others {h:Heap} {L k a:Addr} {p:Addr×Obj} (hp:p∈others h L k a):h.get? p.1=some p.2∧p.1≠L∧p.1≠k∧p.1≠a:=by
 obtain ⟨b,_,e⟩:=List.mem_filterMap.mp hp
 by_cases hb:b=L∨b=k∨b=a
 ·rw [if_pos hb] at e;cases e
 ·rw [if_neg hb] at e
  cases q:h.get? b with
  | none=>rw [q] at e;cases e
  | some o =>
   rw [q] at e
   cases e
   exact⟨q,fun z=>hb (.inl z),fun z=>hb (.inr (.inl z)),fun z=>hb (.inr (.inr z))⟩
theorem sort_end {a kS:Addr} {e1 e:Nat} {kA:Array Value} {b:Bool} {vs:List Value} {xs:List V} {kz:List Int} {P:PySem.Fin→Shared→Prop} {E:Value→Shared→Prop}
  (I:Inv X ((pins++[(a,seqObj "list" #[] e1)])++[(kS,seqObj "list" kA e)]) σ H s)
  (ha:X.s₀.heap.get? a=none∧(∀ x c,X.env.cells.lookup x=some c→c≠a)∧∀ p∈X.pn++pins,p.1≠a)
  (hkS:X.s₀.heap.get? kS=none∧(∀ x c,X.env.cells.lookup x=some c→c≠kS)∧∀ p∈X.pn++(pins++[(a,seqObj "list" #[] e1)]),p.1≠kS)
  (hk:IntsAre kA.toList kz) (hv:Vals xs vs) (hlen:kz.length=vs.length) (h64:vs.length<64)
  (hP:∀ h' tk ys,Inv X pins σ (upd H a (.lst ys)) { s with heap:=h',toks:=tk }→SortedBy b kz xs ys→P (.done (.ret .none)) { s with heap:=h',toks:=tk }) :
  wpAny (model X.prog X.w) X.A.in1.in1 (ksk_end a b vs.toArray e1 (.ref kS) kA) P E s:=by
 obtain ⟨k1,k2,k3,k4,_⟩:=I.pin (kS,seqObj "list" kA e) (List.mem_append_right _ (List.mem_append_right _ (List.mem_singleton.mpr rfl)))
 obtain ⟨a1,a2,a3,a4,_⟩:=I.pin (a,seqObj "list" #[] e1) (List.mem_append_right _ (List.mem_append_left _ (List.mem_append_right _ (List.mem_singleton.mpr rfl))))
 have hka:kS≠a:=fun z=>hkS.2.2 (a,seqObj "list" #[] e1) (List.mem_append_right _ (List.mem_append_right _ (List.mem_singleton.mpr rfl))) z.symm
 have I1:Inv X pins σ H s:=I.unpinned.unpinned
 obtain ⟨m,hn,_⟩:=id I1.loc
 have em:∀ b:Addr,({}:Heap).get? b=none:=fun b=>Heap.get?_none_of_le (Nat.zero_le _)
 refine ksk_end_ (h₀:=({}:Heap)) (L:=X.env.locals) (m:=m) (news:=others s.heap X.env.locals kS a) (e:=e) ⟨hn,fun b o q=>(by rw [em b] at q;cases q),Nat.zero_le _⟩ (fun p hp=>?_) hka (fun p hp=>(of_others hp).2.2.1) (fun p hp=>(of_others hp).2.2.2) hk hlen h64 (fun h' tk out c F' N' ko=>?_)
 ·rcases List.mem_append.mp hp with z|z
  ·exact⟨(of_others z).1,(of_others z).2.1,em _⟩
  ·rcases List.mem_cons.mp z with rfl|z
   ·exact⟨k1,k3,em _⟩
   ·rw [List.mem_singleton.mp z]
    exact⟨a1,a3,em _⟩
 ·obtain ⟨ys,ry,so⟩:=sorted_of hv ko
  have kp:∀ b o,s.heap.get? b=some o→b≠X.env.locals→b≠kS→b≠a→h'.get? b=some o:=fun b o q n1 n2 n3=>(N' (b,o) (.tail _ (mem_others q n1 n2 n3))).1
  have na:h'.get? a=some (seqObj "list" out c):=(N' (a,seqObj "list" out c) (.head _)).1
  have nm:∀ {b:Addr},b∉[a,kS]→b≠a∧b≠kS:=fun nb=>⟨fun z=>nb (by rw [z];exact .head _),fun z=>nb (by rw [z];exact .tail _ (.head _))⟩
  refine hP h' tk ys (Inv.step2 (ch:=[a,kS]) I1 (fun b hb=>?_) (fun b o nL _ nb q _=>kp b o q nL (nm nb).2 (nm nb).1) (fun b o nL _ nb q _=>⟨o.slots,kp b o q nL (nm nb).2 (nm nb).1⟩)
   (fun b o nb _ q=>by rw [upd_ne (nm nb).1];exact q) (fun b o nb q=>?_) (fun b ys q=>by rw [upd_ne (ne_of_none q a2)];exact q) (fun b o u q=>by rw [upd_ne (ne_of_none q a2)];exact q) (fun b ps q=>⟨#[],by rw [upd_ne (ne_of_none q a2)];simpa using q⟩)
   (fun m0 h0=>ns_uniq hn h0 ▸ F'.ns) (fun b o q=>?_)) so
  ·rcases List.mem_cons.mp hb with rfl|hb
   ·exact⟨ha.1,a3,ha.2.1,ha.2.2⟩
   ·have eb:b=kS:=List.mem_singleton.mp hb
    subst eb
    exact⟨hkS.1,k3,hkS.2.1,fun p hp=>hkS.2.2 p ((List.mem_append.mp hp).elim (fun z=>List.mem_append_left _ z) fun z=>List.mem_append_right _ (List.mem_append_left _ z))⟩
  ·by_cases nL:b=X.env.locals
   ·subst nL
    obtain ⟨oL,_,_,hoL,_⟩:=F'.ns
    exact⟨oL,hoL⟩
   ·exact⟨o,kp b o q nL (nm nb).2 (nm nb).1⟩
  ·by_cases hb:b=a
   ·subst hb
    rw [upd_same] at q
    cases q
    refine⟨?_,out.toList,c,ry,by simpa using na⟩
    have:=so.length (hlen.trans hv.length.symm)
    rw [this,hv.length,sizeLine_eq]
    lia
   ·rw [upd_ne hb] at q
    have tr:∀ d u,H d=some u→d≠X.env.locals∧d≠kS∧d≠a:=fun d u z=>⟨fun w=>(by rw [w,I1.free] at z;cases z),fun w=>(by rw [w,k2] at z;cases z),fun w=>(by rw [w,a2] at z;cases z)⟩
    refine (I1.hok b o q).stay (fun d u hd z=>?_) (fun d z=>by rw [upd_ne (ne_of_none z a2)];exact z) fun d xs z=>by rw [upd_ne (ne_of_none z a2)];exact z
    have td:d≠X.env.locals∧d≠kS∧d≠a:=by
     rcases hd with rfl|hd
     ·exact tr _ _ q
     ·exact tr _ _ hd
    exact kp d u z td.1 td.2.1 td.2.2
end
end L2
namespace L2
open PySem PySem.Spec PyProof.Rows
section
variable {X:Cx} {pins:List (Addr×Obj)} {σ:St} {H:Hp} {s:Shared}
theorem sort_tree {a f:Addr} {n k:Nat} {fd:FuncData} {ps:List Str} {sp:Sp} {b:Bool} {vs:List Value} {xs:List V} {kz:List Int} {P:PySem.Fin→Shared→Prop} {E:Value→Shared→Prop}
  (F:FnOk X.prog X.w X.K X.mg X.base CX0 k f fd ps sp) (hr:Room (k+2) X.A) (hb:Binds X.K fd ps []) (I:Inv X pins σ H s) (ho:s.heap.get? a=some (seqObj "list" vs.toArray n)) (hfp:FpOk X pins H a) (hs0:X.s₀.heap.objs.size≤a)
  (hv:Vals xs vs) (hlen:kz.length=vs.length) (h64:vs.length<64)
  (turn:∀ (i:Nat) (x:V) (n:Int),xs[i]?=some x→kz[i]?=some n→∀ H',Same H H'→sp [x] H' (fun v H''=>v=.int n∧Same H' H'') E0)
  (hP:∀ s' H' ys,Same H H'→H' a=none→Inv X pins σ (upd H' a (.lst ys)) s'→SortedBy b kz xs ys→P (.done (.ret .none)) s') :
  wpAny (model X.prog X.w) X.A.in1.in1 (ksk_tree a (.ref f) b) P E s:=by
 obtain ⟨g0,g1,g2,_,g4,g5⟩:=hfp
 have a0:X.s₀.heap.get? a=none:=Heap.get?_none_of_le hs0
 have s1:=Heap.SameBut.update s.heap a (Obj.mapSeq fun _=>(#[]:Array Value))
 obtain ⟨e1,ho1⟩:∃ e1,(s.heap.update a (Obj.mapSeq fun _=>(#[]:Array Value))).get? a=some (seqObj "list" #[] e1):=⟨_,get?_update_seq ho fun _=>#[]⟩
 have I0:Inv X (pins++[(a,seqObj "list" vs.toArray n)]) σ H s:=I.pins_of fun p hp=>(List.mem_append.mp hp).elim (fun z=>I.pin p (List.mem_append_right _ z)) fun z=>by
  rw [List.mem_singleton.mp z]
  exact⟨ho,g0,g1,g2,fun v z=>nomatch z⟩
 have I1:Inv X (pins++[(a,seqObj "list" #[] e1)]) σ H { s with heap:=s.heap.update a (Obj.mapSeq fun _=>(#[]:Array Value)),toks:=s.toks }:=I0.wrote a0 g4 g5 s1 ho1 fun v z=>nomatch z
 unfold ksk_tree
 refine wpAny_bind (listItems_at ho rfl ?_)
 refine wpAny_bind (listUpdate_at ho rfl ?_ (by rw [List.size_toArray,sizeLine_eq];lia) (Nat.zero_le _))
 refine wpAny_bind (seqEpoch_at ho1 rfl ?_)
 refine wpAny_bind (wpAny_newTuple ?_ (by show vs.length≤_;rw [sizeLine_eq];lia))
 refine wpAny_bind (wpAny_newList ?_ (Nat.zero_le _))
 refine wpAny_holding ?_
 generalize hh1:s.heap.update a (Obj.mapSeq fun _=>(#[]:Array Value))=h1 at I1
 have lk:h1.objs.size≤(h1.push (seqObj "tuple" vs.toArray 0)).objs.size:=by rw [size_push'];exact Nat.le_succ _
 have I2:Inv X (pins++[(a,seqObj "list" #[] e1)]) σ H { s with heap:=(h1.push (seqObj "tuple" vs.toArray 0)).push (seqObj "list" #[] 0),toks:=s.toks } :=
  I1.kept (t':=s.toks) fun b o q=>Heap.get?_push_of_some _ (Heap.get?_push_of_some _ q)
 have hkn:H (h1.push (seqObj "tuple" vs.toArray 0)).objs.size=none:=I1.hok.fresh lk
 obtain ⟨_,q1,q2,_,q4,q5⟩:FpOk X (pins++[(a,seqObj "list" #[] e1)]) H (h1.push (seqObj "tuple" vs.toArray 0)).objs.size:=I1.fpOk lk hkn
 have k0:X.s₀.heap.get? (h1.push (seqObj "tuple" vs.toArray 0)).objs.size=none:=Heap.get?_none_of_le (Nat.le_trans I1.sz lk)
 have I3:Inv X ((pins++[(a,seqObj "list" #[] e1)])++[((h1.push (seqObj "tuple" vs.toArray 0)).objs.size,seqObj "list" #[] 0)]) σ H { s with heap:=(h1.push (seqObj "tuple" vs.toArray 0)).push (seqObj "list" #[] 0),toks:=s.toks } :=
  I2.pins_of fun p hp=>(List.mem_append.mp hp).elim (fun z=>I2.pin p (List.mem_append_right _ z)) fun z=>by
   rw [List.mem_singleton.mp z]
   exact⟨Heap.get?_push_size _ rfl,hkn,q1,q2,fun v z=>nomatch z⟩
 refine sort_rest F hr hb I3 k0 q4 q5 hv hlen h64 turn fun H' s' kA e I' sm hk=>?_
 obtain ⟨_,an,_⟩:=I'.pin (a,seqObj "list" #[] e1) (List.mem_append_right _ (List.mem_append_left _ (List.mem_append_right _ (List.mem_singleton.mpr rfl))))
 exact sort_end I' ⟨a0,g4,g5⟩ ⟨k0,q4,q5⟩ hk hv hlen h64 fun h' tk ys J so=>hP _ H' ys sm an J so
theorem call_sortedK {l f:Addr} {k:Nat} {fd:FuncData} {ps:List Str} {sp:Sp} {xs:List V} {kz:List Int} {Q:VK}
  (F:FnOk X.prog X.w X.K X.mg X.base CX0 k f fd ps sp) (hr:Room (k+2) X.A) (hb:Binds X.K fd ps []) (I:Inv X pins σ H s) (hs:SqL X.K H l xs) (hlen:kz.length=xs.length) (h64:xs.length<64)
  (turn:∀ (i:Nat) (x:V) (n:Int),xs[i]?=some x→kz[i]?=some n→∀ H',Same H H'→sp [x] H' (fun v H''=>v=.int n∧Same H' H'') E0)
  (hQ:∀ p H' ys,H p=none→Same H H'→H' p=some (.lst ys)→SortedBy false kz xs ys→Q (.ref p) H') :
  wpAny (model X.prog X.w) X.A (call (.builtin "sorted") [.ref l] [(Str.ofString "key",.ref f)]) (EP X pins σ Q) X.xe s:=by
 obtain ⟨vs,hv,pl,_⟩:=I.list hs
 have hl:s.heap.IsList l vs.toArray:=by
  obtain ⟨o,n,h1,h2,h3⟩:=pl
  exact⟨o,h1,h2,n,h3.2⟩
 have hvl:vs.length<64:=by rw [← hv.length];exact h64
 have few:vs.length≤sizeLine:=by rw [sizeLine_eq];lia
 refine call_function_entry_kw kind_sorted plain_sorted entry_sorted (ksk_s1 _ _) ?_
 rw [Builtin.«sorted»]
 refine wpAny_bind (m:=checkCount "sorted" 1 1 _) (wpAny_pure (wpAny_bind (collect_list hl ?_ few)))
 generalize hc:(s.heap.push (seqObj "list" #[] 0)).update s.heap.objs.size (Obj.mapSeq (·++vs.toArray))=hcol
 have ecol:hcol.objs.size=s.heap.objs.size+1:=by rw [← hc,Heap.size_update,size_push']
 have kcol:∀ b o,s.heap.get? b=some o→hcol.get? b=some o:=fun b o q=>by
  rw [← hc,(Heap.SameBut.update _ _ _).2 b (Nat.ne_of_lt (Heap.lt_size q))]
  exact Heap.get?_push_of_some _ q
 have low:s.heap.objs.size≤hcol.objs.size:=by lia
 have I2:Inv X pins σ H { s with heap:=hcol.push (seqObj "list" vs.toArray 0),toks:=s.toks }:=I.kept fun b o q=>Heap.get?_push_of_some _ (kcol b o q)
 have own:(hcol.push (seqObj "list" vs.toArray 0)).get? hcol.objs.size=some (seqObj "list" vs.toArray 0):=Heap.get?_push_size _ rfl
 refine wpAny_bind (wpAny_newList ?_ few)
 refine wpAny_bind (wpAny_holding (wpAny_call_entry_kw (s:={ s with heap:=hcol.push (seqObj "list" vs.toArray 0) }) slot_list_sort ⟨_,own,rfl⟩ entry_list_sort ?_ (ksk_l1 _ _)))
 show wpAny (model X.prog X.w) X.A.in1.in1 (Builtin.«list.sort» ⟨[.ref hcol.objs.size],[(Str.ofString "key",.ref f)]⟩) _ _ _
 rw [ksk_t1]
 refine sort_tree F hr hb I2 own (I.fpOk low (I.hok.fresh low)) (Nat.le_trans I.sz low) hv (hlen.trans hv.length) hvl turn fun s' H' ys sm hn J so=>⟨_,rfl,?_⟩
 exact wpAny_pure ⟨_,rfl,.ref hcol.objs.size,_,J,rfl,hQ _ _ ys (I.hok.fresh low) (sm.trans (Same.upd_new hn)) upd_same so⟩
end
end L2
namespace L2
open PySem PySem.Spec PyProof.Rows
noncomputable def rSortK (K:PySem.W.Frag) (sp:Sp):V→Hp→VK→Prop:=fun x H Q=>∃ (l:Addr) (xs:List V) (kz:List Int),x=.ref l∧SqL K H l xs∧kz.length=xs.length∧xs.length<64 ∧
 (∀ (i:Nat) (x:V) (n:Int),xs[i]?=some x→kz[i]?=some n→∀ H',Same H H'→sp [x] H' (fun v H''=>v=.int n∧Same H' H'') E0) ∧
 ∀ p H' ys,H p=none→Same H H'→H' p=some (.lst ys)→SortedBy false kz xs ys→Q (.ref p) H'
noncomputable def tSortK (K:PySem.W.Frag) (sp:Sp) (t:TE):TE:=fun σ H Q=>t σ H fun x H1=>rSortK K sp x H1 Q
section
variable {X:Cx} {k:Nat} {y:Str} {ps:List Str} {sp:Sp} {p py kpos pos:Pos} {e:Expr} {t:TE}
theorem pe_sortK (O:Ok X.prog X.w X.K X.mg X.base k y ps sp) (hr:Room (k+2) X.A) (ha:PE X e t) (hg:Gl X (Str.ofString "sorted")) (hm:X.mg "sorted"=none) (hv:bootBuiltins "sorted"=some (.builtin "sorted")) (hgy:Gl X y:=by rfl)
  (hdby:(y == ("__debug__":Str))=false:=by decide) (hst:starEach [e] X.env=(false,eval e X.env)::starEach [] X.env:=by rfl) :
  PE X (.Call (.Name "sorted" p) [e] [⟨some (Str.ofString "key"),.Name y py,kpos⟩] pos) (tSortK X.K sp t):=by
 obtain ⟨f,fd,F,hmy,hk,hb⟩:=O
 intro pins s σ H Q I h
 refine wpAny_Call_Name_kw (ld_blt I hg hm hv ?_ (by decide) (by decide))
 have hpa:PA X [e] (tCons t tNil):=pa_cons ha pa_nil hst
 have hpk:PK X [⟨some (Str.ofString "key"),.Name y py,kpos⟩] (tCons (tC (V.ref f)) tNil):=pk_cons (pe_glob (v:=V.ref f) hgy hmy rfl hdby) pk_nil
 refine callWith_kw (thn (hpa pos pins s σ H (fun vs H1=>∃ x,vs=[x]∧rSortK X.K sp x H1 Q) I ?_) fun us s1 ⟨vs,H1,I1,r,x,ev,q⟩=>?_) (by rw [hst];rfl) (by rw [hst];rfl) rfl rfl
 ·show t σ H fun x H1=>∃ z,[x]=[z]∧rSortK X.K sp z H1 Q
  have e:(fun (x:V) (H1:Hp)=>∃ z,[x]=[z]∧rSortK X.K sp z H1 Q)=fun x H1=>rSortK X.K sp x H1 Q:=by
   funext x H1
   apply propext
   constructor
   ·rintro ⟨z,e,q⟩
    cases e
    exact q
   ·intro q
    exact⟨x,rfl,q⟩
  rw [e]
  exact h
 ·subst ev
  obtain ⟨u,rfl,ru⟩:=vals1 r
  refine thn (hpk pos pins s1 σ H1 (fun zs H2=>zs=[V.ref f]∧H2=H1) I1 ⟨rfl,rfl⟩) fun ws s2 ⟨zs,H2,I2,rz,ez,eH⟩=>?_
  subst ez
  subst eH
  obtain ⟨w,rfl,rw_⟩:=vals1 rz
  cases rw_
  obtain ⟨l,xs,kz,rfl,hs,h1,h2,turn,hQ⟩:=q
  cases ru
  exact call_sortedK F hr hb I2 hs h1 h2 turn hQ
variable {K:PySem.W.Frag}
theorem kpe_sortK (hK:X.K=K) (O:Ok X.prog X.w K X.mg X.base k y ps sp) (hr:Room (k+2) X.A) (ha:PE X e t) (hg:Gl X (Str.ofString "sorted")) (hm:X.mg "sorted"=none) (hv:bootBuiltins "sorted"=some (.builtin "sorted")) (hgy:Gl X y:=by rfl)
  (hdby:(y == ("__debug__":Str))=false:=by decide) (hst:starEach [e] X.env=(false,eval e X.env)::starEach [] X.env:=by rfl) :
  PE X (.Call (.Name "sorted" p) [e] [⟨some (Str.ofString "key"),.Name y py,kpos⟩] pos) (tSortK K sp t):=by
 subst hK
 exact pe_sortK O hr ha hg hm hv hgy hdby hst
end
section
variable {K:PySem.W.Frag} {H:Hp} {Q:VK} {σ:St} {sp:Sp}
theorem r_sortK {t:TE} (h:t σ H fun x H1=>rSortK K sp x H1 Q):tSortK K sp t σ H Q:=h
theorem rd_sortK {l:Addr} {xs:List V} (kz:List Int) (hs:SqL K H l xs) (h1:kz.length=xs.length) (h2:xs.length<64)
  (turn:∀ (i:Nat) (x:V) (n:Int),xs[i]?=some x→kz[i]?=some n→∀ H',Same H H'→sp [x] H' (fun v H''=>v=.int n∧Same H' H'') E0)
  (k:∀ p H' ys,Same H H'→H' p=some (.lst ys)→SortedBy false kz xs ys→Q (.ref p) H'):rSortK K sp (.ref l) H Q:=⟨l,xs,kz,rfl,hs,h1,h2,turn,fun p H' ys _=>k p H' ys⟩
end
end L2
namespace L2
open PySem PySem.Spec PyProof.Rows
mutual
inductive Tell (K:PySem.W.Frag) (H:Hp):V→PyData→Prop where
 | non:Tell K H .non .none
 | bl (b:Bool):Tell K H (.bl b) (.bool b)
 | int (i:Int):Tell K H (.int i) (.int i)
 | str (x:Str):Tell K H (.str x) (.str x)
 | tup {a:Addr} {xs:List V} {ds:List PyData} (h:SqT K H a xs) (t:Tells K H xs ds):Tell K H (.ref a) (.tuple ds)
 | lst {a:Addr} {xs:List V} {ds:List PyData} (h:SqL K H a xs) (t:Tells K H xs ds):Tell K H (.ref a) (.list ds)
inductive Tells (K:PySem.W.Frag) (H:Hp):List V→List PyData→Prop where
 | nil:Tells K H [] []
 | cons {x:V} {d:PyData} {xs:List V} {ds:List PyData} (h:Tell K H x d) (t:Tells K H xs ds):Tells K H (x::xs) (d::ds)
end
section
variable {X:Cx} {pins:List (Addr×Obj)} {σ:St} {H:Hp} {s:Shared}
mutual
theorem Tell.reads (I:Inv X pins σ H s):∀ {v:V} {d:PyData} {u:Value},Tell X.K H v d→RelV v u→∃ as,Reads s.heap u d as
 | _,_,u,.non,r=>by cases (show u=Value.none from r);exact⟨_,.none⟩
 | _,_,u,.bl b,r=>by cases (show u=Value.bool b from r);exact⟨_,.bool b⟩
 | _,_,u,.int i,r=>by
  obtain ⟨t,q⟩:=(show ∃ t,u=Value.int i t from r)
  cases q
  exact⟨_,.int i t⟩
 | _,_,u,.str x,r=>by
  obtain ⟨t,q⟩:=(show ∃ t,u=Value.str x t from r)
  cases q
  exact⟨_,.str x t⟩
 | _,_,u,.tup (a:=a) h t,r=>by
  cases (show u=Value.ref a from r)
  obtain ⟨its,rv,p,_⟩:=I.tuple h
  obtain ⟨o,h1,h2,n,h3⟩:=p
  obtain ⟨as,ra⟩:=Tells.reads I t rv
  exact⟨_,reads_tuple_at h1 h2 h3 (by simpa using ra)⟩
 | _,_,u,.lst (a:=a) h t,r=>by
  cases (show u=Value.ref a from r)
  obtain ⟨its,rv,p,_⟩:=I.list h
  obtain ⟨o,n,h1,h2,h3⟩:=p
  obtain ⟨as,ra⟩:=Tells.reads I t rv
  exact⟨_,reads_list_at h1 h2 h3.2 (by simpa using ra)⟩
theorem Tells.reads (I:Inv X pins σ H s):∀ {vs:List V} {ds:List PyData} {us:List Value},Tells X.K H vs ds→Vals vs us→∃ as,ReadsAll s.heap us ds as
 | _,_,_,.nil,.nil=>⟨_,.nil⟩
 | _,_,_,.cons h t,.cons r rs=>by
  obtain ⟨as,ra⟩:=Tell.reads I h r
  obtain ⟨bs,rb⟩:=Tells.reads I t rs
  exact⟨_,.cons ra rb⟩
end
noncomputable def rEqD (K:PySem.W.Frag) (neg:Bool):R2:=fun x y H Q=>∃ d e,Tell K H x d∧Tell K H y e∧SeqAt.shaped d=true∧SeqAt.shaped e=true∧Q (.bl (if neg then !PyData.eqv d e else PyData.eqv d e)) H
theorem op_eqD (hu:X.A.units+64<cLine):OpR X (compareOp .Eq) (rEqD X.K false):=by
 intro pins s σ H x y v u Q I rx ry h
 obtain ⟨d,e,hd,he,sd,se,q⟩:=h
 obtain ⟨as,ra⟩:=hd.reads I rx
 obtain ⟨bs,rb⟩:=he.reads I ry
 exact eq_dataH ra rb sd se hu ⟨.bl (PyData.eqv d e),H,I,rfl,q⟩
theorem op_neD (hu:X.A.units+64<cLine):OpR X (compareOp .NotEq) (rEqD X.K true):=by
 intro pins s σ H x y v u Q I rx ry h
 obtain ⟨d,e,hd,he,sd,se,q⟩:=h
 obtain ⟨as,ra⟩:=hd.reads I rx
 obtain ⟨bs,rb⟩:=he.reads I ry
 exact ne_dataH ra rb sd se hu ⟨.bl (!PyData.eqv d e),H,I,rfl,q⟩
variable {K:PySem.W.Frag}
theorem kop_eqD (K:PySem.W.Frag) (hK:X.K=K) (hu:X.A.units+64<cLine):OpR X (compareOp .Eq) (rEqD K false):=hK ▸ op_eqD hu
theorem kop_neD (K:PySem.W.Frag) (hK:X.K=K) (hu:X.A.units+64<cLine):OpR X (compareOp .NotEq) (rEqD K true):=hK ▸ op_neD hu
end
section
variable {K:PySem.W.Frag} {H:Hp} {Q:VK}
theorem r_eqD {x y:V} {d e:PyData} (hd:Tell K H x d) (he:Tell K H y e) (sd:SeqAt.shaped d=true) (se:SeqAt.shaped e=true) (h:Q (.bl (PyData.eqv d e)) H):rEqD K false x y H Q:=⟨d,e,hd,he,sd,se,h⟩
theorem r_neD {x y:V} {d e:PyData} (hd:Tell K H x d) (he:Tell K H y e) (sd:SeqAt.shaped d=true) (se:SeqAt.shaped e=true) (h:Q (.bl (!PyData.eqv d e)) H):rEqD K true x y H Q:=⟨d,e,hd,he,sd,se,h⟩
noncomputable def Rows (K:PySem.W.Frag) (H:Hp) (xs:List V) (rs:List (List Int)):Prop:=Tells K H xs (rs.map fun r=>.tuple (r.map PyData.int))
theorem Tells.ints:∀ (r:List Int),Tells K H (r.map V.int) (r.map PyData.int)
 | []=>.nil
 | i::r=>.cons (.int i) (Tells.ints r)
theorem Tell.row {a:Addr} {r:List Int} (h:SqT K H a (r.map V.int)):Tell K H (.ref a) (.tuple (r.map PyData.int)):=.tup h (Tells.ints r)
end
end L2
namespace L2
open PySem PySem.Spec PyProof.Rows
section
variable {K:PySem.W.Frag} {g:TG} {D:Ends} {σ:St} {H:Hp}
theorem f_inv {J:It} {tb:TS} (n:Nat) (Pv:Nat→St→Hp→Prop) (h0:Pv 0 σ H) (hgo:∀ i σ H2,i<n→Pv i σ H2→J.go i H2) (hstop:∀ σ H2,Pv n σ H2→J.stop n H2)
  (hs:∀ i x σ H2 H3,i<n→Pv i σ H2→J.yld i H2 x H3→g x σ H3 fun σ2 H4=>tb { D with nx:=Pv (i+1),ct:=Pv (i+1),bk:=D.nx } σ2 H4) (hd:∀ σ H2,Pv n σ H2→D.nx σ H2):ForGoal g tb D J σ H:=by
 refine⟨fun i m σ2 H2=>m=n - i∧i≤n∧Pv i σ2 H2,⟨n,by simp,Nat.zero_le _,h0⟩,?_⟩
 rintro i m σ2 H2 ⟨rfl,hi,p⟩
 by_cases hlt:i<n
 ·exact .inr ⟨hgo i σ2 H2 hlt p,Pv (i+1),fun σ' H' p'=>⟨n - (i+1),by lia,rfl,hlt,p'⟩,fun x H' y=>hs i x σ2 H2 H' hlt p y⟩
 ·have e:i=n:=by lia
  subst e
  exact .inl ⟨hstop σ2 H2 p,hd σ2 H2 p⟩
theorem f_invR {lo:Int} {n:Nat} {tb:TS} (Pv:Nat→St→Hp→Prop) (h0:Pv 0 σ H) (hs:∀ i σ H2,i<n→Pv i σ H2→g (.int (lo+i)) σ H2 fun σ2 H4=>tb { D with nx:=Pv (i+1),ct:=Pv (i+1),bk:=D.nx } σ2 H4) (hd:∀ σ H2,Pv n σ H2→D.nx σ H2):ForGoal g tb D (Itr lo n) σ H:=by
 refine f_inv n Pv h0 (fun i σ H2 hi _=>hi) (fun σ H2 _=>Nat.le_refl _) (fun i x σ H2 H3 hi p y=>?_) hd
 obtain ⟨rfl,rfl⟩:=y
 exact hs i σ _ hi p
theorem f_invL {a:Addr} {xs:List V} {tb:TS} (Pv:Nat→St→Hp→Prop) (h0:Pv 0 σ H) (ha:∀ i σ H2,Pv i σ H2→SqL K H2 a xs) (hs:∀ i x σ H2,xs[i]?=some x→Pv i σ H2→g x σ H2 fun σ2 H4=>tb { D with nx:=Pv (i+1),ct:=Pv (i+1),bk:=D.nx } σ2 H4) (hd:∀ σ H2,Pv xs.length σ H2→D.nx σ H2):ForGoal g tb D (Itl K a) σ H:=by
 refine f_inv xs.length Pv h0 (fun i σ H2 hi p=>⟨xs,xs[i],ha i σ H2 p,List.getElem?_eq_getElem hi⟩) (fun σ H2 p=>⟨xs,ha _ σ H2 p,Nat.le_refl _⟩) (fun i x σ H2 H3 hi p y=>?_) hd
 obtain ⟨rfl,e⟩:=y
 exact hs i x σ _ (e xs (ha i σ _ p)) p
end
end L2
namespace L2
open PySem PySem.Spec PyProof.Rows
noncomputable def rMaxL (K:PySem.W.Frag):List V→Hp→VK→Prop:=fun xs H Q=>∃ (a:Addr) (ns:List Int),xs=[.ref a]∧SqL K H a (ns.map V.int)∧ns≠[]∧∀ m,m∈ns→(∀ x∈ns,x≤m)→Q (.int m) H
section
variable {X:Cx}
theorem call_maxL (hc:X.calm=true):CallR X (.builtin "max") (rMaxL X.K):=by
 intro pins s σ H xs us Q I r h
 obtain ⟨a,ns,rfl,hs,hne,q⟩:=h
 obtain ⟨u,rfl,ru⟩:=vals1 r
 cases ru
 obtain ⟨its,rv,p,_⟩:=I.list hs
 have hl:s.heap.IsList a its.toArray:=by
  obtain ⟨o,n,h1,h2,h3⟩:=p
  exact⟨o,h1,h2,n,h3.2⟩
 have hh:X.A.handled=none:=I.ok.hd hc
 have hi:IntsAre its ns:=intsAre_of rv
 obtain ⟨zs,hx⟩:=hi.allInts.items
 have hn:numsOf its.toArray.toList=ns:=by rw [show its.toArray.toList=its from rfl,hi.numsOf]
 rw [hx] at hl hn
 rw [nums_intItems] at hn
 have hsz:0<zs.size:=by
  rcases Nat.eq_zero_or_pos zs.size with z|z
  ·exfalso;apply hne;rw [← hn];apply List.eq_nil_of_length_eq_zero;rw [List.length_map,Array.length_toList,z]
  ·exact z
 refine max_intList hh hl hsz fun v h' tk hv hk=>?_
 obtain ⟨t,rfl⟩:=intItems_at hv
 obtain ⟨h1,h2⟩:=argBest_gt (numAt zs) (zs.size - 1)
 refine⟨.int _,H,I.kept (t':=tk) hk,⟨t,rfl⟩,q _ ?_ fun b hb=>?_⟩
 ·rw [← hn,numAt_eq];exact getD_mem (by rw [List.length_map,Array.length_toList];lia)
 ·rw [← hn] at hb
  obtain ⟨j,hj,rfl⟩:=mem_getD hb
  rw [List.length_map,Array.length_toList] at hj
  rw [← numAt_eq];exact h2 j (by lia)
theorem kN_maxL (K:PySem.W.Frag) (hK:X.K=K) (hc:X.calm=true):CallR X (.builtin "max") (rMaxL K):=hK ▸ call_maxL hc
end
section
variable {K:PySem.W.Frag} {H:Hp} {Q:VK} {σ:St} {ix:List (Option Nat)}
theorem r_maxL {a:Addr} {ns:List Int} (e:SqL K H a (ns.map V.int)) (n:ns≠[]) (h:∀ m,m∈ns→(∀ x∈ns,x≤m)→Q (.int m) H):rMaxL K [.ref a] H Q:=⟨a,ns,rfl,e,n,h⟩
end
end L2
namespace L2
open PySem PySem.Spec PyProof.Rows
inductive RowsL (K:PySem.W.Frag) (H:Hp):List V→List (List Int)→Prop where
 | nil:RowsL K H [] []
 | cons {a:Addr} {r:List Int} {xs:List V} {rs:List (List Int)} (h:SqT K H a (r.map V.int)) (t:RowsL K H xs rs):RowsL K H (.ref a::xs) (r::rs)
namespace RowsL
variable {K:PySem.W.Frag} {H H':Hp}
theorem length:∀ {xs:List V} {rs:List (List Int)},RowsL K H xs rs→rs.length=xs.length
 | _,_,.nil=>rfl
 | _,_,.cons _ t=>by rw [List.length_cons,List.length_cons,t.length]
theorem get:∀ {xs:List V} {rs:List (List Int)} {i:Nat} {x:V},RowsL K H xs rs→xs[i]?=some x→∃ a r,x=.ref a∧SqT K H a (r.map V.int)∧rs[i]?=some r
 | _,_,_,_,.nil,h=>by simp at h
 | _,_,0,_,.cons (a:=a) (r:=r) h _,e=>by
  simp at e
  exact⟨a,r,e.symm,h,rfl⟩
 | _,_,i+1,_,.cons _ t,e=>by
  obtain ⟨a,r,h1,h2,h3⟩:=get (i:=i) t (by simpa using e)
  exact⟨a,r,h1,h2,by simpa using h3⟩
theorem row:∀ {xs:List V} {rs:List (List Int)} {i:Nat} {r:List Int},RowsL K H xs rs→rs[i]?=some r→∃ a,xs[i]?=some (.ref a)∧SqT K H a (r.map V.int)
 | _,_,_,_,.nil,h=>by simp at h
 | _,_,0,_,.cons (a:=a) (r:=r) h _,e=>by
  simp at e
  subst e
  exact⟨a,rfl,h⟩
 | _,_,i+1,_,.cons _ t,e=>by
  obtain ⟨a,h1,h2⟩:=row (i:=i) t (by simpa using e)
  exact⟨a,by simpa using h1,h2⟩
theorem same:∀ {xs:List V} {rs:List (List Int)},RowsL K H xs rs→Same H H'→RowsL K H' xs rs
 | _,_,.nil,_=>.nil
 | _,_,.cons h t,s=>.cons (s.at h) (t.same s)
theorem append:∀ {xs ys:List V} {rs qs:List (List Int)},RowsL K H xs rs→RowsL K H ys qs→RowsL K H (xs++ys) (rs++qs)
 | _,_,_,_,.nil,u=>u
 | _,_,_,_,.cons h t,u=>.cons h (t.append u)
theorem snoc {xs:List V} {rs:List (List Int)} {a:Addr} {r:List Int} (t:RowsL K H xs rs) (h:SqT K H a (r.map V.int)):RowsL K H (xs++[.ref a]) (rs++[r]):=t.append (.cons h .nil)
theorem off {l:Addr} {ys zs:List V}:∀ {xs:List V} {rs:List (List Int)},RowsL K H xs rs→H l=some (.lst ys)→RowsL K (upd H l (.lst zs)) xs rs
 | _,_,.nil,_=>.nil
 | _,_,.cons h t,e=>.cons ((rm_sqT h e).imp (fun q=>q.imp (fun q=>by rw [upd_ne (fun z=>by rw [z,rm_at] at q;cases q)];exact rm_same _ _ q) fun ⟨o,q⟩=>⟨o,by rw [upd_ne (fun z=>by rw [z,rm_at] at q;cases q)];exact rm_same _ _ q⟩) id) (t.off e)
theorem take:∀ {xs:List V} {rs:List (List Int)} (n:Nat),RowsL K H xs rs→RowsL K H (xs.take n) (rs.take n)
 | _,_,0,_=>.nil
 | _,_,_+1,.nil=>.nil
 | _,_,n+1,.cons h t=>.cons h (t.take n)
theorem drop:∀ {xs:List V} {rs:List (List Int)} (n:Nat),RowsL K H xs rs→RowsL K H (xs.drop n) (rs.drop n)
 | _,_,0,t=>t
 | _,_,_+1,.nil=>.nil
 | _,_,n+1,.cons _ t=>t.drop n
theorem tells:∀ {xs:List V} {rs:List (List Int)},RowsL K H xs rs→Tells K H xs (rs.map fun r=>.tuple (r.map PyData.int))
 | _,_,.nil=>.nil
 | _,_,.cons h t=>.cons (Tell.row h) t.tells
end RowsL
theorem upd_sqT {K:PySem.W.Frag} {H:Hp} {l a:Addr} {xs ys zs:List V} (h:SqT K H a xs) (e:H l=some (.lst ys)):SqT K (upd H l (.lst zs)) a xs :=
 (rm_sqT h e).imp (fun q=>q.imp (fun q=>by rw [upd_ne (fun z=>by rw [z,rm_at] at q;cases q)];exact rm_same _ _ q) fun ⟨o,q⟩=>⟨o,by rw [upd_ne (fun z=>by rw [z,rm_at] at q;cases q)];exact rm_same _ _ q⟩) id
section
variable {K:PySem.W.Frag} {H:Hp} {σ:St} {Q:VK} {ix:List (Option Nat)}
theorem comp_rows {J:It} {g:TG} {tt:TT} {te:TE} (t:Nat) (fr:St) (n:Nat) (rs:Nat→List (List Int)) (hpk:pick ix σ=List.replicate t none++fr) (h0:rs 0=[]) (hn:∀ i,(rs i).length≤1000)
  (hstop:∀ H',Same H H'→J.stop n H') (hgo:∀ i H',i<n→Same H H'→J.go i H')
  (step:∀ i x H' H2 own,own.length=t→i<n→Same H H'→J.yld i H' x H2→∀ (Qy:St→VK) (Qn:St→Hp→Prop),
   (∀ own2 a r H5,own2.length=t→Same H' H5→SqT K H5 a (r.map V.int)→rs (i+1)=rs i++[r]→Qy (own2++fr) (.ref a) H5)→(∀ own2 H4,own2.length=t→Same H' H4→rs (i+1)=rs i→Qn (own2++fr) H4) →
   g x (own++fr) H2 fun σ2 H3=>tt σ2 H3 fun b H4=>if b=true then te σ2 H4 (Qy σ2) else Qn σ2 H4)
  (hQ:∀ l H' ys,H l=none→Same H H'→H' l=some (.lst ys)→RowsL K H' ys (rs n)→Q (.ref l) H'):CompGoal ix g tt te σ Q J H:=by
 intro l hl
 refine⟨fun i m σ1 ys H'=>m=n - i∧i≤n∧(∃ own:St,own.length=t∧σ1=own++fr)∧Same H H'∧H' l=some (.lst ys)∧RowsL K H' ys (rs i),⟨n,by simp,Nat.zero_le _,⟨_,List.length_replicate,hpk⟩,Same.upd_new hl,upd_same,by rw [h0];exact .nil⟩,?_⟩
 rintro i m σ1 ys H' ⟨rfl,hi,⟨own,ho,rfl⟩,hs,hl',hr⟩
 refine⟨hl',?_⟩
 by_cases hlt:i<n
 ·refine .inr ⟨hgo i H' hlt hs,n - (i+1),by lia,fun x H2 hy=>step i x H' H2 own ho hlt hs hy _ _ (fun own2 a r H5 ho2 s5 ha er=>?_) fun own2 H4 ho2 s4 er=>?_⟩
  ·have l5:=s5 _ _ hl'
   refine⟨l5,Nat.lt_of_le_of_lt (by rw [← hr.length];exact hn i) (small1000 (Nat.le_refl 1000)),rfl,hlt,⟨own2,ho2,rfl⟩,fun b o e=>?_,upd_same,?_⟩
   ·rw [upd_ne (ne_of_none e hl)]
    exact s5 _ _ (hs _ _ e)
   ·rw [er]
    exact ((hr.same s5).off l5).snoc (upd_sqT ha l5)
  ·exact⟨rfl,hlt,⟨own2,ho2,rfl⟩,hs.trans s4,s4 _ _ hl',by rw [er];exact hr.same s4⟩
 ·obtain rfl:i=n:=by lia
  exact .inl ⟨hstop H' hs,hQ l H' ys hl hs hl' hr⟩
end
end L2
namespace L2
open PySem PySem.Spec PyProof.Rows PySem.W
section
variable {M:Model} {A:Around} {E:Value→Shared→Prop} {s:Shared}
theorem entry_one {base:Heap} {env:Env} {outer:List Env} {L e:Addr} {oe:Obj} {vs:Array Value} {head:Value} {hadNext:Bool} {Q:Unit→Shared→Prop}
  (hfr:A.frames=some (env::outer)) (hl:s.heap.FunFrames base (env::outer)) (hf:env.frame=some L) (he:s.heap.get? e=some oe) (hd:oe.data=.fields vs) (hsz:1<vs.size)
  (h:∀ h' T,(∀ b o,b≠e→b∉frs (env::outer)→s.heap.get? b=some o→h'.get? b=some o)→(∀ b o,b≠e→s.heap.get? b=some o→∃ sl,h'.get? b=some { o with slots:=sl }) →
   s.heap.get? T=none→T≠e→h'.get? e=some (oe.mapFields (·.setIfInBounds 1 (.ref T)))→(∃ oT ts,h'.get? T=some oT∧oT.data=.fields ts∧ts[3]?=some (rawInt L))→Q () { s with heap:=h' }) :
  wpAny M A (do let a ← frameOf env;let pl ← entryPlaceOf L hadNext;let b ← EntryCells.newEntry head a .none (rawInt L) .none pl;setField (.ref e) 1 b) Q E s:=by
 have hene:e∉(env::outer).filterMap (·.frame):=fun hm=>by
  obtain ⟨_,o,ho,hnf⟩:=hl.mem hm
  rw [he] at ho;injection ho with ho;subst ho;exact hnf vs hd
 refine wpAny_bind (wpAny_frameOf_fun hfr hl hf fun h₁ hs₁=>wpAny_bind (wpAny_entryPlaceOf fun pl hpl=>?_))
 unfold EntryCells.newEntry newFields
 refine wpAny_bind (wpAny_newObj_type ?_ (hpl.sizeOk5 _ _ _ _ _))
 have he₁:h₁.get? e=some oe:=(hs₁.2.1 e hene).trans he
 obtain ⟨tb,etb⟩:∃ tb:Obj,tb={ cls:=.type "traceback",dict:=none,data:=.fields ([head,.ref L,.none,rawInt L,.none]++(if pl.isEmpty then List.replicate 6 Value.none else pl)).toArray }:=⟨_,rfl⟩
 have htd:∃ ts,tb.data=.fields ts∧ts[3]?=some (rawInt L):=by rw [etb];exact⟨_,rfl,by simp⟩
 have hnf:tb.isFreed=false:=by rw [etb];rfl
 show wpAny M A (setField (.ref e) 1 (.ref h₁.objs.size)) Q E { s with heap:=h₁.push _ }
 rw [← etb]
 have he₂:=Heap.get?_push_of_some (h:=h₁) tb he₁
 have hTe:h₁.objs.size≠e:=Nat.ne_of_gt (Heap.lt_size he₁)
 refine wpAny_setField he₂ hd hsz (h _ h₁.objs.size (fun b o hbe hbf hb=>?_) (fun b o hbe hb=>?_) (Heap.get?_none_of_le (by rw [hs₁.1];exact Nat.le_refl _)) hTe (Heap.get?_update_self _ he₂ (Obj.isFreed_of_fields (Obj.data_mapFields hd _))) ?_)
 ·rw [Heap.get?_update_other _ _ (Ne.symm hbe)]
  exact Heap.get?_push_of_some _ ((hs₁.2.1 b hbf).trans hb)
 ·obtain ⟨sl,hs⟩:=hs₁.2.2 b o hb
  exact⟨sl,by rw [Heap.get?_update_other _ _ (Ne.symm hbe)];exact Heap.get?_push_of_some _ hs⟩
 ·obtain ⟨ts,q1,q2⟩:=htd
  exact⟨tb,ts,(Heap.get?_update_other _ _ (Ne.symm hTe)).trans (Heap.get?_push_size h₁ hnf),q1,q2⟩
theorem note_one {base:Heap} {env:Env} {outer:List Env} {L e:Addr} {oe:Obj} {vs:Array Value} {T0:Option Addr} {Q:Unit→Shared→Prop}
  (hfr:A.frames=some (env::outer)) (hl:s.heap.FunFrames base (env::outer)) (hf:env.frame=some L) (he:s.heap.get? e=some oe) (hd:oe.data=.fields vs) (hh:HeadOk s.heap e vs T0)
  (h:∀ h' T,(∀ b o,b≠e→some b≠T0→b∉frs (env::outer)→s.heap.get? b=some o→h'.get? b=some o)→(∀ b o,b≠e→some b≠T0→s.heap.get? b=some o→∃ sl,h'.get? b=some { o with slots:=sl }) →
   s.heap.get? T=none→T≠e→h'.get? e=some (oe.mapFields (·.setIfInBounds 1 (.ref T)))→(∃ oT ts,h'.get? T=some oT∧oT.data=.fields ts∧ts[3]?=some (rawInt L))→Q () { s with heap:=h' }) :
  wpAny M A (noteFrame (.ref e) env) Q E s:=by
 unfold noteFrame
 simp only [hf]
 cases T0 with
 | none =>
  have h1:vs[1]?=some .none:=hh
  refine wpAny_bind (wpAny_field he hd h1 ?_)
  rw [if_neg (by decide)]
  exact entry_one hfr hl hf he hd (Array.getElem?_eq_some_iff.mp h1).1 fun h' T k1 k2 k3 k4 k5 k6=>h h' T (fun b o b1 _ b3 b4=>k1 b o b1 b3 b4) (fun b o b1 _ b3=>k2 b o b1 b3) k3 k4 k5 k6
 | some T =>
  obtain ⟨h1,hTe,oT,ts,hT,hdT,h3⟩:=hh
  refine wpAny_bind (wpAny_field he hd h1 ?_)
  rw [if_pos (show (Value.ref T != Value.none)=true from by simp)]
  refine wpAny_bind (wpAny_field hT hdT h3 ?_)
  rw [if_neg (show ¬ ((Value.none == rawInt L)=true) from by simp [rawInt])]
  refine wpAny_bind (wpAny_setField hT hdT (Array.getElem?_eq_some_iff.mp h3).1 ?_)
  have other:∀ b,b≠T→(s.heap.update T (Obj.mapFields (·.setIfInBounds 3 Value.none))).get? b=s.heap.get? b:=fun b hb=>Heap.get?_update_other _ _ (Ne.symm hb)
  have noRecord:∀ b o,s.heap.get? b=some o→(∀ vs,o.data≠.fields vs)→b≠T:=fun b o hb hnf q=>by
   rw [q,hT] at hb;injection hb with hb;subst hb;exact hnf ts hdT
  have hT2:=Heap.get?_update_self (Obj.mapFields (·.setIfInBounds 3 Value.none)) hT (Obj.isFreed_of_fields (Obj.data_mapFields hdT _))
  refine entry_one hfr (hl.of_keeps fun b o hb hnf=>⟨o,(other b (noRecord b o hb hnf)).trans hb,rfl⟩) hf ((other e (Ne.symm hTe)).trans he) hd (Array.getElem?_eq_some_iff.mp h1).1 fun h' T' k1 k2 k3 k4 k5 k6=>?_
  refine h h' T' (fun b o b1 b2 b3 b4=>k1 b o b1 b3 ((other b fun z=>b2 (by rw [z])).trans b4)) (fun b o b1 b2 b4=>k2 b o b1 ((other b fun z=>b2 (by rw [z])).trans b4)) ?_ k4 k5 k6
  by_cases hq:T'=T
  ·rw [hq,hT2] at k3;cases k3
  ·rw [other T' hq] at k3;exact k3
theorem flight_to {e T:Addr} {oe oT:Obj} {vs ts:Array Value} {fl:Option Addr} {Q:Unit→Shared→Prop} (he:s.heap.get? e=some oe) (hd:oe.data=.fields vs) (h1:vs[1]?=some (.ref T)) (hT:s.heap.get? T=some oT) (hdT:oT.data=.fields ts) (h3:3<ts.size)
  (h:∀ h',(∀ b o,b≠T→s.heap.get? b=some o→h'.get? b=some o)→(∃ oT ts,h'.get? T=some oT∧oT.data=.fields ts∧ts[3]?=some (fl.elim .none fun f=>rawInt f))→Q () { s with heap:=h' }):wpAny M A (setFlight (.ref e) fl) Q E s:=by
 unfold setFlight
 refine wpAny_bind (wpAny_field he hd h1 ?_)
 rw [if_pos (show (Value.ref T != Value.none)=true from by simp)]
 refine wpAny_setField hT hdT h3 (h _ (fun b o hb e=>(Heap.get?_update_other _ _ (Ne.symm hb)).trans e) ⟨_,_,Heap.get?_update_self _ hT (Obj.isFreed_of_fields (Obj.data_mapFields hdT _)),Obj.data_mapFields hdT _,?_⟩)
 simp [h3]
theorem note_no {env:Env} {L e T:Addr} {oe oT:Obj} {vs ts:Array Value} {Q:Unit→Shared→Prop} (hf:env.frame=some L) (he:s.heap.get? e=some oe) (hd:oe.data=.fields vs) (h1:vs[1]?=some (.ref T)) (hT:s.heap.get? T=some oT) (hdT:oT.data=.fields ts) (h3:ts[3]?=some (rawInt L)) (h:Q () s) :
  wpAny M A (noteFrame (.ref e) env) Q E s:=by
 unfold noteFrame
 simp only [hf]
 refine wpAny_bind (wpAny_field he hd h1 ?_)
 rw [if_pos (show (Value.ref T != Value.none)=true from by simp)]
 refine wpAny_bind (wpAny_field hT hdT h3 ?_)
 rw [if_pos (by simp)]
 exact wpAny_pure h
end
noncomputable def ExcM (h:Heap) (H:Hp) (h0:Heap) (ps:List (Addr×Obj)) (L a C:Addr):Prop:=∃ oe vs T oT ts,h.get? a=some oe∧oe.cls=.ref C∧oe.dict=none∧oe.data=.fields vs∧1<vs.size∧vs[1]?=some (.ref T)∧T≠a∧h.get? T=some oT∧oT.data=.fields ts∧ts[3]?=some (rawInt L) ∧
 H a=none∧(h0.get? a=none∧∀ p∈ps,p.1≠a)∧H T=none∧h0.get? T=none∧∀ p∈ps,p.1≠T
noncomputable def XM (X:Cx) (EX:EXT):Value→Shared→Prop:=fun e s'=>∃ a C σ' H',e=.ref a∧Inv X.nox [] σ' H' s'∧ExcM s'.heap H' X.s₀.heap X.pn X.env.locals a C∧EX C σ' H'
noncomputable def XP (X:Cx) (EX:EXT):Value→Shared→Prop:=fun e s'=>XW X EX e s'∨XM X EX e s'
section
variable {X:Cx} {EX:EXT} {σ:St} {H:Hp} {s:Shared}
theorem Inv.mark {T:Addr} {oT:Obj} {ts:Array Value} {h':Heap} (I:Inv X [] σ H s) (hT:s.heap.get? T=some oT) (hdT:oT.data=.fields ts) (n1:H T=none) (n2:X.s₀.heap.get? T=none) (n3:∀ p∈X.pn,p.1≠T) (f1:∀ b o,b≠T→s.heap.get? b=some o→h'.get? b=some o) (f2:∃ o,h'.get? T=some o) :
  Inv X [] σ H { s with heap:=h' }:=by
 obtain ⟨m1,m2,m3⟩:=I.recd hT hdT
 have hok2:HOk X.prog X.w H h':=I.hok.off (ch:=[T]) (fun b hb=>by rw [show b=T by simpa using hb];exact n1) fun b o hb q=>f1 b o (by simpa using hb) q
 refine Inv.step2 (s:=s) (h':=h') (t':=s.toks) (ch:=[T]) I (fun b hb=>?_) (fun b o b1 b2 b3 e _=>f1 b o (by simpa using b3) e) (fun b o b1 b2 b3 e _=>⟨o.slots,f1 b o (by simpa using b3) e⟩) (fun b o _ _ n=>n) (fun b o b3 e=>⟨o,f1 b o (by simpa using b3) e⟩) (fun b xs e=>e) (fun b o u e=>e) (fun b ps e=>⟨#[],by rw [e];simp⟩) (fun m hm=>?_) hok2
 ·obtain rfl:b=T:=by simpa using hb
  exact⟨n2,m1,m2,fun p hp=>n3 p (by simpa using hp)⟩
 ·obtain ⟨o,es,ep,ho,hd',r⟩:=hm
  exact⟨o,es,ep,f1 _ o (fun z=>m1 z.symm) ho,hd',r⟩
theorem passes_XP (hst:X.stack=X.env::X.outer) (hfr:X.env.frame=some X.env.locals) (hex:X.ex=[]):PassesOwn (model X.prog X.w) X.A X.env (XP X EX):=by
 rintro e s' (h|h)
 ·obtain ⟨a,C,σ',H',rfl,I0,⟨oe,vs,T0,he,hc,hdi,hd,hsz,hh,hHa,⟨h0a,hpa⟩,hT'⟩,hE⟩:=h
  have fr1:X.nox.A.frames=some (X.env::X.outer):=by rw [← hst];exact I0.ok.frames
  refine note_one (base:=X.base) (L:=X.env.locals) fr1 (hst ▸ I0.stack) hfr he hd hh fun h1 T k1 k2 k3 k4 k5 k6=>?_
  obtain ⟨n1,n2,n3⟩:=I0.recd he hd
  have t1:∀ T',T0=some T'→∃ oT ts,s'.heap.get? T'=some oT∧oT.data=.fields ts:=fun T' z=>by
   subst z
   obtain ⟨_,_,oT,ts,q1,q2,_⟩:=hh
   exact⟨oT,ts,q1,q2⟩
  have fsub:∀ b,b∈frs (X.env::X.outer)→b=X.env.locals∨b∈X.fs:=fun b hb=>by
   rcases List.mem_cons.mp (I0.stkSub b (hst ▸ hb)) with z|z
   ·exact .inl z
   ·exact .inr z
  have off:Off (a::(T0.toList++frs (X.env::X.outer))) s'.heap h1:=fun b o hb q=>by
   simp only [List.mem_cons,List.mem_append,not_or] at hb
   exact k1 b o hb.1 (fun z=>hb.2.1 (by rw [← z];simp)) hb.2.2 q
  have hok1:HOk X.prog X.w H' h1:=I0.hok.off (fun b hb=>by
   simp only [List.mem_cons,List.mem_append] at hb
   rcases hb with rfl|hb|hb
   ·exact hHa
   ·cases T0 with
    | none=>simp at hb
    | some T1 =>
     simp only [Option.toList_some,List.mem_singleton] at hb
     rw [hb];exact (hT' T1 rfl).1
   ·exact I0.stkFree b (hst ▸ hb)) off
  have nT0:∀ b,b∉(a::T0.toList)→b≠a∧some b≠T0:=fun b hb=>by
   simp only [List.mem_cons,not_or] at hb
   exact⟨hb.1,fun z=>hb.2 (by rw [← z];simp)⟩
  have I2:Inv X.nox [] σ' H' { s' with heap:=h1 }:=by
   refine I0.step2 (h':=h1) (t':=s'.toks) (ch:=a::T0.toList) (fun b hb=>?_) (fun b o b1 b2 b3 e _=>?_) (fun b o b1 b2 b3 e _=>?_) (fun b o _ _ n=>n) (fun b o b3 e=>?_) (fun b xs e=>e) (fun b o u e=>e) (fun b ps e=>⟨#[],by rw [e];simp⟩) (fun m hm=>?_) hok1
   ·rcases List.mem_cons.mp hb with rfl|hb
    ·exact⟨h0a,n1,n2,fun p hp=>hpa p (by simpa using hp)⟩
    ·cases T0 with
     | none=>simp at hb
     | some T1 =>
      simp only [Option.toList_some,List.mem_singleton] at hb
      subst hb
      obtain ⟨oT,ts,q1,q2⟩:=t1 _ rfl
      obtain ⟨m1,m2,m3⟩:=I0.recd q1 q2
      exact⟨(hT' _ rfl).2.1,m1,m2,fun p hp=>(hT' _ rfl).2.2 p (by simpa using hp)⟩
   ·refine k1 b o (nT0 b b3).1 (nT0 b b3).2 (fun z=>?_) e
    rcases fsub b z with q|q
    ·exact b1 q
    ·exact b2 q
   ·exact k2 b o (nT0 b b3).1 (nT0 b b3).2 e
   ·obtain ⟨sl,q⟩:=k2 b o (nT0 b b3).1 (nT0 b b3).2 e
    exact⟨_,q⟩
   ·obtain ⟨o,es,ep,ho,hd',r⟩:=hm
    obtain ⟨sl,q⟩:=k2 _ o (fun z=>n1 z.symm) (fun z=>by
     obtain ⟨oT,ts,q1,q2⟩:=t1 _ z.symm
     exact (I0.recd q1 q2).1 rfl) ho
    exact⟨_,es,ep,q,hd',r⟩
  have T2:H' T=none:=I0.hok.free k3
  have T3:X.s₀.heap.get? T=none:=by
   cases q:X.s₀.heap.get? T with
   | none=>rfl
   | some o =>
    obtain ⟨o',q1⟩:=I0.base.there T o q (by show T∉X.ex;rw [hex];simp)
    rw [k3] at q1;cases q1
  have T4:∀ p∈X.pn,p.1≠T:=fun p hp z=>by
   have:=(I0.pin p (List.mem_append_left _ hp)).1
   rw [z,k3] at this;cases this
  obtain ⟨oT,ts,hT1,hT2,hT3⟩:=k6
  have hd5:=Obj.data_mapFields hd (·.setIfInBounds 1 (Value.ref T))
  have h15:(vs.setIfInBounds 1 (Value.ref T))[1]?=some (.ref T):=by simp [hsz]
  unfold cameBackBy
  refine wpAny_bind (wpAny_field k5 hd5 h15 ?_)
  rw [if_neg (by simp)]
  rw [hfr]
  refine flight_to k5 hd5 h15 hT1 hT2 (Array.getElem?_eq_some_iff.mp hT3).1 fun h2 f1 f2=>.inr ?_
  obtain ⟨oT',ts',q1,q2,q3⟩:=f2
  refine⟨a,C,σ',H',rfl,Inv.mark (s:={ s' with heap:=h1 }) I2 hT1 hT2 T2 T3 T4 f1 ⟨_,q1⟩,⟨_,_,T,oT',ts',f1 _ _ (Ne.symm k4) k5,(Obj.cls_mapFields _ _).trans hc,(mapFields_dict _ _).trans hdi,hd5,by simpa using hsz,h15,k4,q1,q2,q3,hHa,⟨h0a,hpa⟩,T2,T3,T4⟩,hE⟩
 ·obtain ⟨a,C,σ',H',rfl,I0,⟨oe,vs,T,oT,ts,he,hc,hdi,hd,hsz,h1,hTa,hT,hdT,h3,hHa,⟨h0a,hpa⟩,T2,T3,T4⟩,hE⟩:=h
  refine note_no hfr he hd h1 hT hdT h3 ?_
  unfold cameBackBy
  refine wpAny_bind (wpAny_field he hd h1 ?_)
  rw [if_neg (by simp)]
  rw [hfr]
  refine flight_to he hd h1 hT hdT (Array.getElem?_eq_some_iff.mp h3).1 fun h2 f1 f2=>.inr ?_
  obtain ⟨oT',ts',q1,q2,q3⟩:=f2
  exact⟨a,C,σ',H',rfl,Inv.mark I0 hT hdT T2 T3 T4 f1 ⟨_,q1⟩,⟨oe,vs,T,oT',ts',f1 _ _ (Ne.symm hTa) he,hc,hdi,hd,hsz,h1,hTa,q1,q2,q3,hHa,⟨h0a,hpa⟩,T2,T3,T4⟩,hE⟩
end
theorem leavesP {P:Program} {w:World} {K:PySem.W.Frag} {mg:Str→Option Value} {base:Heap} {N:List Str} {qual:Str} {scope:Scope} {f:Addr} {cd:Value} {A:Around} {outer:List Env} {s:Shared} {H:Hp} {E:XK} {e:Value} {s':Shared}
  (h:XP (cxOf (CX1 P w) P w K mg base N qual scope f cd A outer s H E) (fun C _ H'=>E (.ref C) none H') e s'):(cxOf (CX1 P w) P w K mg base N qual scope f cd A outer s H E).xe e s':=by
 rcases h with h|h
 ·exact leaves h
 obtain ⟨a,C,σ',H',rfl,I,⟨oe,vs,T,oT,ts,he,hc,hdi,hd,hsz,h1,hTa,hT,hdT,h3,hHa,⟨h0a,hpa⟩,T2,T3,T4⟩,hE⟩:=h
 have h0a':s.heap.get? a=none:=h0a
 have T3':s.heap.get? T=none:=T3
 show wpAny (model P w) (A.deeper (envOfC qual scope s.heap.objs.size f cd)) (leaving (envOfC qual scope s.heap.objs.size f cd) (.ref a)) _ _ s'
 unfold leaving
 refine wpAny_bind (note_no (L:=s.heap.objs.size) rfl he hd h1 hT hdT h3 (flight_to (fl:=none) he hd h1 hT hdT (Array.getElem?_eq_some_iff.mp h3).1 fun h' f1 f2=>?_))
 have neT:∀ b o,s.heap.get? b=some o→b≠T:=fun b o q z=>by rw [z,T3'] at q;cases q
 refine⟨a,C,H',rfl,I.os,I.bare,⟨fun b o q n hb hx=>f1 b o (neT b o q) (I.base.keep b o q n hb hx),fun b o q n hb hx=>?_,fun b o q n hx=>I.base.free b o q n hx,fun b o q hx=>?_,I.base.tups,I.base.frzs,I.base.tbls⟩,I.hok.off (ch:=[T]) (fun b hb=>by rw [show b=T by simpa using hb];exact T2) fun b o hb q=>f1 b o (by simpa using hb) q,?_,hE⟩
 ·obtain ⟨sl,q1⟩:=I.base.slot b o q n hb hx
  exact⟨sl,f1 _ _ (neT b o q) q1⟩
 ·obtain ⟨o',q1⟩:=I.base.there b o q hx
  exact⟨o',f1 _ _ (neT b o q) q1⟩
 ·exact⟨oe,vs,some T,f1 _ _ (Ne.symm hTa) he,hc,hdi,hd,hsz,⟨h1,hTa,f2⟩,hHa,⟨h0a',fun _ z=>nomatch z⟩,fun T' e=>by cases e;exact⟨T2,T3',fun _ z=>nomatch z⟩⟩
section
variable {P:Program} {w:World} {K:PySem.W.Frag} {mg:Str→Option Value} {base:Heap}
theorem Def.okP {x:Str} {st:Stmt} {N ps:List Str} {k:Nat} {sp:Sp} (D:Def K mg x st ps) (S:FnScope N ps (defScope st)) (len:∀ vs H Q E,sp vs H Q E→vs.length=ps.length)
  (hbody:∀ (f:Addr) (cdv:Value) (A:Around) (outer:List Env) (s:Shared) (H:Hp) (vs:List V) (Q:VK) (E:XK),Room k (A.deeper (envOfC x (defScope st) s.heap.objs.size f cdv))→sp vs H Q E →
   ∃ t,PSs ((cxOf (CX1 P w) P w K mg base N x (defScope st) f cdv A outer s H E).wish (XP (cxOf (CX1 P w) P w K mg base N x (defScope st) f cdv A outer s H E) fun C _ H'=>E (.ref C) none H')) (defBody st) t∧t { nx:=fun _ H'=>Q .non H',rt:=Q } (start N vs) H):OkX P w K mg base (k+1) x ps sp:=by
 obtain ⟨f,fd,F,hm,hb⟩:=D
 obtain ⟨oc,od,kV,doc,pm,an,cdv,ct,osl,rfl,lk,hcd⟩:=F.ex
 refine⟨f,_,fn_of lk hcd S len fun A outer s H vs Q E hr hsp=>?_,hm,F.kp,hb⟩
 obtain ⟨t,h,q⟩:=hbody f cdv A outer s H vs Q E hr hsp
 exact⟨t,h.xe fun e s z=>leavesP z,q⟩
end
end L2
set_option maxRecDepth 100000
namespace L2
open PySem PySem.Spec PyProof.Rows
noncomputable def rInD (K:PySem.W.Frag) (neg:Bool):R2:=fun x y H Q=>∃ (p:Addr) (ys:List V) (d:PyData) (ds:List PyData),y=.ref p∧SqL K H p ys∧Tells K H ys ds∧Tell K H x d∧PyData.canLayAll0 ds=true∧d.canLay0=true∧d.depth≤60∧Q (.bl (if neg then !ds.any fun z=>PyData.eqv z d else ds.any fun z=>PyData.eqv z d)) H
noncomputable def rInsert:V→List V→Hp→VK→Prop:=fun x vs H Q=>∃ (l:Addr) (xs:List V) (i:Nat) (y:V),x=.ref l∧vs=[.int i,y]∧H l=some (.lst xs)∧xs.length≤1000∧i≤1000∧Q .non (upd H l (.lst (xs.take i++y::xs.drop i)))
section
variable {X:Cx}
theorem op_notInD (hu:X.A.units+64<cLine):OpR X (compareOp .NotIn) (rInD X.K true):=by
 intro pins s σ H x y v u Q I rx ry h
 obtain ⟨p,ys,d,ds,rfl,hs,ht,hd,c1,c2,hz,q⟩:=h
 obtain ⟨as,ra⟩:=(Tell.lst hs ht).reads I ry
 obtain ⟨bs,rb⟩:=hd.reads I rx
 exact SeqAt.notIn_list_reads ra rb c1 c2 (by have:=Nat.min_le_right (PyData.depthAll ds) d.depth;lia) ⟨.bl _,H,I,rfl,q⟩
theorem kop_notInD (K:PySem.W.Frag) (hK:X.K=K) (hu:X.A.units+64<cLine):OpR X (compareOp .NotIn) (rInD K true):=hK ▸ op_notInD hu
theorem ins_arr (its:List Value) (i:Nat) (u:Value):(fun xs:Array Value=>have k:=if (i:Int)<0 then ((i:Int)+(xs.size:Int)).toNat else min (i:Int).toNat xs.size;(xs.extract 0 k).push u++xs.extract k) its.toArray=(its.take i++u::its.drop i).toArray:=by
 have h0:¬ (i:Int)<0:=by lia
 simp only [h0,if_false,Int.toNat_natCast,List.size_toArray]
 apply Array.ext'
 simp only [Array.toList_append,Array.toList_push,Array.toList_extract,List.extract_eq_take_drop,Nat.sub_zero,List.drop_zero,List.size_toArray]
 by_cases h:i≤its.length
 ·rw [Nat.min_eq_left h]
  rw [List.take_of_length_le (l:=its.drop i) (by rw [List.length_drop];lia)]
  simp
 ·have h':its.length≤i:=by lia
  rw [Nat.min_eq_right h',List.take_of_length_le (l:=its) (Nat.le_refl _),List.take_of_length_le (l:=its) h',List.drop_of_length_le (Nat.le_refl _),List.drop_of_length_le h']
  simp
theorem mt_insert:MtM X "list.insert" rInsert:=by
 intro pins s σ H x vs v us Q I rx rv h
 obtain ⟨l,xs,i,y,rfl,rfl,hH,hz,hi,q⟩:=h
 cases rx
 obtain ⟨ui,u,rfl,ri,ru⟩:=vals2 rv
 obtain ⟨t,rfl⟩:=ri
 obtain ⟨z,its,n,r,hl,e⟩:=I.lstM hH
 have hlen:=r.length
 have e64:Builtin.List.listFitsIndex (i:Int)=true:=by
  unfold Builtin.List.listFitsIndex
  simp only [Bool.and_eq_true,decide_eq_true_eq]
  lia
 refine call_meets F.slot_list_insert ⟨_,e,rfl⟩ F.entry_list_insert (F.args_list_insert_3 _ _ _) (@AutoSeq1.list_insert_list_int_val_1 l its.toArray n (i:Int) t u (by rw [e64];decide) (by rw [List.size_toArray,← hlen];exact Nat.le_of_lt (small1000 hz))) ⟨e,?_⟩
 refine⟨.non,_,I.lset (its':=its.take i++u::its.drop i) hH e (ins_arr its i u) ((r.take i).append (.cons ru (r.drop i))) ?_,rfl,q⟩
 simp only [List.length_append,List.length_cons,List.length_take,List.length_drop]
 have:xs.length+1≤sizeLine:=Nat.succ_le_of_lt (small1000 hz)
 lia
end
section
variable {K:PySem.W.Frag} {H:Hp} {Q:VK} {σ:St}
theorem r_notInD {x:V} {p:Addr} {ys:List V} {d:PyData} {ds:List PyData} (hs:SqL K H p ys) (ht:Tells K H ys ds) (hd:Tell K H x d) (c1:PyData.canLayAll0 ds=true) (c2:d.canLay0=true) (hz:d.depth≤60) (h:Q (.bl (!ds.any fun z=>PyData.eqv z d)) H):rInD K true x (.ref p) H Q:=⟨p,ys,d,ds,rfl,hs,ht,hd,c1,c2,hz,h⟩
theorem r_insert {l:Addr} {xs:List V} {i:Nat} {y:V} (e:H l=some (.lst xs)) (n:xs.length≤1000) (hi:i≤1000) (h:Q .non (upd H l (.lst (xs.take i++y::xs.drop i)))):rInsert (.ref l) [.int i,y] H Q:=⟨l,xs,i,y,rfl,rfl,e,n,hi,h⟩
theorem eqv_ints:∀ (r q:List Int),PyData.eqvAll (r.map PyData.int) (q.map PyData.int)=decide (r=q)
 | [],[]=>rfl
 | [],_::_=>rfl
 | _::_,[]=>rfl
 | x::r,y::q=>by
  have h:=eqv_ints r q
  simp only [List.map_cons,PyData.eqvAll,h,PyData.eqv]
  by_cases e:x=y
  ·subst e;by_cases e2:r=q <;> simp [e2]
  ·simp [e]
theorem eqv_row (r q:List Int):PyData.eqv (.tuple (r.map PyData.int)) (.tuple (q.map PyData.int))=decide (r=q):=by
 rw [← eqv_ints r q]
 simp [PyData.eqv]
theorem any_rows (rs:List (List Int)) (q:List Int):((rs.map fun r=>PyData.tuple (r.map PyData.int)).any fun z=>PyData.eqv z (.tuple (q.map PyData.int)))=decide (q∈rs):=by
 rw [List.any_map]
 rw [Bool.eq_iff_iff,List.any_eq_true,decide_eq_true_eq]
 constructor
 ·rintro ⟨r,hr,e⟩
  have e':PyData.eqv (.tuple (r.map PyData.int)) (.tuple (q.map PyData.int))=true:=e
  rw [eqv_row,decide_eq_true_eq] at e'
  exact e' ▸ hr
 ·intro h
  exact⟨q,h,by show PyData.eqv (.tuple (q.map PyData.int)) (.tuple (q.map PyData.int))=true;rw [eqv_row];simp⟩
theorem lay_ints:∀ r:List Int,PyData.canLayAll0 (r.map PyData.int)=true
 | []=>rfl
 | _::r=>by simp only [List.map_cons,PyData.canLayAll0,lay_ints r,PyData.canLay0,Bool.and_self]
theorem lay_row (r:List Int):PyData.canLay0 (.tuple (r.map PyData.int))=true:=by simp only [PyData.canLay0,lay_ints]
theorem lay_rows:∀ rs:List (List Int),PyData.canLayAll0 (rs.map fun r=>.tuple (r.map PyData.int))=true
 | []=>rfl
 | r::rs=>by simp only [List.map_cons,PyData.canLayAll0,lay_rows rs,lay_row,Bool.and_self]
theorem deep_ints:∀ r:List Int,PyData.depthAll (r.map PyData.int)≤1
 | []=>by simp [PyData.depthAll]
 | _::r=>by
  have:=deep_ints r
  simp only [List.map_cons,PyData.depthAll,PyData.depth]
  lia
theorem deep_row (r:List Int):PyData.depth (.tuple (r.map PyData.int))≤2:=by
 have:=deep_ints r
 simp only [PyData.depth]
 lia
theorem shaped_row (r:List Int):SeqAt.shaped (.tuple (r.map PyData.int))=true:=by
 unfold SeqAt.shaped
 rw [lay_row,decide_eq_true (Nat.le_trans (deep_row r) (by decide))];rfl
end
end L2
set_option maxRecDepth 100000
namespace L2
open PySem PySem.Spec PyProof.Rows PySem.W
noncomputable abbrev clr (A:Around):Around:={ A with handled:=none }
noncomputable abbrev RoomH (k:Nat) (A:Around):Prop:=Room k (clr A)
noncomputable abbrev cxH (CX:CXT) (P:Program) (w:World) (K:Frag) (mg:Str→Option Value) (base:Heap) (N:List Str) (qual:Str) (scope:Scope) (f:Addr) (cd:Value) (A:Around) (outer:List Env) (s:Shared) (H:Hp) (E:XK):Cx :=
 { cxOf CX P w K mg base N qual scope f cd A outer s H E with calm:=false }
theorem Env0.clr {P:Program} {w:World} {K:Frag} {mg:Str→Option Value} {base:Heap} {A:Around} {outer:List Env} {s:Shared} {H:Hp} (e:Env0 P w K mg base A outer s H):Env0 P w K mg base (clr A) outer s H :=
 ⟨e.frames,e.mod,e.bs,e.bsz,e.funs,e.frf,e.hok,e.bare⟩
theorem inv_startH {CX:CXT} {P:Program} {w:World} {K:Frag} {mg:Str→Option Value} {base:Heap} {N ps:List Str} {qual:Str} {scope:Scope} {f:Addr} {cd:Value} {A:Around} {outer:List Env} {s s1:Shared} {H:Hp} {E:XK} {us:List Value} {vs:List V}
  (S:FnScope N ps scope) (e0:Env0 P w K mg base A outer s H) (hl:vs.length=ps.length) (r:Vals vs us)
  (x:InCallC s s.heap.objs.size (bindL (envOfC qual scope s.heap.objs.size f cd).kindOf (ps.zip us) fun _=>none) (cellsFrom (s.heap.objs.size+1) scope.names []) (bindC (envOfC qual scope s.heap.objs.size f cd).kindOf (ps.zip us) fun _=>none) s1) :
  Inv (cxH CX P w K mg base N qual scope f cd A outer s H E) [] (start N vs) H s1:=by
 have I:=inv_start (CX:=CX) (E:=E) (A:=clr A) S rfl e0.clr hl r x
 exact⟨⟨I.ok.mod,I.ok.kind,I.ok.glob,I.ok.blt,I.ok.above,I.ok.inj,I.ok.has,I.ok.cab,(fun z=>nomatch z),Around.frames_deeper e0.frames,I.ok.stk,I.ok.exf,I.ok.bs,I.ok.bsz,I.ok.noex,I.ok.exfs,I.ok.funs,I.ok.frf⟩,I.os,I.bare,I.base,I.loc,I.cell,I.free,I.freeC,I.pin,I.hok,I.len⟩
theorem Room.toH {j k:Nat} {A:Around} {h:Option Value} (r:Room k A) (hjk:j≤k):RoomH j (A.mark h):=⟨rfl,(r.mono hjk).dp,(r.mono hjk).un⟩
structure FnOkH (P:Program) (w:World) (K:Frag) (mg:Str→Option Value) (base:Heap) (CX:CXT) (k:Nat) (f:Addr) (fd:FuncData) (ps:List Str) (sp:Sp):Prop where
 len:∀ vs H Q E,sp vs H Q E→vs.length=ps.length
 run:∀ (A:Around) (outer:List Env) (s:Shared) (H:Hp) (args:Args) (us:List Value) (vs:List V) (Q:VK) (E:XK),RoomH k A→Env0 P w K mg base A outer s H→BindsTo s fd args (ps.zip us)→Vals vs us→sp vs H Q E →
  codeAny (model P w) A (.call (.ref f) args) (CR CX outer P w H s Q E) s
theorem fn_ofH {CX:CXT} {P:Program} {w:World} {K:Frag} {mg:Str→Option Value} {base:Heap} {k:Nat} {f:Addr} {name qual:Str} {params:Arguments} {body:List Stmt} {scope:Scope} {dV kV doc pm cdv ct oc:Value} {an od:Option Addr}
  {osl:Array (Option Value)} {N ps:List Str} {sp:Sp} (lk:K.lookup f=some ⟨oc,od,.func (fnOf name qual params body scope dV kV doc pm an cdv ct),osl⟩) (hcd:codeIn K cdv qual=true) (S:FnScope N ps scope)
  (len:∀ vs H Q E,sp vs H Q E→vs.length=ps.length)
  (hbody:∀ (A:Around) (outer:List Env) (s:Shared) (H:Hp) (vs:List V) (Q:VK) (E:XK),RoomH k (A.deeper (envOfC qual scope s.heap.objs.size f cdv))→sp vs H Q E →
   ∃ t,PSs (cxH CX P w K mg base N qual scope f cdv A outer s H E) body t∧t { nx:=fun _ H'=>Q .non H',rt:=Q } (start N vs) H) :
  FnOkH P w K mg base CX (k+1) f (fnOf name qual params body scope dV kV doc pm an cdv ct) ps sp:=by
 refine⟨len,fun A outer s H args us vs Q E hr e0 hb r hsp=>?_⟩
 have hl:=len _ _ _ _ hsp
 have inn:K.In s.heap:=e0.mod.kin.keeps fun b o e=>(e0.bs b o e).1
 have lim:s.heap.NoLimit:=e0.mod.nolimit.keeps fun b o e=>(e0.bs b o e).1
 have kinds:∀ y∈ps.zip us,scope.names.lookup y.1=some .local∨(scope.names.lookup y.1=some .cell∧((cellsFrom (s.heap.objs.size+1) scope.names []).lookup y.1).isSome=true):=fun ⟨n,v⟩ hy =>
  (S.par n (List.of_mem_zip hy).1).imp id fun q=>⟨q,cellsFrom_some _ _ _ (.inl q)⟩
 have dep:A.depth<recursionLimit:=hr.depth
 refine codeAny_call_function dep (inn _ _ lk) rfl S.co S.gen rfl (codeRec_of inn hcd) (hb _ _ _ _ (wpAny_newFunctionEnv_cells S.kind kinds fun env he s1 x=>?_))
 subst he
 obtain ⟨t,ht,hq⟩:=hbody A outer s H vs Q E (hr.deeper _) hsp
 have I:Inv (cxH CX P w K mg base N qual scope f cdv A outer s H E) [] (start N vs) H s1:=inv_startH S e0 hl r x
 refine⟨lim.keeps x.toInCall.keep,codeAny_func (wpAny_mono (ht [] s1 (start N vs) H _ I hq) (fun fl s' hs=>?_) fun e s' hs=>hs)⟩
 have fin:∀ {σ':St} {H':Hp} {v:V} {u:Value},Inv (cxH CX P w K mg base N qual scope f cdv A outer s H E) [] σ' H' s'→RelV v u→Q v H'→CE outer P w H s Q u s':=fun J rv q=>⟨_,_,J.os,J.bare,J.base,J.hok,rv,q⟩
 cases fl with
 | ret u =>
  obtain ⟨v,σ',H',J,rv,q⟩:=hs
  exact fin J rv q
 | next =>
  obtain ⟨σ',H',J,q⟩:=hs
  exact fin (v:=V.non) (u:=Value.none) J rfl q
 | brk=>exact hs.elim fun _ z=>z.elim fun _ z=>z.2.elim
 | cont=>exact hs.elim fun _ z=>z.elim fun _ z=>z.2.elim
noncomputable def OkH (P:Program) (w:World) (K:Frag) (mg:Str→Option Value) (base:Heap) (k:Nat) (x:Str) (ps:List Str) (sp:Sp):Prop :=
 ∃ f fd,FnOkH P w K mg base CX0 k f fd ps sp∧mg x=some (.ref f)∧keepIn K (.ref f)=true∧Binds K fd ps []
section
variable {P:Program} {w:World} {K:Frag} {mg:Str→Option Value} {base:Heap}
theorem Def.okH {x:Str} {st:Stmt} {N ps:List Str} {k:Nat} {sp:Sp} (D:Def K mg x st ps) (S:FnScope N ps (defScope st)) (len:∀ vs H Q E,sp vs H Q E→vs.length=ps.length)
  (hbody:∀ (f:Addr) (cdv:Value) (A:Around) (outer:List Env) (s:Shared) (H:Hp) (vs:List V) (Q:VK) (E:XK),RoomH k (A.deeper (envOfC x (defScope st) s.heap.objs.size f cdv))→sp vs H Q E →
   ∃ t,PSs (cxH CX0 P w K mg base N x (defScope st) f cdv A outer s H E).nox (defBody st) t∧t { nx:=fun _ H'=>Q .non H',rt:=Q } (start N vs) H):OkH P w K mg base (k+1) x ps sp:=by
 obtain ⟨f,fd,F,hm,hb⟩:=D
 obtain ⟨oc,od,kV,doc,pm,an,cdv,ct,osl,rfl,lk,hcd⟩:=F.ex
 refine⟨f,_,fn_ofH lk hcd S len fun A outer s H vs Q E hr hsp=>?_,hm,F.kp,hb⟩
 obtain ⟨t,h,q⟩:=hbody f cdv A outer s H vs Q E hr hsp
 exact⟨t,h.nox,q⟩
end
section
variable {X:Cx} {EX:EXT} {k:Nat} {x:Str} {ps:List Str} {sp:Sp} {p pos:Pos} {e:Expr} {es:List Expr} {t:TA} {ds:List Value} {dvs:List V}
theorem pcallH (O:OkH X.prog X.w X.K X.mg X.base k x ps sp) (hr:RoomH k X.A) (ha:PA X (e::es) t) (hg:Gl X x:=by rfl)
  (hdb:(x == ("__debug__":Str))=false:=by decide) (he:starEach (e::es) X.env=(false,eval e X.env)::starEach es X.env:=by rfl) (hpl:(backTo pos (starEach es X.env)).any (·.1)=false:=by rfl) :
  PE X (.Call (.Name x p) (e::es) [] pos) (tCall sp [] E0 t):=by
 obtain ⟨f,fd,F,hm,hk,hb⟩:=O
 intro pins s σ H Q I h
 refine wpAny_Call_Name_kw (ld_glob I hg hm ?_ hdb)
 refine callWith_K (h₀:=X.base) I.ok.mod.kin hk (thn (ha pos pins s σ H _ I h) fun us s1 ⟨vs,H1,I1,r,q⟩=>⟨I1.kIn,?_⟩) he hpl
 have r2:Vals (vs++[]) (us++[]):=r.append .nil
 have hl:(us++[]).length=ps.length:=by rw [← r2.length];exact F.len _ _ _ _ q
 refine wpAny_call (codeAny_mono (F.run X.A X.stack s1 H1 ⟨us,[]⟩ (us++[]) (vs++[]) Q E0 hr I1.env0 (hb s1 us I1.kIn hl) r2 q) fun r s' hq=>?_)
 cases r with
 | error e=>exact False.elim hq
 | ok fl =>
  cases fl with
  | ret u=>exact I1.after hq
  | next=>exact False.elim hq
  | brk=>exact False.elim hq
  | cont=>exact False.elim hq
end
end L2
set_option maxRecDepth 100000
namespace L2
open PySem PySem.Spec PyProof.Rows
section
variable {κ:Type} [DecidableEq κ]
noncomputable def valV (kvs:List (κ×V)) (k:κ):Option V:=(kvs.find? fun kv=>decide (kv.1=k)).map (·.2)
noncomputable def putK (kvs:List (κ×V)) (k:κ) (v:V):List (κ×V) :=
 if (kvs.any fun kv=>decide (kv.1=k))=true then kvs.map (fun kv=>if kv.1=k then (kv.1,v) else kv) else kvs++[(k,v)]
theorem valV_pos {p:κ×V} {r:List (κ×V)} {k:κ} (e:p.1=k):valV (p::r) k=some p.2:=by simp [valV,List.find?_cons,e]
theorem valV_neg {p:κ×V} {r:List (κ×V)} {k:κ} (e:¬ p.1=k):valV (p::r) k=valV r k:=by simp [valV,List.find?_cons,e]
theorem valV_any (k:κ):∀ kvs:List (κ×V),(kvs.any fun kv=>decide (kv.1=k))=(valV kvs k).isSome
 | []=>rfl
 | p::r=>by
  rw [List.any_cons]
  by_cases e:p.1=k
  ·simp only [valV_pos e,decide_eq_true e,Bool.true_or,Option.isSome_some]
  ·rw [valV_neg e,decide_eq_false e,Bool.false_or];exact valV_any k r
theorem length_putK (kvs:List (κ×V)) (k:κ) (v:V):(putK kvs k v).length≤kvs.length+1:=by
 unfold putK
 split
 ·rw [List.length_map];lia
 ·rw [List.length_append,List.length_cons,List.length_nil];lia
theorem RelO.isSome_eq {o:Option V} {u:Option Value} (r:RelO o u):o.isSome=u.isSome:=by
 cases o with
 | none=>cases u with
  | none=>rfl
  | some _=>exact (show False from r).elim
 | some _=>cases u with
  | none=>exact (show False from r).elim
  | some _=>rfl
theorem KV.val {kvs:List (κ×V)} {vs:List (κ×Value)} (r:KV kvs vs) (k:κ):RelO (valV kvs k) (valueAt vs k):=by
 unfold KV at r
 induction r with
 | nil=>exact True.intro
 | @cons p q ps qs h t ih =>
  obtain ⟨h1,h2⟩:=h
  by_cases e:p.1=k
  ·have e':q.1=k:=h1.symm.trans e
   have b:valueAt (q::qs) k=some q.2:=by simp [valueAt,List.find?_cons,e']
   rw [valV_pos e,b];exact h2
  ·have e':¬ q.1=k:=fun z=>e (h1.trans z)
   have b:valueAt (q::qs) k=valueAt qs k:=by simp [valueAt,List.find?_cons,e']
   rw [valV_neg e,b];exact ih
theorem KV.any {kvs:List (κ×V)} {vs:List (κ×Value)} (r:KV kvs vs) (k:κ):(kvs.any fun kv=>decide (kv.1=k))=vs.any fun kv=>decide (kv.1=k):=by
 unfold KV at r
 induction r with
 | nil=>rfl
 | cons h t ih=>rw [List.any_cons,List.any_cons,ih,h.1]
theorem KV.repl {kvs:List (κ×V)} {vs:List (κ×Value)} (r:KV kvs vs) (k:κ) {y:V} {u:Value} (ry:RelV y u) :
  KV (kvs.map fun kv=>if kv.1=k then (kv.1,y) else kv) (vs.map fun kv=>if kv.1=k then (kv.1,u) else kv):=by
 unfold KV at r ⊢
 induction r with
 | nil=>exact .nil
 | @cons p q ps qs h t ih =>
  rw [List.map_cons,List.map_cons]
  refine .cons ?_ ih
  obtain ⟨h1,h2⟩:=h
  by_cases e:p.1=k
  ·rw [if_pos e,if_pos (h1.symm.trans e)];exact⟨h1,ry⟩
  ·rw [if_neg e,if_neg (fun z=>e (h1.trans z))];exact⟨h1,h2⟩
theorem KV.put {kvs:List (κ×V)} {vs:List (κ×Value)} (r:KV kvs vs) (k:κ) {y:V} {u:Value} (ry:RelV y u):KV (putK kvs k y) (stored vs k u):=by
 unfold putK stored
 rw [r.any k]
 by_cases e:(vs.any fun kv=>decide (kv.1=k))=true
 ·rw [if_pos e,if_pos e];exact r.repl k ry
 ·rw [if_neg e,if_neg e];exact Paired.snoc r ⟨rfl,ry⟩
theorem KV.length {kvs:List (κ×V)} {vs:List (κ×Value)} (r:KV kvs vs):kvs.length=vs.length:=Paired.length r
end
theorem kV_is {P:Program} {w:World} {k:Key} {u:Value} (r:RelV (kV k) u):(mixKind P w).is k u=true:=by
 cases k with
 | inl i=>obtain ⟨t,e⟩:=(show ∃ t,u=Value.int i t from r);subst e;exact mixKind_int P w i t
 | inr x=>obtain ⟨t,e⟩:=(show ∃ t,u=Value.str x t from r);subst e;exact mixKind_str P w x t
theorem items_are {P:Program} {w:World}:∀ {ks:List Key} {us:List Value},Vals (ks.map kV) us→ItemsAre (mixKind P w) ks us
 | [],_,r=>by rw [List.map_nil] at r;cases r;exact .nil
 | k::ks,_,r=>by
  rw [List.map_cons] at r
  cases r with
  | cons h t=>exact .cons (kV_is h) (items_are t)
noncomputable abbrev KT (H:Hp):List (List Key×V)→List (List Key×Addr×Value)→Prop:=Paired fun p q=>p.1=q.1∧H q.2.1=some (.tup (p.1.map kV))∧RelV p.2 q.2.2
theorem KT.val {H:Hp} {kvs:List (List Key×V)} {xs:List (List Key×Addr×Value)} (r:KT H kvs xs) (k:List Key):RelO (valV kvs k) ((atKey xs k).map (·.2)):=by
 induction r with
 | nil=>exact True.intro
 | @cons p q ps qs h t ih =>
  obtain ⟨h1,_,h2⟩:=h
  by_cases e:p.1=k
  ·have e':q.1=k:=h1.symm.trans e
   have b:atKey (q::qs) k=some q.2:=by simp [atKey,List.find?_cons,e']
   rw [valV_pos e,b];exact h2
  ·have e':¬ q.1=k:=fun z=>e (h1.trans z)
   have b:atKey (q::qs) k=atKey qs k:=by simp [atKey,List.find?_cons,e']
   rw [valV_neg e,b];exact ih
theorem KT.repl {H:Hp} {kvs:List (List Key×V)} {xs:List (List Key×Addr×Value)} (r:KT H kvs xs) (k:List Key) {y:V} {u:Value} (ry:RelV y u) :
  KT H (kvs.map fun kv=>if kv.1=k then (kv.1,y) else kv) (xs.map (putAt k u)):=by
 induction r with
 | nil=>exact .nil
 | @cons p q ps qs h t ih =>
  rw [List.map_cons,List.map_cons]
  refine .cons ?_ ih
  obtain ⟨h1,h2,h3⟩:=h
  unfold putAt
  by_cases e:p.1=k
  ·rw [if_pos e,if_pos (h1.symm.trans e)];exact⟨h1,h2,ry⟩
  ·rw [if_neg e,if_neg (fun z=>e (h1.trans z))];exact⟨h1,h2,h3⟩
theorem KT.put {H:Hp} {kvs:List (List Key×V)} {xs:List (List Key×Addr×Value)} (r:KT H kvs xs) (k:List Key) {b:Addr} {y:V} {u:Value} (hb:H b=some (.tup (k.map kV))) (ry:RelV y u) :
  KT H (putK kvs k y) (storedH xs k b u):=by
 have e:(kvs.any fun kv=>decide (kv.1=k))=(atKey xs k).isSome:=by
  rw [valV_any,(r.val k).isSome_eq,Option.isSome_map]
 unfold putK storedH
 rw [e]
 by_cases q:(atKey xs k).isSome=true
 ·rw [if_pos q,if_pos q];exact r.repl k ry
 ·rw [if_neg q,if_neg q];exact Paired.snoc r ⟨rfl,hb,ry⟩
theorem KT.keeps {H H':Hp} {kvs:List (List Key×V)} {xs:List (List Key×Addr×Value)} (r:KT H kvs xs) (ht:∀ b ys,H b=some (.tup ys)→H' b=some (.tup ys)):KT H' kvs xs :=
 Paired.mapP r fun _ _ z=>⟨z.1,ht _ _ z.2.1,z.2.2⟩
section
variable {P:Program} {w:World} {H:Hp} {h:Heap} {a:Addr}
theorem rd_of {u:HO} (ok:HOk P w H h) (e:Rd H a u):ObjOk P w H h a u:=e.ok ok
theorem dk_rd {kvs:List (Key×V)} (ok:HOk P w H h) (e:Rd H a (.dK kvs)):kvs.length≤sizeLine∧(a == sysModules)=false∧∃ vs,KV kvs vs∧h.DictOf (mixKind P w) a vs :=
 show ObjOk P w H h a (.dK kvs) from rd_of ok e
theorem dk_of {kvs:List (Key×V)} (ok:HOk P w H h) (e:H a=some (.dK kvs)):kvs.length≤sizeLine∧(a == sysModules)=false∧∃ vs,KV kvs vs∧h.DictOf (mixKind P w) a vs:=dk_rd ok (.inl e)
theorem key_of {ks:List Key} (ok:HOk P w H h) (e:H a=some (.tup (ks.map kV))):(tupleKind (mixKind P w)).is h ks a:=by
 obtain ⟨_,its,r,o,h1,h2,n,h3⟩:=(show ObjOk P w H h a (.tup (ks.map kV)) from ok a _ e)
 exact⟨o,its.toArray,n,h1,h2,h3,by simpa using items_are r⟩
theorem dt_rd {kvs:List (List Key×V)} (ok:HOk P w H h) (e:Rd H a (.dT kvs)):kvs.length≤sizeLine∧(a == sysModules)=false ∧
  ∃ xs,KT H kvs xs∧h.DictOfH (tupleKind (mixKind P w)) a xs:=by
 obtain ⟨z,y,xs,r,o,es,ep,h1,h2,h3,h4,h5⟩:=(show ObjOk P w H h a (.dT kvs) from rd_of ok e)
 refine⟨z,y,xs,r,o,es,ep,h1,h2,h3,h4,fun x hx=>?_,h5⟩
 have all:∀ {l:List (List Key×V)} {m:List (List Key×Addr×Value)},KT H l m→∀ x∈m,(tupleKind (mixKind P w)).is h x.1 x.2.1:=by
  intro l m q
  induction q with
  | nil=>intro x hx;exact nomatch hx
  | @cons p q ps qs hq t ih =>
   intro x hx
   rcases List.mem_cons.mp hx with e|hx
   ·subst e
    exact key_of ok (by rw [← hq.1];exact hq.2.1)
   ·exact ih x hx
 exact all r x hx
theorem dt_of {kvs:List (List Key×V)} (ok:HOk P w H h) (e:H a=some (.dT kvs)):kvs.length≤sizeLine∧(a == sysModules)=false ∧
  ∃ xs,KT H kvs xs∧h.DictOfH (tupleKind (mixKind P w)) a xs:=dt_rd ok (.inl e)
end
noncomputable def DPut (H:Hp) (a:Addr) (y v:V) (H':Hp):Prop :=
 (∃ kvs k,H a=some (.dK kvs)∧y=kV k∧kvs.length<sizeLine∧H'=upd H a (.dK (putK kvs k v))) ∨
 ∃ kvs k b,H a=some (.dT kvs)∧y=.ref b∧H b=some (.tup (k.map kV))∧kvs.length<sizeLine∧H'=upd H a (.dT (putK kvs k v))
theorem DPut.t {H:Hp} {a b:Addr} {kvs:List (List Key×V)} {k:List Key} {v:V} (e:H a=some (.dT kvs)) (eb:H b=some (.tup (k.map kV))) (hl:kvs.length<sizeLine) :
  DPut H a (.ref b) v (upd H a (.dT (putK kvs k v))):=.inr ⟨kvs,k,b,e,rfl,eb,hl,rfl⟩
section
variable {X:Cx} {pins:List (Addr×Obj)} {σ:St} {H:Hp} {s:Shared} {a:Addr} {y v:V} {u r:Value} {o:Option V} {A:Around} {E:Value→Shared→Prop}
theorem Inv.big (I:Inv X pins σ H s):sysModules<s.heap.objs.size:=by
 have h:mainGlobals<s.heap.objs.size:=(I.mod.glob.keeps I.bk).lt
 exact Nat.lt_trans (by decide) h
theorem d_write {h':Heap} {t':Nat} {ob:HO} (I:Inv X pins σ H s) (mu:Mut (H a)) (hs:Heap.SameBut a s.heap h') (he:∃ q,h'.get? a=some q) (new:ObjOk X.prog X.w (upd H a ob) h' a ob) :
  Inv X pins σ (upd H a ob) { s with heap:=h',toks:=t' } :=
 I.write (x:=a) (e:=a) mu (.inl rfl) (fun b q hb z=>(hs.2 b hb).trans z) he new
theorem dk_new {P:Program} {w:World} {H':Hp} {h':Heap} {kvs:List (Key×V)} {vs:List (Key×Value)} (z:kvs.length≤sizeLine) (hd:(a == sysModules)=false) (rel:KV kvs vs) (dd:h'.DictOf (mixKind P w) a vs) :
  ObjOk P w H' h' a (.dK kvs):=⟨z,hd,vs,rel,dd⟩
theorem d_setItem {H':Hp} {Q:Unit→Shared→Prop} (hu:A.units+1<cLine) (I:Inv X pins σ H s) (g:DPut H a y v H') (ry:RelV y u) (rv:RelV v r) (h:∀ s',Inv X pins σ H' s'→Q () s') :
  wpAny (model X.prog X.w) A (setItem (.ref a) u r) Q E s:=by
 rcases g with ⟨kvs,k,e,ey,l,eH⟩|⟨kvs,k,b,e,ey,eb,l,eH⟩
 ·subst ey eH
  obtain ⟨z,hd,vs,rel,dd⟩:=dk_of I.hok e
  have hz:vs.length≤sizeLine:=by rw [← rel.length];exact z
  have hl:(putK kvs k v).length≤sizeLine:=by have:=length_putK kvs k v;lia
  refine wpAny_setItem_pairs (hsz:=hz) (kV_is ry) dd fun h' dd' hs=>h _ ?_
  have he:∃ q,h'.get? a=some q:=let ⟨q,_,_,hq,_⟩:=dd';⟨q,hq⟩
  exact d_write I (by rw [e];exact True.intro) hs he (dk_new hl hd (rel.put k rv) dd')
 ·subst ey eH
  cases (show u=Value.ref b from ry)
  obtain ⟨z,hd,xs,rel,dd⟩:=dt_of I.hok e
  have hz:xs.length≤sizeLine:=by rw [← Paired.length rel];exact z
  have hl:(putK kvs k v).length≤sizeLine:=by have:=length_putK kvs k v;lia
  refine wpAny_setItem_heap (hsz:=hz) (tupleKind_room_in1 hu) (key_of I.hok eb) dd fun h' dd' hs=>h _ ?_
  obtain ⟨q,es,ep,hq,h2,h3,h4,_,h5⟩:=dd'
  refine d_write I (by rw [e];exact True.intro) hs ⟨q,hq⟩ ⟨hl,hd,_,(rel.put k eb rv).keeps fun c ys ec=>?_,q,es,ep,hq,h2,h3,h4,h5⟩
  rw [upd_ne (ne_of ec e (fun z=>nomatch z))]
  exact ec
end
noncomputable def sDPut (td ty tv:TE):TS:=fun D σ H=>tv σ H fun v H1=>td σ H1 fun x H2=>ty σ H2 fun y H3=>∃ a H4,x=.ref a∧DPut H3 a y v H4∧D.nx σ H4
section
variable {X:Cx} {o i e value:Expr} {pos pos' tpos:Pos} {td ty tv:TE}
theorem ps_dput (hu:X.A.units+1<cLine) (ho:PE X o td) (hi:PE X i ty) (hv:PE X value tv) (hs:swapsWith value (some (.Subscript o i pos')) pos.line X.env=pure false) :
  PS X (.Assign [.Subscript o i pos'] value pos) (sDPut td ty tv):=by
 intro pins s σ H D I h
 refine wpAny_Assign_Subscript (thn (hv pins s σ H _ I h) fun r s1 ⟨v,H1,I1,rv,q1⟩=>thn (ho pins s1 σ H1 _ I1 q1) fun u s2 ⟨x,H2,I2,rx,q2⟩=>thn (hi pins s2 σ H2 _ I2 q2) fun iv s3 ⟨y,H3,I3,ry,a,H4,ex,g,q3⟩=>?_) hs
 subst ex
 obtain rfl:u=Value.ref a:=rx
 exact d_setItem hu I3 g ry rv fun s4 I4=>⟨σ,H4,I4,q3⟩
end
theorem dt_empty {P:Program} {w:World} {H:Hp} (h:Heap) (hb:sysModules<h.objs.size):ObjOk P w H (h.push { cls:=.type "dict",data:=.dict #[] }) h.objs.size (.dT []) :=
 ⟨Nat.zero_le _,beq_eq_false_iff_ne.mpr (Ne.symm (Nat.ne_of_lt hb)),[],.nil,_,#[],0,Heap.get?_push_size _ rfl,⟨rfl,rfl,rfl⟩,rfl,rfl,List.nodup_nil⟩
noncomputable def tDNewT:TE:=fun _ H Q=>∀ p,H p=none→Q (.ref p) (upd H p (.dT []))
section
variable {X:Cx} {pos:Pos}
theorem pe_dnewT:PE X (.Dict [] [] pos) tDNewT:=fun pins s σ H Q I h =>
 wpAny_Dict_empty ⟨.ref s.heap.objs.size,_,I.laid (a:=s.heap.objs.size) (o:=.dT []) (t':=s.toks) (fun _ _ q=>Heap.get?_push_of_some _ q) (Nat.le_refl _) (dt_empty s.heap I.big),rfl,h _ (I.hok.fresh (Nat.le_refl _))⟩
end
end L2
set_option maxRecDepth 100000
namespace L2
open PySem PySem.Spec PyProof.Rows PySem.W
noncomputable def RawD (h:Heap) (d:Addr) (es:Array DictEntry) (ep:Nat):Prop:=∃ o,h.get? d=some o∧o.ExactDict∧o.data=.dict es ep
theorem RawD.stay {h h':Heap} {d:Addr} {es:Array DictEntry} {ep:Nat} (x:RawD h d es ep) (k:∀ o,h.get? d=some o→h'.get? d=some o):RawD h' d es ep:=let ⟨o,e,r⟩:=x;⟨o,k o e,r⟩
section
variable {prog:Program} {w:World} {A:Around} {E:Value→Shared→Prop} {s:Shared} {d I:Addr} {es:Array DictEntry} {ep i:Nat}
theorem RawD.ty (x:RawD s.heap d es ep):s.TypeIs (.ref d) "dict":=let ⟨o,e,c,_⟩:=x;⟨o,e,c.1⟩
theorem raw_iter {Q:Value→Shared→Prop} (lo:(d == sysModules)=false) (x:RawD s.heap d es ep)
  (hQ:Q (.ref s.heap.objs.size) { s with heap:=s.heap.push { cls:=.type "dict_keyiterator",data:=.fields #[.ref d,.int 0 0,.int es.size 0,.int ep 0] } }):wpAny (model prog w) A (pyIter (.ref d)) Q E s:=by
 have ty:=x.ty
 obtain ⟨o,e,_,dat⟩:=x
 refine wpAny_pyIter_slot ty F.slot_dict_iter (wpAny_call_entry F.slot_dict_iter ty F.entry_dict_iter ?_ (F.args_dict_iter_1 _))
 unfold Builtin.«dict.__iter__» Builtin.Dict.dictSlotNone
 refine wpAny_bind (wpAny_bind (wpAny_notOrdered_dict ty ?_))
 show wpAny _ _ (pure (Value.ref d)) _ _ s
 refine wpAny_pure (?_:wpAny _ _ (Builtin.Dict.showsAll d >>= _) _ _ s)
 unfold Builtin.Dict.showsAll
 rw [if_neg (by rw [lo];exact Bool.false_ne_true)]
 refine wpAny_bind (wpAny_pure (wpAny_bind (wpAny_dictEntries e dat (wpAny_bind (wpAny_dictEpoch e dat ?_)))))
 refine wpAny_bind (wpAny_newObj_type (wpAny_pure ⟨_,rfl,"dict_keyiterator",_,⟨_,Heap.get?_push_size _ rfl,rfl⟩,F.slot_dict_keyiterator_next.lookup,?_⟩))
 simpa [rawInt] using hQ
theorem raw_next {Q:Option Value→Shared→Prop} (it:s.heap.IsKeyIter I d i es.size ep) (x:RawD s.heap d es ep) (lt:i<es.size)
  (hQ:∀ h',h'.IsKeyIter I d (i+1) es.size ep→Heap.SameBut I s.heap h'→Q (some es[i].key) { s with heap:=h' }):wpAny (model prog w) A (pyNext (.ref I)) Q E s:=by
 have ty:=it.typeIs
 obtain ⟨o,e,c,f⟩:=id it
 obtain ⟨od,ed,_,dat⟩:=x
 unfold pyNext
 refine wpAny_bind (wpAny_attempt (wpAny_callSpecial?_slot (name:=Str.ofString "__next__") ty F.slot_dict_keyiterator_next (wpAny_call_entry F.slot_dict_keyiterator_next ty F.entry_dict_keyiterator_next ?_ (F.args_dict_keyiterator_next_1 _))))
 refine wpAny_bind (wpAny_pure (wpAny_bind (wpAny_bind ?_)))
 first|refine wpAny_bind (wpAny_typeNameOfWhole_keyiter ty (wpAny_pure (wpAny_bind (wpAny_fieldsOf e f ?_))))|refine wpAny_bind (wpAny_typeNameOf_keyiter ty (wpAny_pure (wpAny_bind (wpAny_fieldsOf e f ?_))))
 simp only [show Builtin.Dict_items.ownsTuple "dict_keyiterator"=false by decide,Bool.false_eq_true,if_false]
 show wpAny _ _ (if (Value.ref d == Value.none)=true then _ else _) _ _ _
 rw [if_neg (show ¬ (Value.ref d == Value.none)=true from Bool.false_ne_true)]
 refine wpAny_bind (wpAny_pure (wpAny_bind (wpAny_dictEntries ed dat ?_)))
 rw [if_neg (by simp)]
 refine wpAny_bind (wpAny_pure (wpAny_bind (wpAny_dictEpoch ed dat ?_)))
 rw [if_neg (by simp)]
 refine wpAny_pure ?_
 simp only [show ¬ (i:Int)<0 by lia,if_false,Int.toNat_natCast,Array.getElem?_eq_getElem lt]
 refine wpAny_bind ?_
 first|refine wpAny_bind (wpAny_typeNameOfWhole_keyiter ty (wpAny_pure (wpAny_bind (wpAny_isOneOf_keyiter ty ?_))))|refine wpAny_bind (wpAny_typeNameOf_keyiter ty (wpAny_pure (wpAny_bind (wpAny_isOneOf_keyiter ty ?_))))
 show wpAny _ _ (setField (.ref I) 1 (rawInt ((i:Int)+1)) >>= _) _ _ _
 refine wpAny_bind (wpAny_setField e f (by simp) ?_)
 obtain ⟨g,eg⟩:∃ g,g=s.heap.update I (Obj.mapFields (·.setIfInBounds 1 (rawInt ((i:Int)+1)))):=⟨_,rfl⟩
 have it':g.IsKeyIter I d (i+1) es.size ep:=by
  rw [eg]
  exact⟨_,Heap.get?_update_self _ e (Obj.isFreed_of_fields (Obj.data_mapFields f _)),(Obj.cls_mapFields ..).trans c,by rw [Obj.data_mapFields f];simp [rawInt]⟩
 have sb:Heap.SameBut I s.heap g:=by rw [eg];exact Heap.SameBut.update ..
 rw [← eg]
 refine wpAny_bind (wpAny_holding (wpAny_bind (wpAny_isOneOf_keyiter (s:={ s with heap:=g }) it'.typeIs ?_)))
 show wpAny _ _ (pure es[i].key) _ _ _
 exact wpAny_pure (wpAny_pure ⟨_,rfl,wpAny_pure (hQ g it' sb)⟩)
theorem raw_end {Q:Option Value→Shared→Prop} (hh:A.handled=none) (it:s.heap.IsKeyIter I d i es.size ep) (x:RawD s.heap d es ep) (ge:es.size≤i)
  (hQ:∀ h',Heap.ExtBut I s.heap h'→Q none { s with heap:=h' }):wpAny (model prog w) A (pyNext (.ref I)) Q E s:=by
 have ty:=it.typeIs
 obtain ⟨o,e,c,f⟩:=id it
 obtain ⟨od,ed,_,dat⟩:=x
 unfold pyNext
 refine wpAny_bind (wpAny_attempt (wpAny_callSpecial?_slot (name:=Str.ofString "__next__") ty F.slot_dict_keyiterator_next (wpAny_call_entry F.slot_dict_keyiterator_next ty F.entry_dict_keyiterator_next ?_ (F.args_dict_keyiterator_next_1 _))))
 refine wpAny_bind (wpAny_pure (wpAny_bind (wpAny_bind ?_)))
 first|refine wpAny_bind (wpAny_typeNameOfWhole_keyiter ty (wpAny_pure (wpAny_bind (wpAny_fieldsOf e f ?_))))|refine wpAny_bind (wpAny_typeNameOf_keyiter ty (wpAny_pure (wpAny_bind (wpAny_fieldsOf e f ?_))))
 simp only [show Builtin.Dict_items.ownsTuple "dict_keyiterator"=false by decide,Bool.false_eq_true,if_false]
 show wpAny _ _ (if (Value.ref d == Value.none)=true then _ else _) _ _ _
 rw [if_neg (show ¬ (Value.ref d == Value.none)=true from Bool.false_ne_true)]
 refine wpAny_bind (wpAny_pure (wpAny_bind (wpAny_dictEntries ed dat ?_)))
 rw [if_neg (by simp)]
 refine wpAny_bind (wpAny_pure (wpAny_bind (wpAny_dictEpoch ed dat ?_)))
 rw [if_neg (by simp)]
 refine wpAny_pure ?_
 simp only [show ¬ (i:Int)<0 by lia,if_false,Int.toNat_natCast,Array.getElem?_eq_none ge]
 refine wpAny_bind ?_
 first|refine wpAny_bind (wpAny_typeNameOfWhole_keyiter ty (wpAny_pure ?_))|refine wpAny_bind (wpAny_typeNameOf_keyiter ty (wpAny_pure ?_))
 show wpAny _ _ (setField (.ref I) 0 .none >>= _) _ _ _
 refine wpAny_bind (wpAny_setField e f (by simp) (?_:wpAny _ _ (newExc (.type "StopIteration") [] >>= _) _ _ _))
 refine wpAny_bind ?_
 simp only [newExc,newTuple]
 refine wpAny_bind (wpAny_newObj_type (wpAny_bind (m:=firstArgMember _ _) (wpAny_of_eq (a:=Value.none) (by first|rfl|(simp only [firstArgMember];rfl)) (wpAny_newObj_type ?_ (by size_fits)))) (by size_fits))
 simp only [raiseNew]
 refine wpAny_bind (wpAny_handled ?_)
 rw [show A.in1.handled=none from hh]
 refine wpAny_bind <| wpAny_pure <| wpAny_throw ?_
 exact wpAny_bind (wpAny_isInstance (T:="StopIteration") (b:=true) ⟨_,Heap.get?_push_size _ rfl,rfl⟩ isSubtype_stop (wpAny_pure (hQ _ (((Heap.SameBut.update ..).extBut.push _).push _))))
theorem raw_walks (hh:A.handled=none) (I d:Addr) (ne:d≠I) (es:Array DictEntry) (ep:Nat) :
  Walks prog w A I [I,d] [I] es.size (fun i v=>∃ h:i<es.size,v=es[i].key) (fun i h=>h.IsKeyIter I d i es.size ep∧RawD h d es ep) where
 sub:=fun b hb=>by simp at hb;simp [hb]
 frame:=fun _ _ _ st k=>⟨st.1.at fun o e=>k I (by simp) o e,st.2.stay fun o e=>k d (by simp) o e⟩
 item:=fun i s Q E hi st hQ=>raw_next st.1 st.2 hi fun h' it' sb=>hQ _ h' s.toks ⟨hi,rfl⟩ ⟨it',st.2.stay fun o e=>(sb.2 _ ne).trans e⟩ fun b o hb e=>sb.extBut b o (fun z=>hb (by simp [z])) e
 done:=fun s Q E st hQ=>raw_end hh st.1 st.2 (Nat.le_refl _) fun h' x=>hQ h' s.toks fun b o hb e=>x b o (fun z=>hb (by simp [z])) e
 self:=fun _ _ _ _ st hQ=>wpAny_pyIter_keyiter st.1 hQ
theorem raw_src (lo:(d == sysModules)=false):KdlSrc prog w "dict" d d es.size (fun i v=>∃ h:i<es.size,v=es[i].key) (fun h=>RawD h d es ep) where
 type:=fun _ x=>x.ty
 there:=fun _ ⟨_,e,_⟩=>⟨Heap.lt_size e,Heap.lt_size e⟩
 keep:=fun _ _ x k=>x.stay fun o e=>k d (.inl rfl) o e
 notList:=by decide
 notTuple:=by decide
 hint:=fun _ _ _ _ x hq=>kdl_hint_dict x.ty hq
 iter:=fun _ _ hh x=>⟨_,_,(fun _ _ hq=>raw_iter lo x hq),raw_walks hh _ d (Nat.ne_of_lt (let ⟨_,e,_⟩:=x;Heap.lt_size e)) es ep,⟨⟨_,Heap.get?_push_size _ rfl,rfl,rfl⟩,x.stay fun o e=>Heap.get?_push_of_some _ e⟩⟩
end
noncomputable def rListD:List V→Hp→VK→Prop:=fun xs H Q=>∃ (d:Addr) (kvs:List (List Key×V)),xs=[.ref d]∧H d=some (.dT kvs) ∧
 ∀ (l:Addr) (bs:List Addr),H l=none→bs.length=kvs.length→(∀ (i:Nat) (p:List Key×V),kvs[i]?=some p→∃ b,bs[i]?=some b∧H b=some (.tup (p.1.map kV)))→Q (.ref l) (upd H l (.lst (bs.map V.ref)))
theorem paired_get {α β:Type} {R:α→β→Prop}:∀ {xs:List α} {ys:List β},Paired R xs ys→∀ {i:Nat} {x:α},xs[i]?=some x→∃ y,ys[i]?=some y∧R x y
 | _,_,.nil,_,_,h=>by simp at h
 | _,_,.cons r t,i,x,h=>by
  cases i with
  | zero =>
   simp at h
   subst h
   exact⟨_,rfl,r⟩
  | succ i =>
   obtain ⟨y,e,z⟩:=paired_get t (i:=i) (x:=x) (by simpa using h)
   exact⟨y,by simpa using e,z⟩
theorem refs_vals:∀ bs:List Addr,Vals (bs.map V.ref) (bs.map Value.ref)
 | []=>.nil
 | _::bs=>.cons rfl (refs_vals bs)
theorem call_listD {X:Cx} (hc:X.calm=true):CallR X (.type "list") rListD:=by
 intro pins s σ H xs us Q I r h
 obtain ⟨d,kvs,rfl,hd,q⟩:=h
 obtain ⟨u,rfl,ru⟩:=vals1 r
 cases ru
 obtain ⟨hz,lo,ys,pr,o,es,ep,e,ex,dat,el,_⟩:=(show ObjOk X.prog X.w H s.heap d (.dT kvs) from I.hok d _ hd)
 have hes:es.size=ys.length:=by rw [← Array.length_toList,el,List.length_map]
 have hky:kvs.length=ys.length:=pr.length
 refine kdl_call (raw_src (es:=es) (ep:=ep) lo) (I.ok.hd hc) ⟨o,e,ex,dat⟩ (by rw [hes,← hky];exact hz) fun h' tk acc c k hn it=>?_
 have ea:acc=((ys.map fun y=>y.2.1).map Value.ref).toArray:=by
  apply Array.ext
  ·rw [it.1,hes];simp
  ·intro j h1 h2
   obtain ⟨hj,ev⟩:=it.2 j _ (Array.getElem?_eq_getElem h1)
   rw [ev]
   have:es[j]=es.toList[j]'(by rw [Array.length_toList];exact hj):=by simp
   rw [this]
   simp only [el,List.getElem_map,List.getElem_toArray]
   rfl
 subst ea
 refine⟨.ref s.heap.objs.size,upd H s.heap.objs.size (.lst ((ys.map fun y=>y.2.1).map V.ref)),I.laid (t':=tk) k (Nat.le_refl _) ?_,rfl,q _ _ (I.hok.fresh (Nat.le_refl _)) (by rw [List.length_map,hky]) fun i p hp=>?_⟩
 ·exact⟨by rw [List.length_map,List.length_map,← hky];exact hz,_,c,refs_vals _,hn⟩
 ·obtain ⟨y,hy,h1,h2,_⟩:=paired_get pr hp
  exact⟨y.2.1,by rw [List.getElem?_map,hy];rfl,h2⟩
section
variable {H:Hp} {Q:VK}
theorem r_listD {d:Addr} {kvs:List (List Key×V)} (e:H d=some (.dT kvs)) (h:∀ (l:Addr) (bs:List Addr) (H':Hp),Same H H'→H l=none→H' l=some (.lst (bs.map V.ref))→bs.length=kvs.length→(∀ (i:Nat) (p:List Key×V),kvs[i]?=some p→∃ b,bs[i]?=some b∧H b=some (.tup (p.1.map kV)))→Q (.ref l) H') :
  rListD [.ref d] H Q:=⟨d,kvs,rfl,e,fun l bs hl hn hb=>h l bs _ (Same.upd_new hl) hl upd_same hn hb⟩
end
end L2
namespace L2
open PySem PySem.Spec PyProof.Rows
section
variable {K:PySem.W.Frag} {H H':Hp}
theorem rows_of_pairs:∀ {zs:List (List Int×V)},(∀ p∈zs,∃ a,p.2=.ref a∧SqT K H a (p.1.map V.int))→RowsL K H (zs.map Prod.snd) (zs.map Prod.fst)
 | [],_=>.nil
 | p::zs,h=>by
  obtain ⟨a,e,q⟩:=h p (List.mem_cons_self ..)
  rw [List.map_cons,List.map_cons,e]
  exact .cons q (rows_of_pairs fun z hz=>h z (List.mem_cons_of_mem _ hz))
theorem RowsL.pair:∀ {xs:List V} {rs:List (List Int)},RowsL K H xs rs→∀ p∈rs.zip xs,∃ a,p.2=.ref a∧SqT K H a (p.1.map V.int)
 | _,_,.nil=>fun p hp=>by cases hp
 | _,_,.cons h t=>fun p hp=>by
  rcases List.mem_cons.mp hp with rfl|hp
  ·exact⟨_,rfl,h⟩
  ·exact t.pair p hp
theorem sorted_rows {xs ys:List V} {rs:List (List Int)} (f:List Int→Int) (hr:RowsL K H xs rs) (so:SortedBy false (rs.map f) xs ys) (s:Same H H'):∃ qs,RowsL K H' ys qs∧qs.Perm rs∧qs.Pairwise fun a b=>f a≤f b:=by
 obtain ⟨ps,hp,rfl,hw⟩:=so
 have ez:(rs.map f).zip xs=(rs.zip xs).map fun p=>(f p.1,p.2):=by rw [List.zip_map_left];rfl
 obtain ⟨zs,pz,rfl⟩:=Mth.perm_of_map hp ez
 refine⟨zs.map Prod.fst,?_,?_,?_⟩
 ·rw [List.map_map]
  exact (rows_of_pairs (zs:=zs) fun p h=>hr.pair p (pz.mem_iff.mp h)).same s
 ·have:=pz.map Prod.fst
  rw [List.map_fst_zip (by rw [hr.length];exact Nat.le_refl _)] at this
  exact this
 ·rw [List.pairwise_map] at hw ⊢
  exact hw.imp fun h=>h
theorem rows_of_get:∀ {qs:List (List Int)} {xs:List V},xs.length=qs.length→(∀ (i:Nat) q,qs[i]?=some q→∃ b,xs[i]?=some (.ref b)∧SqT K H b (q.map V.int))→RowsL K H xs qs
 | [],[],_,_=>.nil
 | [],_::_,h,_=>by cases h
 | _::_,[],h,_=>by cases h
 | q::qs,x::xs,hl,h=>by
  obtain ⟨b,e,z⟩:=h 0 q rfl
  simp at e
  subst e
  exact .cons z (rows_of_get (by simpa using hl) fun i q' hq=>by simpa using h (i+1) q' (by simpa using hq))
end
noncomputable def rk (r:List Int):List Key:=r.map Sum.inl
theorem rk_kV (r:List Int):(rk r).map kV=r.map V.int:=by unfold rk;rw [List.map_map];rfl
theorem rk_inj {r q:List Int} (h:rk r=rk q):r=q:=by
 unfold rk at h
 exact List.map_inj_right (fun a b e=>by injection e) |>.mp h
theorem putK_keys {κ:Type} [DecidableEq κ] (kvs:List (κ×V)) (k:κ) (v:V):(putK kvs k v).map Prod.fst=if k∈kvs.map Prod.fst then kvs.map Prod.fst else kvs.map Prod.fst++[k]:=by
 unfold putK
 by_cases h:(kvs.any fun kv=>decide (kv.1=k))=true
 ·rw [if_pos h]
  have hm:k∈kvs.map Prod.fst:=by
   obtain ⟨p,hp,e⟩:=List.any_eq_true.mp h
   exact List.mem_map.mpr ⟨p,hp,of_decide_eq_true e⟩
  rw [if_pos hm,List.map_map]
  apply List.map_congr_left
  intro p _
  show (if p.1=k then (p.1,v) else p).1=p.1
  split <;> rfl
 ·rw [if_neg h]
  have hm:¬ k∈kvs.map Prod.fst:=fun z=>h (by
   obtain ⟨p,hp,e⟩:=List.mem_map.mp z
   exact List.any_eq_true.mpr ⟨p,hp,decide_eq_true e⟩)
  rw [if_neg hm,List.map_append];rfl
noncomputable def rDPut (x y v:V) (H:Hp) (R:Hp→Prop):Prop:=∃ a H4,x=.ref a∧DPut H a y v H4∧R H4
section
variable {H:Hp} {σ:St} {D:Ends} {Q:VK}
theorem r_dput {td ty tv:TE} (h:tv σ H fun v H1=>td σ H1 fun x H2=>ty σ H2 fun y H3=>rDPut x y v H3 fun H4=>D.nx σ H4):sDPut td ty tv D σ H:=h
theorem r_dputT {a b:Addr} {kvs:List (List Key×V)} {k:List Key} {v:V} {R:Hp→Prop} (e:H a=some (.dT kvs)) (eb:H b=some (.tup (k.map kV))) (n:kvs.length≤1000) (h:R (upd H a (.dT (putK kvs k v)))):rDPut (.ref a) (.ref b) v H R :=
 ⟨a,_,rfl,DPut.t e eb (small1000 n),h⟩
theorem r_dnewT (h:∀ p H2,H p=none→Same H H2→H2 p=some (.dT [])→Q (.ref p) H2):tDNewT σ H Q:=fun p hp=>h p _ hp (Same.upd_new hp) upd_same
end
end L2
set_option maxRecDepth 100000
set_option maxRecDepth 100000
namespace L2
open PySem PySem.Spec PyProof.Rows
inductive KeysL (K:PySem.W.Frag) (H:Hp):List V→List (List Int×Int)→Prop where
 | nil:KeysL K H [] []
 | cons {a w:Addr} {r:List Int} {m:Int} {xs:List V} {ks:List (List Int×Int)} (h:SqT K H a [.ref w,.int m]) (hw:SqT K H w (r.map V.int)) (t:KeysL K H xs ks):KeysL K H (.ref a::xs) ((r,m)::ks)
theorem range_map {α β:Type} (ks:List α) (d:α) (g:α→β):(List.range ks.length).map (fun i=>g (ks.getD i d))=ks.map g:=by
 apply List.ext_getElem
 ·simp
 ·intro i h1 h2
  have h:i<ks.length:=by simpa using h1
  simp [List.getD,List.getElem?_eq_getElem h]
theorem rd_compL {K:PySem.W.Frag} {a:Addr} {xs:List V} {H1:Hp} {ix:List (Option Nat)} {σ:St} {te:TE} {Q:VK} (fr:St) (f:Nat→V) (hpk:pick ix σ=none::fr) (ha:SqL K H1 a xs) (hn:xs.length≤1000000)
  (step:∀ (i:Nat) x H' (Qc:VK),xs[i]?=some x→Same H1 H'→(∀ H5,Same H' H5→Qc (f i) H5)→te (some x::fr) H' Qc)
  (hQ:∀ l H',H1 l=none→Same H1 H'→H' l=some (.lst ((List.range xs.length).map f))→Q (.ref l) H'):CompGoal ix (gName 0) (fun _ H Q=>Q true H) te σ Q (Itl K a) H1:=by
 refine rd_comp1 fr xs.length f hpk hn (fun H' s=>⟨xs,s.seq ha,Nat.le_refl _⟩) (fun i H' hi s=>⟨xs,xs[i],s.seq ha,List.getElem?_eq_getElem hi⟩) (fun i x H' H2 Qc hi s hy kc=>?_) hQ
 obtain ⟨rfl,e⟩:=hy
 exact step i x _ Qc (e xs (s.seq ha)) s kc
end L2
set_option maxRecDepth 100000
set_option maxRecDepth 100000
set_option maxRecDepth 100000
set_option maxRecDepth 100000
set_option maxRecDepth 100000
set_option maxRecDepth 100000
set_option maxRecDepth 100000
set_option maxRecDepth 100000
namespace L2
open PySem PySem.Spec PyProof.Rows
section
variable {K:PySem.W.Frag} {H:Hp} {σ:St} {Q:VK} {ix:List (Option Nat)}
theorem comp_gen {J:It} {g:TG} {tt:TT} {te:TE} (t:Nat) (fr:St) (n:Nat) (Pv:Addr→Nat→List V→Hp→Prop) (hpk:pick ix σ=List.replicate t none++fr)
  (h0:∀ l H',H l=none→Same H H'→H' l=some (.lst [])→Pv l 0 [] H') (hn:∀ l i ys H',Pv l i ys H'→ys.length≤1000)
  (hstop:∀ H',Same H H'→J.stop n H') (hgo:∀ i H',i<n→Same H H'→J.go i H')
  (step:∀ l i x H' H2 own ys,own.length=t→i<n→H l=none→Same H H'→H' l=some (.lst ys)→Pv l i ys H'→J.yld i H' x H2→∀ (Qy:St→VK) (Qn:St→Hp→Prop),
   (∀ own2 v H5,own2.length=t→Same H' H5→Pv l (i+1) (ys++[v]) (upd H5 l (.lst (ys++[v])))→Qy (own2++fr) v H5)→(∀ own2 H4,own2.length=t→Same H' H4→Pv l (i+1) ys H4→Qn (own2++fr) H4) →
   g x (own++fr) H2 fun σ2 H3=>tt σ2 H3 fun b H4=>if b=true then te σ2 H4 (Qy σ2) else Qn σ2 H4)
  (hQ:∀ l H' ys,H l=none→Same H H'→H' l=some (.lst ys)→Pv l n ys H'→Q (.ref l) H'):CompGoal ix g tt te σ Q J H:=by
 intro l hl
 refine⟨fun i m σ1 ys H'=>m=n - i∧i≤n∧(∃ own:St,own.length=t∧σ1=own++fr)∧Same H H'∧H' l=some (.lst ys)∧Pv l i ys H',⟨n,by simp,Nat.zero_le _,⟨_,List.length_replicate,hpk⟩,Same.upd_new hl,upd_same,h0 l _ hl (Same.upd_new hl) upd_same⟩,?_⟩
 rintro i m σ1 ys H' ⟨rfl,hi,⟨own,ho,rfl⟩,hs,hl',hp⟩
 refine⟨hl',?_⟩
 by_cases hlt:i<n
 ·refine .inr ⟨hgo i H' hlt hs,n - (i+1),by lia,fun x H2 hy=>step l i x H' H2 own ys ho hlt hl hs hl' hp hy _ _ (fun own2 v H5 ho2 s5 hp5=>?_) fun own2 H4 ho2 s4 hp4=>?_⟩
  ·have l5:=s5 _ _ hl'
   refine⟨l5,Nat.lt_of_le_of_lt (hn l i ys H' hp) (small1000 (Nat.le_refl 1000)),rfl,hlt,⟨own2,ho2,rfl⟩,fun b o e=>?_,upd_same,hp5⟩
   rw [upd_ne (ne_of_none e hl)]
   exact s5 _ _ (hs _ _ e)
  ·exact⟨rfl,hlt,⟨own2,ho2,rfl⟩,hs.trans s4,s4 _ _ hl',hp4⟩
 ·obtain rfl:i=n:=by lia
  exact .inl ⟨hstop H' hs,hQ l H' ys hl hs hl' hp⟩
end
inductive LstsL (H:Hp):List V→List (List Int)→Prop where
 | nil:LstsL H [] []
 | cons {a:Addr} {r:List Int} {xs:List V} {rs:List (List Int)} (h:H a=some (.lst (r.map V.int))) (t:LstsL H xs rs):LstsL H (.ref a::xs) (r::rs)
end L2
set_option maxRecDepth 100000
set_option maxRecDepth 100000
namespace L2
open PySem PySem.Spec PyProof.Rows
section
variable {K:PySem.W.Frag} {H:Hp} {σ:St} {Q:VK} {ix:List (Option Nat)} {l:Addr} {xs:List V} {rs:List (List Int)}
theorem r_gtup3 {a:Addr} {x y z:V} {m n o:Nat} {R:St→Hp→Prop} (h:SqT K H a [x,y,z]) (k:R (((σ.set m (some x)).set n (some y)).set o (some z)) H):gTup K 3 (gCons (gName m) (gCons (gName n) (gCons (gName o) gNil))) (.ref a) σ H R:=⟨a,_,rfl,h,rfl,_,_,rfl,_,_,rfl,_,_,rfl,rfl,k⟩
end
end L2
set_option maxRecDepth 100000
namespace L2
open PySem PySem.Spec PyProof.Rows PySem.Builtin PySem.Builtin.Str
noncomputable def Its (z:Str):It:=⟨fun i _=>i<z.cps.size,fun i H x H'=>H'=H∧∃ c,z.cps[i]?=some c∧x=.str ⟨#[c]⟩,fun i _=>z.cps.size≤i⟩
theorem turn_ascii {P:Program} {w:World} {K:PySem.W.Frag} {tg:Expr} (it:Addr) (z:Str) (t:Tok):Turn P w K tg (Its z) [it] it (fun i h=>h.IsStrIter it "str_ascii_iterator" z t i) where
 mem:=by simp
 obj:=fun i h st b hb=>by
  have e:b=it:=by simpa using hb
  subst e
  obtain ⟨o,e,c,d⟩:=st
  exact⟨o,e,fun v z=>by rw [d] at z;cases z⟩
 keep:=fun i h h' st k=>let ⟨o,ho,r⟩:=st;⟨o,k it (by simp) o ho,r⟩
 item:=by
  intro X hP hw hK hc i pins s σ H E I hf st hg
  subst hP hw hK
  obtain ⟨f0,f1,f2,f3,f4,f5⟩:=hf it (by simp)
  have hi:i<z.cps.size:=hg
  refine wpAny_pyNext_ascii_item st (c:=z.cps[i]) (by simp [hi]) fun h' st' sb=>?_
  have I1:Inv X pins σ H { s with heap:=h',toks:=s.toks+1 }:=I.turned (fun b o hb e=>(sb.2 b hb).trans e) f0 f1 f3 f4 f5
  obtain ⟨o,e,c,d⟩:=id st'
  exact⟨_,rfl,go_of (s:={ s with heap:=h',toks:=s.toks+1 }) e c d (by decide) ⟨.str ⟨#[z.cps[i]]⟩,H,I1,⟨_,rfl⟩,⟨rfl,_,by simp [hi],rfl⟩,st',fun b hb=>(hf b hb).1⟩⟩
 done:=by
  intro X hP hw hK hc i pins s σ H E I hf st hg
  subst hP hw hK
  obtain ⟨f0,f1,f2,f3,f4,f5⟩:=hf it (by simp)
  have hi:z.cps.size≤i:=hg
  exact wpAny_pyNext_ascii_end (I.ok.hd hc) st (by simp [hi]) fun h' eb=>⟨rfl,I.turned (t':=s.toks) (fun b o hb e=>eb b o hb e) f0 f1 f3 f4 f5⟩
 self:=fun _ _ _ _ _ st h=>wpAny_pyIter_striter_ascii st h
theorem turn_wide {P:Program} {w:World} {K:PySem.W.Frag} {tg:Expr} (it:Addr) (z:Str) (t:Tok):Turn P w K tg (Its z) [it] it (fun i h=>h.IsStrIter it "str_iterator" z t i) where
 mem:=by simp
 obj:=fun i h st b hb=>by
  have e:b=it:=by simpa using hb
  subst e
  obtain ⟨o,e,c,d⟩:=st
  exact⟨o,e,fun v z=>by rw [d] at z;cases z⟩
 keep:=fun i h h' st k=>let ⟨o,ho,r⟩:=st;⟨o,k it (by simp) o ho,r⟩
 item:=by
  intro X hP hw hK hc i pins s σ H E I hf st hg
  subst hP hw hK
  obtain ⟨f0,f1,f2,f3,f4,f5⟩:=hf it (by simp)
  have hi:i<z.cps.size:=hg
  refine wpAny_pyNext_wide_item st (c:=z.cps[i]) (by simp [hi]) fun h' st' sb=>?_
  have I1:Inv X pins σ H { s with heap:=h',toks:=s.toks+1 }:=I.turned (fun b o hb e=>(sb.2 b hb).trans e) f0 f1 f3 f4 f5
  obtain ⟨o,e,c,d⟩:=id st'
  exact⟨_,rfl,go_of (s:={ s with heap:=h',toks:=s.toks+1 }) e c d (by decide) ⟨.str ⟨#[z.cps[i]]⟩,H,I1,⟨_,rfl⟩,⟨rfl,_,by simp [hi],rfl⟩,st',fun b hb=>(hf b hb).1⟩⟩
 done:=by
  intro X hP hw hK hc i pins s σ H E I hf st hg
  subst hP hw hK
  obtain ⟨f0,f1,f2,f3,f4,f5⟩:=hf it (by simp)
  have hi:z.cps.size≤i:=hg
  exact wpAny_pyNext_wide_end (I.ok.hd hc) st (by simp [hi]) fun h' eb=>⟨rfl,I.turned (t':=s.toks) (fun b o hb e=>eb b o hb e) f0 f1 f3 f4 f5⟩
 self:=fun _ _ _ _ _ st h=>wpAny_pyIter_striter_wide st h
noncomputable def rItS:V→Hp→(It→Hp→Prop)→Prop:=fun x H R=>∃ z,x=.str z∧R (Its z) H
noncomputable def iStr (tl:TE):TI:=fun σ H R=>tl σ H fun x H1=>rItS x H1 R
section
variable {X:Cx}
theorem pi_str {tg l:Expr} {tl:TE} (hl:PE X l tl):PI X tg l (iStr tl):=by
 intro pins s σ H R I h
 refine thn (hl pins s σ H _ I h) fun v s1 ⟨x,H1,I1,r1,q1⟩=>?_
 obtain ⟨z,e,q⟩:=q1
 subst e
 obtain ⟨t,rfl⟩:=r1
 have fp:∀ b∈[s1.heap.objs.size],FpOk X pins H1 b:=fun b hb=>by
  have e:b=s1.heap.objs.size:=by simpa using hb
  subst e
  exact I1.fpOk (Nat.le_refl _) (I1.hok.fresh (Nat.le_refl _))
 cases ha:z.cps.all (·<128)
 ·exact wpAny_pyIter_wide ha ⟨s1.heap.objs.size,[s1.heap.objs.size],_,_,H1,rfl,I1.kept (t':=s1.toks) fun b o e=>Heap.get?_push_of_some _ e,turn_wide _ z t,⟨_,Heap.get?_push_size _ rfl,rfl,rfl⟩,fp,q⟩
 ·exact wpAny_pyIter_ascii ha ⟨s1.heap.objs.size,[s1.heap.objs.size],_,_,H1,rfl,I1.kept (t':=s1.toks) fun b o e=>Heap.get?_push_of_some _ e,turn_ascii _ z t,⟨_,Heap.get?_push_size _ rfl,rfl,rfl⟩,fp,q⟩
noncomputable def rSlS:V→Option Int→Option Int→Hp→VK→Prop:=fun x lo hi H Q=>∃ z,x=.str z∧z.length≤sizeLine∧Q (.str (Txt.slice z lo hi)) H
theorem part_of {v:Value} {o:Option Int} (h:IsPart v o):∃ l:Option (Int×Tok),v=partValue l∧o=l.map (·.1):=by
 cases h with
 | none=>exact⟨none,rfl,rfl⟩
 | int i t=>exact⟨some (i,t),rfl,rfl⟩
theorem sl_str:SlR X rSlS:=by
 intro pins s σ H x v vl vu lo hi sl Q I rx hs pl pu h
 obtain ⟨z,rfl,hz,q⟩:=h
 obtain ⟨t,rfl⟩:=rx
 obtain ⟨l,rfl,rfl⟩:=part_of pl
 obtain ⟨u,rfl,rfl⟩:=part_of pu
 refine⟨"str",_,F.slot_str_getitem.lookup,typeIs_str _ _ _,wpAny_getItem_str_slice (l:=l) (u:=u) (st:=none) hs rfl ?_⟩
 exact post_val_or_str ⟨Nat.le_trans (Txt.slice_le z _ _) hz,fun t' k=>⟨.str _,H,I.tok _,⟨_,rfl⟩,q⟩⟩
theorem vals_strs:∀ (zs:List Str) (k:Nat),Vals (zs.map V.str) (strsFrom k zs)
 | [],_=>.nil
 | z::zs,k=>.cons ⟨_,rfl⟩ (vals_strs zs (k+1))
noncomputable def rSplit:V→List V→Hp→VK→Prop:=fun x xs H Q=>∃ z y,x=.str z∧xs=[.str y]∧y.length≠0∧z.length≤2000∧(Txt.split z y).length≤2000∧∀ p,H p=none→Q (.ref p) (upd H p (.lst ((Txt.split z y).map V.str)))
theorem small2000 {n:Nat} (h:n≤2000):n≤sizeLine:=Nat.le_trans h (by decide)
theorem mt_split:MtR X "str.split" rSplit:=by
 intro pins s σ H x xs v us Q I rx rs h
 obtain ⟨z,y,rfl,rfl,hy,hz,hn,q⟩:=h
 obtain ⟨t,rfl⟩:=rx
 obtain ⟨u,rfl,t',rfl⟩:=vals1 rs
 have hy':(y.length == 0)=false:=by simpa using hy
 have hz':z.length≤sizeLine:=small2000 (by lia)
 have fin:∀ (k:Nat) (its:List Value),Vals ((Txt.split z y).map V.str) its→EP X pins σ Q (.ref s.heap.objs.size) { s with toks:=k,heap:=s.heap.push { cls:=.type "list",data:=.seq its.toArray } }:=fun k its r =>
  ⟨.ref s.heap.objs.size,_,I.laid (t':=k) (o:=.lst ((Txt.split z y).map V.str)) (fun b ob q=>Heap.get?_push_of_some _ q) (Nat.le_refl _) ⟨by rw [List.length_map];exact small2000 hn,_,0,r,Heap.get?_push_size _ rfl⟩,rfl,q _ (I.hok.fresh (Nat.le_refl _))⟩
 cases h1:(decide (z.length<y.length) || decide (Builtin.Str.strKind z<Builtin.Str.strKind y))
 ·cases hf:(occurrences z y 0 z.length (z.length+1)).isEmpty
  ·have e:Txt.split z y=partsBetween z (occurrences z y 0 z.length (z.length+1)) y.length:=(if_neg (ne_true_of_eq_false h1)).trans (if_neg (ne_true_of_eq_false hf))
   refine call_meets F.slot_str_split (typeIs_str _ _ _) F.entry_str_split (F.args_str_split_2 _ _) (meets_str_split_sep z y t t' h1 hy' hf hz' (by rw [← e];exact small2000 hn)) ?_
   rw [← e]
   exact fin _ _ (vals_strs _ _)
  ·have e:Txt.split z y=[z]:=(if_neg (ne_true_of_eq_false h1)).trans (if_pos hf)
   refine call_meets F.slot_str_split (typeIs_str _ _ _) F.entry_str_split (F.args_str_split_2 _ _) (meets_str_split_not_found z y t t' h1 hy' hf) ?_
   exact fin s.toks [.str z t] (by rw [e];exact .cons ⟨_,rfl⟩ .nil)
 ·have e:Txt.split z y=[z]:=if_pos h1
  refine call_meets F.slot_str_split (typeIs_str _ _ _) F.entry_str_split (F.args_str_split_2 _ _) (meets_str_split_cannot_occur z y t t' h1) ?_
  exact fin s.toks [.str z t] (by rw [e];exact .cons ⟨_,rfl⟩ .nil)
noncomputable def rIntS:List V→Hp→VK→Prop:=fun xs H Q=>∃ z n,xs=[.str z]∧PySem.intText? z=some n∧z.length≤640∧Q (.int n) H
theorem call_intS:CallR X (.type "int") rIntS:=by
 intro pins s σ H xs us Q I r h
 obtain ⟨z,n,rfl,hn,hl,q⟩:=h
 obtain ⟨u,rfl,t,rfl⟩:=vals1 r
 exact PySem.W.KIN.call_text hn hl ⟨.int n,H,I.tok _,⟨_,rfl⟩,q⟩
noncomputable def rStr1:List V→Hp→VK→Prop:=fun xs H Q=>∃ i,xs=[.int i]∧i.natAbs.log2<1920∧Q (.str (toString i)) H
theorem callN_str:CallR X (.type "str") rStr1:=call_str_int
noncomputable def rLenS:List V→Hp→VK→Prop:=fun xs H Q=>∃ z,xs=[.str z]∧z.length≤sizeLine∧Q (.int z.length) H
theorem callN_lenS:CallR X (.builtin "len") rLenS:=call_len_str
noncomputable def rAddS:R2:=fun x y H Q=>∃ i j,x=.str i∧y=.str j∧i.length+j.length≤sizeLine∧Q (.str (i++j)) H
theorem op_addS:OpR X (binaryOp .Add) rAddS:=op_add_str
noncomputable def rInS:R2:=fun x y H Q=>∃ i j,x=.str i∧y=.str j∧Q (.bl (!(occurrences j i 0 j.length 1).isEmpty)) H
theorem op_inS:OpR X (compareOp .In) rInS:=op_in_str
noncomputable abbrev TF:=St→Hp→Str→VK→Prop
noncomputable def PF (X:Cx) (es:List Expr) (t:TF):Prop:=∀ (pins:List (Addr×Obj)) (s:Shared) (σ:St) (H:Hp) (out:Str) (Q:VK),Inv X pins σ H s→t σ H out Q→wpAny (model X.prog X.w) X.A (joinParts out (evalEach es X.env)) (EP X pins σ Q) X.xe s
noncomputable def fNil:TF:=fun _ H out Q=>out.length≤sizeLine∧Q (.str out) H
noncomputable def rPiece (tr:TF) (σ:St) (out:Str) (Q:VK):VK:=fun v H1=>∃ y,v=.str y∧(out++y).length≤sizeLine∧tr σ H1 (out++y) Q
noncomputable def fCons (te:TE) (tr:TF):TF:=fun σ H out Q=>te σ H (rPiece tr σ out Q)
theorem pf_nil:PF X [] fNil:=fun pins s σ H out Q I h=>joinParts_nilE (joinParts_nil ⟨.str out,H,I.tok _,⟨_,rfl⟩,h.2⟩ h.1)
theorem pf_cons {e:Expr} {es:List Expr} {te:TE} {tr:TF} (he:PE X e te) (hr:PF X es tr):PF X (e::es) (fCons te tr):=fun pins s σ H out Q I h =>
 joinParts_consE (joinParts_cons (thn (he pins s σ H _ I h) fun v s1 ⟨x,H1,I1,r1,q1⟩=>by
  obtain ⟨y,rfl,hz,q⟩:=q1
  obtain ⟨t,rfl⟩:=r1
  exact⟨hz,hr pins s1 σ H1 _ Q I1 q⟩))
noncomputable def tJoin (t:TF):TE:=fun σ H Q=>t σ H Str.empty Q
theorem pe_join {e1 e2:Expr} {es:List Expr} {pos:Pos} {t:TF} (h:PF X (e1::e2::es) t):PE X (.JoinedStr (e1::e2::es) pos) (tJoin t):=fun pins s σ H Q I q=>JoinedStr_many (h pins s σ H _ Q I q)
noncomputable def rShow (Q:VK):VK:=fun v H1=>(∃ i,v=.int i∧i.natAbs.log2<1920∧Q (.str (toString i)) H1)∨∃ z,v=.str z∧z.length≤sizeLine∧Q (.str z) H1
noncomputable def tShow (te:TE):TE:=fun σ H Q=>te σ H (rShow Q)
theorem pe_fv {e:Expr} {pos:Pos} {te:TE} (he:PE X e te):PE X (.FormattedValue e (-1) none pos) (tShow te):=fun pins s σ H Q I q =>
 FormattedValue_plain (thn (he pins s σ H _ I q) fun v s1 ⟨x,H1,I1,r1,q1⟩=>by
  rcases q1 with ⟨i,rfl,hi,q⟩|⟨z,rfl,hz,q⟩
  ·obtain ⟨t,rfl⟩:=r1
   exact formatField_int_small hi ⟨.str _,H1,I1.tok _,⟨_,rfl⟩,q⟩
  ·obtain ⟨t,rfl⟩:=r1
   exact formatField_str (fun t' tk=>⟨.str z,H1,I1.tok _,⟨_,rfl⟩,q⟩) hz)
end
section
variable {D:Ends} {σ:St} {H:Hp} {te:TE} {g:TG} {Q:VK} {z y:Str} {K:PySem.W.Frag}
theorem r_istr {R:It→Hp→Prop} (h:te σ H fun x H1=>rItS x H1 R):iStr te σ H R:=h
theorem r_iss {R:It→Hp→Prop} (h:R (Its z) H):rItS (.str z) H R:=⟨z,rfl,h⟩
theorem r_slS {lo hi:Option Int} (hz:z.length≤sizeLine) (h:Q (.str (Txt.slice z lo hi)) H):rSlS (.str z) lo hi H Q:=⟨z,rfl,hz,h⟩
theorem r_split (hy:y.length≠0) (hz:z.length≤2000) (hn:(Txt.split z y).length≤2000) (h:∀ p H2,H p=none→Same H H2→H2 p=some (.lst ((Txt.split z y).map V.str))→Q (.ref p) H2):rSplit (.str z) [.str y] H Q:=⟨z,y,rfl,rfl,hy,hz,hn,fun p hp=>h p _ hp (Same.upd_new hp) upd_same⟩
theorem r_intS {n:Int} (hn:PySem.intText? z=some n) (hl:z.length≤640) (h:Q (.int n) H):rIntS [.str z] H Q:=⟨z,n,rfl,hn,hl,h⟩
theorem r_str1 {i:Int} (hi:i.natAbs.log2<1920) (h:Q (.str (toString i)) H):rStr1 [.int i] H Q:=⟨i,rfl,hi,h⟩
theorem r_lenS (hz:z.length≤sizeLine) (h:Q (.int z.length) H):rLenS [.str z] H Q:=⟨z,rfl,hz,h⟩
theorem r_addS (hz:z.length+y.length≤sizeLine) (h:Q (.str (z++y)) H):rAddS (.str z) (.str y) H Q:=⟨z,y,rfl,rfl,hz,h⟩
theorem r_inS (h:Q (.bl (!(occurrences y z 0 y.length 1).isEmpty)) H):rInS (.str z) (.str y) H Q:=⟨z,y,rfl,rfl,h⟩
theorem r_join {t:TF} (h:t σ H Str.empty Q):tJoin t σ H Q:=h
theorem r_fcons {tr:TF} {out:Str} (h:te σ H (rPiece tr σ out Q)):fCons te tr σ H out Q:=h
theorem r_fnil {out:Str} (h1:out.length≤sizeLine) (h:Q (.str out) H):fNil σ H out Q:=⟨h1,h⟩
theorem r_piece {tr:TF} {out:Str} (h1:(out++y).length≤sizeLine) (h:tr σ H (out++y) Q):rPiece tr σ out Q (.str y) H:=⟨y,rfl,h1,h⟩
theorem r_show (h:te σ H (rShow Q)):tShow te σ H Q:=h
theorem r_showI {i:Int} (hi:i.natAbs.log2<1920) (h:Q (.str (toString i)) H):rShow Q (.int i) H:=.inl ⟨i,rfl,hi,h⟩
theorem r_showS (hz:z.length≤sizeLine) (h:Q (.str z) H):rShow Q (.str z) H:=.inr ⟨z,rfl,hz,h⟩
theorem r_ixS {i:Int} {c:Nat} (hz:z.length≤sizeLine) (h1:atI z.cps.toList i=some c) (h:Q (.str ⟨#[c]⟩) H):rIxS (.str z) (.int i) H Q:=⟨z,i,c,rfl,rfl,hz,h1,h⟩
theorem rd_compS {ix:List (Option Nat)} (fr:St) (f:Nat→V) (hpk:pick ix σ=none::fr) (hn:z.length≤1000)
  (step:∀ (i c:Nat) (H':Hp) (Qc:VK),z.cps[i]?=some c→Same H H'→(∀ H5,Same H' H5→Qc (f i) H5)→te (some (.str ⟨#[c]⟩)::fr) H' Qc)
  (hQ:∀ l H',H l=none→Same H H'→H' l=some (.lst ((List.range z.cps.size).map f))→Q (.ref l) H'):CompGoal ix (gName 0) (fun _ H Q=>Q true H) te σ Q (Its z) H :=
 rd_comp1 fr z.cps.size f hpk (Nat.le_trans hn (by decide)) (fun _ _=>Nat.le_refl _) (fun i _ hi _=>hi) (fun i x H' H2 Qc hi hs hy kc=>by obtain ⟨rfl,c,hc,rfl⟩:=hy;exact step i c _ Qc hc hs kc) hQ
end
noncomputable def rLink (tc:TE) (r':R2) (y:V) (σ:St) (Q:VK):VK:=fun z H3=>∃ k,z=.bl k∧(if k=true then tc σ H3 fun w' H4=>r' y w' H4 Q else Q (.bl false) H3)
theorem r_chain {r r':R2} {ta tb tc:TE} {σ:St} {H:Hp} {Q:VK} (h:ta σ H fun x H1=>tb σ H1 fun y H2=>r x y H2 (rLink tc r' y σ Q)):tChain r r' ta tb tc σ H Q:=h
theorem r_link {r':R2} {tc:TE} {y:V} {σ:St} {H:Hp} {Q:VK} {k:Bool} (h:if k=true then tc σ H fun w' H4=>r' y w' H4 Q else Q (.bl false) H):rLink tc r' y σ Q (.bl k) H:=⟨k,rfl,h⟩
end L2
namespace L2
open PySem PySem.Spec PyProof.Rows
section
variable {Q:VK} {H:Hp} {z y:Str}
theorem decS:decide (V.str z=V.str y)=decide (z=y):=by
 rw [Bool.eq_iff_iff];simp
theorem r_eqS (h:Q (.bl (decide (z=y))) H):rEq (.str z) (.str y) H Q:=⟨rfl,by rw [decS];exact h⟩
theorem r_neS (h:Q (.bl (!decide (z=y))) H):rNe (.str z) (.str y) H Q:=⟨rfl,by rw [decS];exact h⟩
end
noncomputable def cval:Expr→Option V
 | .Constant (.int i) _ _=>some (.int i)
 | .Constant (.str s) _ _=>some (.str s)
 | _=>none
noncomputable def cvals:List Expr→Option (List V)
 | []=>some []
 | e::es=>match cval e,cvals es with
  | some v,some vs=>some (v::vs)
  | _,_=>none
noncomputable def tVals:List V→TA
 | []=>tNil
 | v::vs=>tCons (tC v) (tVals vs)
theorem pa_vals {X:Cx}:∀ {es:List Expr} {vs:List V},cvals es=some vs→PA X es (tVals vs)
 | [],vs,h=>by cases h;exact pa_nil
 | e::es,vs,h=>by
  unfold cvals at h
  split at h
  ·rename_i v ws h1 h2
   cases h
   unfold cval at h1
   split at h1
   ·cases h1;exact pa_cons pe_int (pa_vals h2)
   ·cases h1;exact pa_cons pe_str (pa_vals h2)
   ·cases h1
  ·cases h
theorem pe_lstC {X:Cx} {es:List Expr} {vs:List V} {pos:Pos} (h:cvals es=some vs):PE X (.List es pos) (tLst (tVals vs)):=pe_lst (pa_vals h)
theorem tVals_run {σ:St} {H:Hp}:∀ {vs:List V} {Q:List V→Hp→Prop},Q vs H→tVals vs σ H Q
 | [],_,h=>h
 | v::vs,Q,h=>tVals_run (vs:=vs) (Q:=fun xs H2=>Q (v::xs) H2) h
theorem r_lstC {σ:St} {H:Hp} {Q:VK} {vs:List V} (hl:vs.length≤1000) (h:∀ p H2,H p=none→Same H H2→H2 p=some (.lst vs)→Q (.ref p) H2):tLst (tVals vs) σ H Q :=
 tVals_run (vs:=vs) (r_newL hl h)
theorem noraise {X:Cx}:∀ e s',XW X (fun _ _ _=>False) e s'→X.xe e s':=fun _ _ h=>by
 obtain ⟨_,_,_,_,_,_,_,z⟩:=h
 exact z.elim
end L2
namespace L2
open PySem PySem.Spec PyProof.Rows
noncomputable def FixedD (P:Program) (w:World) (K:PySem.W.Frag) (a:Addr) (kvs:List (Key×V)):Prop :=
 (a == sysModules)=false∧∀ h:Heap,K.In h→∃ vs,KV kvs vs∧h.DictOf (mixKind P w) a vs
noncomputable def dEnt (w:World) (x:Str×Tok×Addr):DictEntry:=⟨PyData.keyHash w.params x.1,.str x.1 x.2.1,.ref x.2.2⟩
theorem fixedD {P:Program} {w:World} {K:PySem.W.Frag} {a:Addr} {xs:List (Str×Tok×Addr)} {ep:Nat} (lk:K.lookup a=some ⟨.type "dict",none,.dict (xs.map (dEnt w)).toArray ep,#[]⟩) (hs:(a == sysModules)=false) (hn:(xs.map (·.1)).Nodup) :
  FixedD P w K a (xs.map fun x=>(.inr x.1,.ref x.2.2)):=by
 refine⟨hs,fun h KX=>⟨xs.map fun x=>(.inr x.1,.ref x.2.2),?_,_,_,_,KX _ _ lk,⟨rfl,rfl,rfl⟩,rfl,?_,?_,?_⟩⟩
 ·clear lk hn
  induction xs with
  | nil=>exact .nil
  | cons x xs ih=>exact .cons ⟨rfl,rfl⟩ ih
 ·intro e he
  have he':e∈xs.map (dEnt w):=by simpa using he
  obtain ⟨x,_,rfl⟩:=List.mem_map.mp he'
  exact⟨.inr x.1,keyIs_str x.1 x.2.1,rfl⟩
 ·show Pairs _ (xs.map (dEnt w)).toArray.toList _
  rw [List.toList_toArray]
  clear lk hn
  induction xs with
  | nil=>exact .nil
  | cons x xs ih=>exact .cons (keyIs_str x.1 x.2.1) rfl ih
 ·rw [List.map_map]
  have:(xs.map (·.1)).Pairwise (·≠·):=hn
  rw [List.Nodup,List.pairwise_map] at *
  exact hn.imp fun h e=>h (Sum.inr.inj e)
section
variable {X:Cx} {a:Addr} {kvs:List (Key×V)}
noncomputable def rNotInF (a:Addr) (kvs:List (Key×V)):R2:=fun x y H Q=>∃ z:Str,x=.str z∧y=.ref a∧Q (.bl (!(valV kvs (.inr z)).isSome)) H
theorem op_notInF (F:FixedD X.prog X.w X.K a kvs):OpR X (compareOp .NotIn) (rNotInF a kvs):=by
 intro pins s σ H x y v u Q I rx ry h
 obtain ⟨z,rfl,rfl,q⟩:=h
 obtain rfl:u=Value.ref a:=ry
 obtain ⟨hs,hF⟩:=F
 obtain ⟨vs,rel,dd⟩:=hF _ I.kIn
 refine wpAny_notIn_of (kV_is (k:=.inr z) rx) hs dd.mapOf ?_
 rw [← (rel.val (.inr z)).isSome_eq]
 exact⟨.bl _,H,I.tok _,rfl,q⟩
noncomputable def rIxF (a:Addr) (kvs:List (Key×V)):R2:=fun x y H Q=>∃ (z:Str) (v:V),x=.ref a∧y=.str z∧valV kvs (.inr z)=some v∧Q v H
theorem ix_dictF (F:FixedD X.prog X.w X.K a kvs):IxR X (rIxF a kvs):=by
 intro value slice pins s σ H x y v u Q I rx ry h hs
 obtain ⟨z,r,rfl,rfl,hv,q⟩:=h
 obtain rfl:v=Value.ref a:=rx
 obtain ⟨hsm,hF⟩:=F
 obtain ⟨vs,rel,dd⟩:=hF _ I.kIn
 obtain ⟨w',hw,rw'⟩:=RelO.some_of (v:=r) (o:=valueAt vs (.inr z)) (by rw [← hv];exact rel.val (.inr z))
 exact tail_any dd.typeIs PySem.F.slot_dict_getitem.lookup (wpAny_getItem_of (kV_is (k:=.inr z) ry) dd.mapOf hw ⟨r,H,I.tok _,rw',q⟩) hs
noncomputable def rStarts:V→List V→Hp→VK→Prop:=fun x xs H Q=>∃ z y,x=.str z∧xs=[.str y]∧Q (.bl (0+y.length≤z.length && Builtin.Str.subAt z y 0)) H
theorem mt_starts:MtR X "str.startswith" rStarts:=by
 intro pins s σ H x xs v us Q I rx rs h
 obtain ⟨z,y,rfl,rfl,q⟩:=h
 obtain ⟨t,rfl⟩:=rx
 obtain ⟨u,rfl,t',rfl⟩:=vals1 rs
 exact call_gives F.slot_str_startswith (typeIs_str _ _ _) F.entry_str_startswith (F.args_str_startswith_2 _ _) (gives_str_startswith z y t t') ⟨.bl _,H,I,rfl,q⟩
noncomputable def reps (c:Nat) (n:Nat):Str:=⟨Array.replicate n c⟩
theorem fold_reps (c:Nat):∀ (k:Nat) (b:Array Nat),(List.replicate k #[c]).foldl (·++·) b=b++Array.replicate k c
 | 0,b=>by simp
 | k+1,b=>by
  rw [List.replicate_succ,List.foldl_cons,fold_reps c k,Array.append_assoc]
  congr 1
  apply Array.ext'
  simp [List.replicate_succ]
noncomputable def rMul1:R2:=fun x y H Q=>∃ (c:Nat) (n:Int),x=.str ⟨#[c]⟩∧y=.int n∧(-1000≤n∧n≤1000)∧Q (.str (reps c n.toNat)) H
theorem op_mul1:OpR X (binaryOp .Mult) rMul1:=by
 intro pins s σ H x y v u Q I rx ry h
 obtain ⟨c,n,rfl,rfl,hn,q⟩:=h
 obtain ⟨t,rfl⟩:=rx
 obtain ⟨t',rfl⟩:=ry
 have l1:(⟨#[c]⟩:Str).length=1:=rfl
 refine P.mul_str (by rw [decide_eq_false (by lia),decide_eq_false (by lia)];rfl) (fun h1 _=>?_) (fun h1 _=>?_) ?_
 ·have h1':1≤n:=by lia
  have:(9000000000000:Int)≤(2 ^ 63 - 1) / n:=by
   rw [Int.le_ediv_iff_mul_le (by lia)]
   lia
  rw [l1]
  lia
 ·show decide (_ > sizeLine)=false
  rw [decide_eq_false]
  rw [l1]
  have:=small2000 (show 1*n.toNat≤2000 by lia)
  lia
 ·split
  ·rename_i h1
   have e:reps c n.toNat=Str.empty:=by rw [show n.toNat=0 by lia];rfl
   rw [e] at q
   exact⟨by decide,⟨.str _,H,I.tok _,⟨_,rfl⟩,q⟩⟩
  ·split
   ·rename_i h1 h2
    have e:n=1:=by
     rw [Bool.or_eq_true,beq_iff_eq,beq_iff_eq,l1] at h2
     rcases h2 with h2|h2
     ·exact h2
     ·cases h2
    subst e
    exact⟨.str _,H,I,⟨_,rfl⟩,q⟩
   ·have e:(⟨(List.replicate n.toNat #[c]).foldl (·++·) #[]⟩:Str)=reps c n.toNat:=by
     unfold reps
     rw [fold_reps,Array.empty_append]
    refine⟨?_,⟨.str _,H,I.tok _,⟨_,rfl⟩,?_⟩⟩
    ·show (⟨(List.replicate n.toNat #[c]).foldl (·++·) #[]⟩:Str).length≤sizeLine
     rw [e]
     show (Array.replicate n.toNat c).size≤sizeLine
     rw [Array.size_replicate]
     exact small2000 (by lia)
    ·show Q (.str ⟨(List.replicate n.toNat #[c]).foldl (·++·) #[]⟩) H
     rw [e]
     exact q
end
section
variable {H:Hp} {Q:VK} {a:Addr} {kvs:List (Key×V)} {z y:Str}
theorem r_notInF (h:Q (.bl (!(valV kvs (.inr z)).isSome)) H):rNotInF a kvs (.str z) (.ref a) H Q:=⟨z,rfl,rfl,h⟩
theorem r_ixF {v:V} (hv:valV kvs (.inr z)=some v) (h:Q v H):rIxF a kvs (.ref a) (.str z) H Q:=⟨z,v,rfl,rfl,hv,h⟩
theorem r_starts (h:Q (.bl (0+y.length≤z.length && Builtin.Str.subAt z y 0)) H):rStarts (.str z) [.str y] H Q:=⟨z,y,rfl,rfl,h⟩
theorem r_mul1 {c:Nat} {n:Int} (hn:-1000≤n∧n≤1000) (h:Q (.str (reps c n.toNat)) H):rMul1 (.str ⟨#[c]⟩) (.int n) H Q:=⟨c,n,rfl,rfl,hn,h⟩
end
end L2
namespace L2
open PySem PySem.Spec PyProof.Rows PySem.W
theorem pairs_keys {P:Program} {w:World}:∀ {es:List DictEntry} {vs:List (Key×Value)} {ks:List Str},Pairs (mixKind P w) es vs→vs.map (·.1)=ks.map Sum.inr→Vals (ks.map V.str) (es.map (·.key))
 | [],_,ks,.nil,h=>by
  cases ks with
  | nil=>exact .nil
  | cons a t=>cases h
 | e::es,_,ks,.cons h1 h2 t,h=>by
  cases ks with
  | nil=>cases h
  | cons a ks =>
   rw [List.map_cons,List.map_cons] at h
   injection h with h3 h4
   rw [h3] at h1
   rcases keyIs_shape (show keyIs (Sum.inr a) e.key=true from h1) with ⟨i,t',e1,_⟩|⟨x,t',e1,e2⟩
   ·cases e1
   ·cases e1
    exact .cons ⟨t',e2⟩ (pairs_keys t h4)
theorem kv_keys:∀ {kvs:List (Key×V)} {vs:List (Key×Value)},KV kvs vs→vs.map (·.1)=kvs.map (·.1)
 | _,_,.nil=>rfl
 | _,_,.cons h t=>by rw [List.map_cons,List.map_cons,kv_keys t,h.1]
noncomputable def rListF (a:Addr) (ks:List Str):List V→Hp→VK→Prop:=fun xs H Q=>xs=[.ref a]∧ks.length≤1000∧∀ l,H l=none→Q (.ref l) (upd H l (.lst (ks.map V.str)))
theorem call_listF {X:Cx} {a:Addr} {kvs:List (Key×V)} {ks:List Str} (F:FixedD X.prog X.w X.K a kvs) (hk:kvs.map (·.1)=ks.map Sum.inr) (hc:X.calm=true):CallR X (.type "list") (rListF a ks):=by
 intro pins s σ H xs us Q I r h
 obtain ⟨rfl,hl,q⟩:=h
 obtain ⟨u,rfl,ru⟩:=vals1 r
 cases ru
 obtain ⟨lo,hF⟩:=F
 obtain ⟨vs,rel,o,es,ep,e,ex,dat,_,prs,_⟩:=hF _ I.kIn
 have hv:=pairs_keys prs ((kv_keys rel).trans hk)
 have hes:es.size=ks.length:=by
  have:=hv.length
  rw [List.length_map,List.length_map,Array.length_toList] at this
  exact this.symm
 refine kdl_call (raw_src (es:=es) (ep:=ep) lo) (I.ok.hd hc) ⟨o,e,ex,dat⟩ (by rw [hes];exact small2000 (by lia)) fun h' tk acc c k hn it=>?_
 have ea:acc=(es.toList.map (·.key)).toArray:=by
  apply Array.ext
  ·rw [it.1];simp
  ·intro j h1 h2
   obtain ⟨hj,ev⟩:=it.2 j _ (Array.getElem?_eq_getElem h1)
   rw [ev]
   simp
 subst ea
 exact⟨.ref s.heap.objs.size,upd H s.heap.objs.size (.lst (ks.map V.str)),I.laid (t':=tk) k (Nat.le_refl _) ⟨by rw [List.length_map];exact small2000 (by lia),_,c,hv,hn⟩,rfl,q _ (I.hok.fresh (Nat.le_refl _))⟩
section
variable {H:Hp} {Q:VK} {a:Addr} {z y:Str}
theorem r_listF {ks:List Str} (hl:ks.length≤1000) (h:∀ l H2,H l=none→Same H H2→H2 l=some (.lst (ks.map V.str))→Q (.ref l) H2):rListF a ks [.ref a] H Q:=⟨rfl,hl,fun l hn=>h l _ hn (Same.upd_new hn) upd_same⟩
end
end L2
set_option maxRecDepth 100000
namespace L2
open PySem PySem.Spec PyProof.Rows
section
variable {M:Model} {A:Around} {E:Value→Shared→Prop} {s:Shared} {env:Env}
noncomputable def postX (M:Model) (A:Around) (E:Value→Shared→Prop) (Q:Value→Shared→Prop) (acc:Value) (cn:Env) (r:Result) (s':Shared):Prop :=
 match r with
 | .ok _=>∃ m,s'.heap.Ns cn.locals m∧∀ h',Heap.SameBut cn.locals s'.heap h'→Q acc { s' with heap:=h' }
 | .error x=>∃ m,s'.heap.Ns cn.locals m∧∀ h',Heap.SameBut cn.locals s'.heap h'→wpAny M A (passOn "comprehension.variables-let-go" x cn:Sem Value) (fun _ _=>False) E { s' with heap:=h' }
theorem comp_freeX {e:Expr} {scope:Scope} {pos:Pos} {mk fst:Sem Value} {g:Comprehension} {gs:List Comprehension} {cl:List (Str×Addr)} {Q:Value→Shared→Prop}
  (q1:clausesOf e=g::gs) (q2:∀ x,foldedSetIterable g.iter env x=pure x) (q3:closureFor scope env=pure cl) (q4:scope.kind=.function) (q5:∀ x∈scope.names,x.2=.local→scope.names.lookup x.1=some .local)
  (h:wpAny M A fst (fun x s1=>wpAny M A (pyIter x) (fun it s2=>wpAny M A mk (fun acc s3=>wpAny M A (newFunctionEnv scope env.globals cl [] env.qual none .none (some env)) (fun cn s4 =>
    codeAny M A (.compStart e 0 it acc { cn with scope:=relabel scope env }) (postX M A E Q acc { cn with scope:=relabel scope env }) s4) E s3) E s2) E s1) E s) :
  wpAny M A (comprehension e scope env pos mk false fst none) Q E s:=by
 unfold comprehension
 rw [q3,q1]
 refine wpAny_bind (wpAny_mono h (fun x s1 h1=>?_) fun _ _ z=>z)
 refine wpAny_bind (wpAny_standAt (wpAny_bind (wpAny_of_eq (q2 x) ?_)))
 refine wpAny_bind (wpAny_holding (wpAny_mono h1 (fun it s2 h2=>?_) fun _ _ z=>z))
 refine wpAny_standIf (wpAny_bind (wpAny_mono h2 (fun acc s3 h3=>?_) fun _ _ z=>z))
 refine wpAny_bind (wpAny_pure (wpAny_bind (wpAny_mono h3 (fun cn s4 h4=>?_) fun _ _ z=>z)))
 dsimp only
 have hv:∀ x∈(scope.names.filter fun x=>(x.2 == .local || x.2 == .cell) && x.1 != (".0":Str)).reverse,x.2=.local→Env.kindOf { cn with scope:=relabel scope env } x.1=some .local :=
  fun x hx hl=>lookup_relabel_local (q5 x (List.mem_filter.mp (List.mem_reverse.mp hx)).1 hl)
 refine wpAny_holding (wpAny_bind (wpAny_attempt (wpAny_holding (wpAny_run (codeAny_mono h4 fun r s' hr=>?_)))))
 cases r with
 | ok f =>
  obtain ⟨m,hn,hr⟩:=hr
  exact wpAny_bind (wpAny_holding (wpAny_comp_letGo (cenv:={ cn with scope:=relabel scope env }) q4 _ s' m hv hn fun h' m' _ hs'=>wpAny_pure (hr h' hs')))
 | error x =>
  obtain ⟨m,hn,hr⟩:=hr
  exact wpAny_bind (wpAny_holding (wpAny_comp_letGo (cenv:={ cn with scope:=relabel scope env }) q4 _ s' m hv hn fun h' m' _ hs'=>wpAny_mono (hr h' hs') (fun _ _ f=>f.elim) fun _ _ y=>y))
end
noncomputable def tCompX (EX:EXT) (ix:List (Option Nat)) (wi:TI) (g:TG) (tt:TT) (te:EXT→TE):TE:=fun σ H Q=>wi σ H fun J H1=>CompGoal ix g tt (te fun C _ H'=>EX C σ H') σ Q J H1
section
variable {X:Cx} {EX:EXT}
theorem thnF {M:Model} {A:Around} {α:Type} {m:Sem α} {P Q:α→Shared→Prop} {E:Value→Shared→Prop} {s:Shared} (h:wpAny M A m P (fun _ _=>False) s) (k:∀ a s',P a s'→Q a s'):wpAny M A m Q E s:=wpAny_mono h k fun _ _ z=>z.elim
theorem compPins {pins pl:List (Addr×Obj)} {N:List Str} {scope:Scope} {C:Addr} {s s':Shared} {H H':Hp} {fp:List Addr} {σ:St} (I:Inv (compCx X pins N scope C s H fp) pl σ H' s'):Inv (compCx X (pins++pl) N scope C s H fp) [] σ H' s':=by
 obtain ⟨⟨a1,a2,a3,a4,a5,a6,a7,a8,a9,b1,b2,b3,b4,b5,b6,b7,b8,b9⟩,c2,c3,c4,c5,c6,c7,c8,c9,d1,d2⟩:=I
 exact⟨⟨a1,a2,a3,a4,a5,a6,a7,a8,a9,b1,b2,b3,b4,b5,b6,b7,b8,b9⟩,c2,c3,c4,c5,c6,c7,c8,fun p hp=>c9 p (by
  have hp':p∈(X.pn++(pins++pl))++[]:=hp
  show p∈(X.pn++pins)++pl
  simpa using hp'),d1,d2⟩
theorem compUnp {pins pl:List (Addr×Obj)} {N:List Str} {scope:Scope} {C:Addr} {s s':Shared} {H H':Hp} {fp:List Addr} {σ:St} (I:Inv (compCx X (pins++pl) N scope C s H fp) [] σ H' s'):Inv (compCx X pins N scope C s H fp) pl σ H' s':=by
 obtain ⟨⟨a1,a2,a3,a4,a5,a6,a7,a8,a9,b1,b2,b3,b4,b5,b6,b7,b8,b9⟩,c2,c3,c4,c5,c6,c7,c8,c9,d1,d2⟩:=I
 exact⟨⟨a1,a2,a3,a4,a5,a6,a7,a8,a9,b1,b2,b3,b4,b5,b6,b7,b8,b9⟩,c2,c3,c4,c5,c6,c7,c8,fun p hp=>c9 p (by
  have hp':p∈(X.pn++pins)++pl:=hp
  show p∈(X.pn++(pins++pl))++[]
  simpa using hp'),d1,d2⟩
theorem pe_compX {tg iter elt:Expr} {ifs:List Expr} {scope:Scope} {pos:Pos} {N:List Str} {ix:List (Option Nat)} {wi:TI} {g:TG} {tt:TT} {te:EXT→TE}
  (hst:X.stack=X.env::X.outer) (hfm:X.env.frame=some X.env.locals) (hex:X.ex=[]) (hX:∀ e s',XM X EX e s'→X.xe e s') (hc:X.calm=true) (hi:PI X tg iter wi)
  (hg:∀ pins C s H fp,PG (compCx X pins N scope C s H fp) tg g)
  (ht:∀ pins C s H fp,PTs (compCx X pins N scope C s H fp) ifs tt)
  (he:∀ pins C s H fp EY,(∀ b∈fp,∃ o,(b,o)∈pins)→PE ((compCx X pins N scope C s H fp).wish (XW (compCx X pins N scope C s H fp) EY)) elt (te EY))
  (hk:scope.kind=.function) (hcell:∀ y∈scope.names,y.2≠.cell) (hnames:∀ y∈scope.names,y.2=.local→scope.names.lookup y.1=some .local)
  (hfr0:(scope.names.all fun y=>!(y.2 == NameKind.free) || (X.env.cells.lookup y.1).isSome)=true) (hix:IxOk X scope N ix)
  (hs:∀ x,foldedSetIterable iter X.env x=pure x:=by intro _;rfl) :
  PE X (.ListComp elt [⟨tg,iter,ifs,0⟩] scope pos) (tCompX EX ix wi g tt te):=by
 intro pins s σ H Q I h
 have hfr:∀ y∈scope.names,y.2=.free→(X.env.cells.lookup y.1).isSome=true:=fun y hy e=>by
  have z:=List.all_eq_true.mp hfr0 y hy
  rw [e] at z
  simpa using z
 have hfr':∀ p∈scope.names,p.2=.free→∃ c,X.env.cells.lookup p.1=some c:=fun p hp e=>Option.isSome_iff_exists.mp (hfr p hp e)
 have clsub:∀ x c,(clOf X.env.cells scope.names []).lookup x=some c→X.env.cells.lookup x=some c:=clOf_sub (fun x c q=>by simp at q)
 have clhas:∀ x,scope.names.lookup x=some .free→∃ c,(clOf X.env.cells scope.names []).lookup x=some c:=fun x hx=>by
  have hm:=PySem.mem_of_lookup hx
  exact Option.isSome_iff_exists.mp (clOf_has (.inr ⟨hm,hfr _ hm rfl⟩))
 rw [eval_ListComp]
 refine comp_freeX rfl hs (closure_eq hfr') hk hnames (thn (hi pins s σ H _ I h) fun v s1 h1=>thn h1 fun itv s2 h2=>?_)
 obtain ⟨it,fp,tn,J,H2,e,I2,T,st2,f2,hW⟩:=h2
 subst e
 have hfree2:H2 s2.heap.objs.size=none:=I2.hok.fresh (Nat.le_refl _)
 obtain ⟨W,⟨m0,w0⟩,turn⟩:=hW s2.heap.objs.size hfree2
 refine wpAny_newObj_type ?_
 have I3:Inv X pins σ (upd H2 s2.heap.objs.size (.lst [])) { s2 with heap:=s2.heap.push { cls:=.type "list",data:=.seq ([]:List Value).toArray } }:=I2.lnew (its:=[]) (t':=s2.toks) .nil (Nat.zero_le _)
 have f3:∀ b∈fp,FpOk X pins (upd H2 s2.heap.objs.size (.lst [])) b:=fun b hb=>by
  refine⟨?_,(f2 b hb).2⟩
  obtain ⟨o,eo,_⟩:=T.obj _ _ st2 b hb
  rw [upd_ne (Nat.ne_of_lt (Heap.lt_size eo))]
  exact (f2 b hb).1
 have st3:tn 0 (s2.heap.push { cls:=.type "list",data:=.seq ([]:List Value).toArray }):=T.keep _ _ _ st2 fun b _ o e=>Heap.get?_push_of_some _ e
 generalize hs3:({ s2 with heap:=s2.heap.push { cls:=.type "list",data:=.seq ([]:List Value).toArray } }:Shared)=s3 at I3
 have st3:tn 0 s3.heap:=by rw [← hs3];exact st3
 generalize hH3:upd H2 s2.heap.objs.size (.lst [])=H3 at I3 f3 w0
 generalize hacc:s2.heap.objs.size=acc at *
 refine wpAny_newFunctionEnv hcell (by intro y hy;simp at hy) (fun h₁ hns₁ hsb₁=>?_) hk
 have old:∀ b o,s3.heap.get? b=some o→h₁.get? b=some o:=fun b o q=>hsb₁.extBut b o (Nat.ne_of_lt (Heap.lt_size q)) (Heap.get?_push_of_some _ q)
 have hCfree:H3 s3.heap.objs.size=none:=I3.hok.fresh (Nat.le_refl _)
 have fpl:∀ b∈fp,b<s3.heap.objs.size:=fun b hb=>by
  obtain ⟨o,eo,_⟩:=T.obj _ _ st3 b hb
  exact Heap.lt_size eo
 have nstk:∀ b,b≠X.env.locals→b∉X.fs→b∉frs X.stack:=fun b h1 h2 z=>by
  rcases List.mem_cons.mp (I3.stkSub b z) with q|q
  ·exact h1 q
  ·exact h2 q
 have clt:∀ x c,X.env.cells.lookup x=some c→c<s3.heap.objs.size:=fun x c q=>by
  obtain ⟨v,z⟩:=I3.cell x c q
  exact z.lt
 have YI:∀ (h':Heap) (m:Str→Option Value),(∀ b o,s3.heap.get? b=some o→h'.get? b=some o)→h'.Ns s3.heap.objs.size m →
   Inv (compCx X pins N scope s3.heap.objs.size s3 H3 fp) [] (pick ix σ) H3 { s3 with heap:=h',toks:=s3.toks+([]:List (Str×Value)).length }:=by
  intro h' m hk' hn
  refine⟨⟨I3.ok.mod,hk,I3.ok.glob,I3.ok.blt,Nat.le_refl _,fun x y c q1 q2=>I3.ok.inj x y c (clsub x c q1) (clsub y c q2),fun x hx=>clhas x (relabel_not_local hcell hx),fun x c hf _=>absurd hf Bool.false_ne_true,
   I3.ok.hd,I3.ok.frames,.inl rfl,fun b hb=>⟨Nat.ne_of_lt (fpl b hb),fun x c q=>(f3 b hb).2.2.2.2.1 x c (clsub x c q)⟩,I3.bs,Nat.le_trans I3.ok.bsz I3.sz,fun b o e hb=>?_,fun b hb=>nstk b (f3 b hb).2.1 (f3 b hb).2.2.1,I3.stack,I3.stkFree⟩,
   rfl,I3.bare,Un.kept hk',⟨m,hn,fun i x v h1 h2 h3=>?_⟩,fun x c q=>?_,hCfree,fun x c q=>I3.freeC x c (clsub x c q),fun p hp=>?_,I3.hok.kept hk',?_⟩
  ·have q:=(I3.bs b o e).2
   rcases (f3 b hb).2.2.2.1 with z|z
   ·exact I3.ok.noex b o e z
   ·exact absurd (Nat.lt_of_lt_of_le (Heap.lt_size e) (Nat.le_trans I3.ok.bsz z)) (Nat.lt_irrefl _)
  ·obtain ⟨j,e1,e2⟩:=pick_get h2
   obtain ⟨a1,a2,a3,a4⟩:=hix.get h1 e1
   obtain ⟨mX,hnX,hlX⟩:=I3.loc
   obtain ⟨u,ru,l⟩:=hlX j x v a1 e2 a2
   refine⟨u,ru,?_⟩
   rcases l with ⟨l1,_⟩|⟨_,c,lc,z⟩
   ·have l1':X.env.scope.names.lookup x=some .local:=l1
    rw [l1'] at a3
    exact absurd a3 (by decide)
   ·obtain ⟨c',hc'⟩:=clhas x a4
    have ec:=clsub x c' hc'
    rw [lc] at ec
    have ec':c=c':=Option.some.inj ec
    subst ec'
    exact .inr ⟨relabel_free a4,c,hc',z.keeps hk'⟩
  ·obtain ⟨v,z⟩:=I3.cell x c (clsub x c q)
   exact⟨v,z.keeps hk'⟩
  ·have hp':p∈X.pn++pins:=by simpa using hp
   obtain ⟨a1,a2,a3,a4,a5⟩:=I3.pin p hp'
   exact⟨hk' _ _ a1,a2,Nat.ne_of_lt (Heap.lt_size a1),nstk p.1 a3 a4,a5⟩
  ·show (pick ix σ).length=N.length
   unfold pick
   rw [List.length_map]
   exact hix.len
 have fpY:∀ {pl:List (Addr×Obj)} {H':Hp},pl=[]→(∀ b∈fp,H' b=none)→∀ b∈fp,FpOk (compCx X pins N scope s3.heap.objs.size s3 H3 fp) pl H' b:=fun {pl H'} epl hn b hb=>by
  obtain ⟨f0,f1,f2',f3',f4,f5⟩:=f3 b hb
  subst epl
  exact⟨hn b hb,Nat.ne_of_lt (fpl b hb),nstk b f1 f2',.inl hb,fun x c q=>f4 x c (clsub x c q),fun p hp=>f5 p (by simpa using hp)⟩
 have hErr:∀ e s',(∃ pl,(∀ b∈fp,∃ o,(b,o)∈pl)∧XW (compCx X (pins++pl) N scope s3.heap.objs.size s3 H3 fp) (fun C _ H'=>EX C σ H') e s')→notedBy (model X.prog X.w) X.A (compEnvC scope (clOf X.env.cells scope.names []) s3.heap.objs.size X.env)
   (fun e s'=>postX (model X.prog X.w) X.A X.xe (EP X pins σ Q) (.ref acc) (compEnvC scope (clOf X.env.cells scope.names []) s3.heap.objs.size X.env) (.error e) s') e s':=by
  rintro e s' ⟨pl,hpl,a,C,σ',H',rfl,I0,⟨oe,vs,T0,he',hc',hdi,hd,hsz,hh,hHa,⟨h0a,hpa⟩,hT'⟩,hEX⟩
  have h0a':s3.heap.get? a=none:=h0a
  have hT3:∀ T,T0=some T→H' T=none∧s3.heap.get? T=none:=fun T z=>⟨(hT' T z).1,(hT' T z).2.1⟩
  have fr1:X.A.frames=some (X.env::X.outer):=by rw [← hst];exact I3.ok.frames
  have hFF:s'.heap.FunFrames X.base X.stack:=I0.stack
  show wpAny _ _ (noteFrame (.ref a) X.env) _ _ s'
  refine note_one (base:=X.base) (L:=X.env.locals) fr1 (hst ▸ hFF) hfm he' hd hh fun h1 T k1 k2 k3 k4 k5 k6=>?_
  obtain ⟨n1,n2,n3⟩:=I0.recd he' hd
  have n1':a≠s3.heap.objs.size:=n1
  obtain ⟨mC,hnC,_⟩:=I0.loc
  have hnC':s'.heap.Ns s3.heap.objs.size mC:=hnC
  obtain ⟨oC,esC,epC,hoC,rC⟩:=id hnC'
  have tC:∀ T',T0=some T'→T'≠s3.heap.objs.size:=fun T' z=>by
   subst z
   obtain ⟨_,_,oT,ts,q1,q2,_⟩:=hh
   exact (I0.recd q1 q2).1
  have nTC:T≠s3.heap.objs.size:=fun z=>by rw [z,hoC] at k3;cases k3
  obtain ⟨slC,gC⟩:=k2 s3.heap.objs.size oC (Ne.symm n1') (fun z=>tC _ z.symm rfl) hoC
  refine⟨mC,⟨_,esC,epC,gC,rC⟩,fun h2 sb=>?_⟩
  have g5:h2.get? a=some (oe.mapFields (·.setIfInBounds 1 (.ref T))):=(sb.2 a n1').trans k5
  obtain ⟨oT,ts,t1,t2,t3⟩:=k6
  have g6:h2.get? T=some oT:=(sb.2 T nTC).trans t1
  have hd5:=Obj.data_mapFields hd (·.setIfInBounds 1 (Value.ref T))
  have h15:(vs.setIfInBounds 1 (Value.ref T))[1]?=some (.ref T):=by simp [hsz]
  unfold PySem.passOn
  refine wpAny_bind (wpAny_field g5 hd5 h15 ?_)
  rw [if_neg (by simp)]
  show wpAny _ _ (setFlight (.ref a) X.env.frame >>= fun _=>throw _) _ _ _
  rw [hfm]
  refine wpAny_bind (flight_to (s:={ s' with heap:=h2 }) g5 hd5 h15 g6 t2 (Array.getElem?_eq_some_iff.mp t3).1 fun h3 f1 f2=>wpAny_throw (hX _ _ ?_))
  obtain ⟨oT',ts',q1,q2,q3⟩:=f2
  have T2:H' T=none:=I0.hok.free k3
  have fpT:∀ b∈fp,b≠a∧b≠T∧some b≠T0:=fun b hb=>by
   obtain ⟨o,hbo⟩:=hpl b hb
   have hm:(b,o)∈(compCx X (pins++pl) N scope s3.heap.objs.size s3 H3 fp).pn:=by
    show (b,o)∈X.pn++(pins++pl)
    exact List.mem_append_right _ (List.mem_append_right _ hbo)
   have z:=(I0.pin (b,o) (List.mem_append_left _ hm)).1
   exact⟨hpa (b,o) hm,fun e=>(by rw [show (b,o).1=b from rfl,e,k3] at z;cases z),fun e=>(hT' b e.symm).2.2 (b,o) hm rfl⟩
  have T3:s3.heap.get? T=none:=by
   cases q:s3.heap.get? T with
   | none=>rfl
   | some o =>
    by_cases hx:T∈fp
    ·exact absurd rfl (fpT T hx).2.1
    ·obtain ⟨o',z⟩:=I0.base.there T o q hx
     rw [k3] at z;cases z
  have ne:∀ b o,s3.heap.get? b=some o→b≠a∧some b≠T0∧b≠s3.heap.objs.size∧b≠T:=fun b o q=>⟨fun z=>(by rw [z,h0a'] at q;cases q),fun z=>(by rw [(hT3 b z.symm).2] at q;cases q),Nat.ne_of_lt (Heap.lt_size q),fun z=>(by rw [z,T3] at q;cases q)⟩
  have u3:Un (frs X.stack) fp H3 H' s3.heap h3:=by
   refine⟨fun b o q n hb hx=>?_,fun b o q n hb hx=>?_,fun b o q n hx=>I0.base.free b o q n hx,fun b o q hx=>?_,I0.base.tups,I0.base.frzs,I0.base.tbls⟩
   ·obtain ⟨e1,e2,e3,e4⟩:=ne b o q
    exact f1 b o e4 ((sb.2 b e3).trans (k1 b o e1 e2 (hst ▸ hb) (I0.base.keep b o q n hb hx)))
   ·obtain ⟨e1,e2,e3,e4⟩:=ne b o q
    obtain ⟨sl,q1⟩:=I0.base.slot b o q n hb hx
    obtain ⟨sl',q2⟩:=k2 b _ e1 e2 q1
    exact⟨sl',f1 b _ e4 ((sb.2 b e3).trans q2)⟩
   ·obtain ⟨e1,e2,e3,e4⟩:=ne b o q
    obtain ⟨o',q1⟩:=I0.base.there b o q hx
    obtain ⟨sl',q2⟩:=k2 b _ e1 e2 q1
    exact⟨_,f1 b _ e4 ((sb.2 b e3).trans q2)⟩
  have hok3:HOk X.prog X.w H' h3:=I0.hok.off (ch:=a::s3.heap.objs.size::(T0.toList++frs X.stack)) (fun b hb=>by
   simp only [List.mem_cons,List.mem_append] at hb
   rcases hb with rfl|rfl|hb|hb
   ·exact hHa
   ·exact I0.free
   ·cases T0 with
    | none=>simp at hb
    | some T1 =>
     simp only [Option.toList_some,List.mem_singleton] at hb
     rw [hb];exact (hT3 T1 rfl).1
   ·exact I0.stkFree b hb) fun b o hb q=>by
    simp only [List.mem_cons,List.mem_append,not_or] at hb
    have nT:b≠T:=fun z=>by rw [z,k3] at q;cases q
    exact f1 b o nT ((sb.2 b hb.2.1).trans (k1 b o hb.1 (fun z=>hb.2.2.1 (by rw [← z];simp)) (hst ▸ hb.2.2.2) q))
  have IX:Inv X pins σ H' { s' with heap:=h3 }:=I3.call' (ch:=fp) I0.os u3 hok3 I0.bare fun b hb=>by
   obtain ⟨f0,f1',f2',f3',f4,f5⟩:=f3 b hb
   exact⟨f3',f1',f4,f5⟩
  have nw:∀ b,s3.heap.get? b=none→X.s₀.heap.get? b=none:=fun b z=>by
   cases q:X.s₀.heap.get? b with
   | none=>rfl
   | some o =>
    obtain ⟨o',q1⟩:=I3.base.there b o q (by rw [hex];simp)
    rw [z] at q1;cases q1
  have np:∀ b,s3.heap.get? b=none→∀ p∈X.pn,p.1≠b:=fun b z p hp q=>by
   have:=(I3.pin p (List.mem_append_left _ hp)).1
   rw [q,z] at this;cases this
  have g7:h3.get? a=some (oe.mapFields (·.setIfInBounds 1 (.ref T))):=f1 a _ (Ne.symm k4) g5
  exact⟨a,C,σ,H',rfl,(IX.pins_of fun p hp=>absurd hp (by simp)).wish _,⟨_,_,T,oT',ts',g7,(Obj.cls_mapFields _ _).trans hc',(mapFields_dict _ _).trans hdi,hd5,by simpa using hsz,h15,k4,q1,q2,q3,hHa,⟨nw a h0a',fun p hp=>np a h0a' p hp⟩,T2,nw T T3,fun p hp=>np T T3 p hp⟩,hEX⟩
 have loop:∀ s4:Shared,(∃ m,s4={ s3 with heap:=h₁,toks:=s3.toks+([]:List (Str×Value)).length }∧h₁.Ns s3.heap.objs.size m) →
   codeAny (model X.prog X.w) X.A (.compLoop (.ListComp elt [⟨tg,iter,ifs,0⟩] scope pos) 0 (.ref it) (.ref acc) (compEnvC scope (clOf X.env.cells scope.names []) s3.heap.objs.size X.env))
    (postX (model X.prog X.w) X.A X.xe (EP X pins σ Q) (.ref acc) (compEnvC scope (clOf X.env.cells scope.names []) s3.heap.objs.size X.env)) s4:=by
  rintro s4 ⟨m4,rfl,hn4⟩
  refine comp_loop (E:=fun e s'=>∃ pl,(∀ b∈fp,∃ o,(b,o)∈pl)∧XW (compCx X (pins++pl) N scope s3.heap.objs.size s3 H3 fp) (fun C _ H'=>EX C σ H') e s') hErr
   (fun n s'=>∃ i σ' ys H',Inv (compCx X pins N scope s3.heap.objs.size s3 H3 fp) [] σ' H' s'∧tn i s'.heap∧(∀ b∈fp,H' b=none)∧W i n σ' ys H') ?_ m0
   ⟨0,pick ix σ,[],H3,YI h₁ m4 old hn4,T.keep _ _ _ st3 fun b _ o q=>old b o q,fun b hb=>(f3 b hb).1,w0⟩
  rintro n s5 ⟨i,σ5,ys,H5,I5,st5,fr5,w5⟩
  obtain ⟨hl5,hstep⟩:=turn i n σ5 ys H5 w5
  rcases hstep with ⟨stop,q⟩|⟨go,m',hm',step⟩
  ·refine thn (T.done (compCx X pins N scope s3.heap.objs.size s3 H3 fp) rfl rfl rfl hc i [] s5 σ5 H5 _ I5 (fpY rfl fr5) st5 stop) fun r s6 ⟨hr,I6⟩=>?_
   subst hr
   obtain ⟨m6,hn6,_⟩:=I6.loc
   refine⟨m6,hn6,fun h' sb=>?_⟩
   refine⟨.ref acc,H5,I3.call' (ch:=fp) I6.os (I6.base.letGo (Nat.le_refl _) sb) (I6.hok.letGo I6.free sb) I6.bare fun b hb=>?_,rfl,q⟩
   obtain ⟨f0,f1,f2',f3',f4,f5⟩:=f3 b hb
   exact⟨f3',f1,f4,f5⟩
  ·refine thn (T.item (compCx X pins N scope s3.heap.objs.size s3 H3 fp) rfl rfl rfl hc i [] s5 σ5 H5 _ I5 (fpY rfl fr5) st5 go) fun r s6 ⟨u,hr,h6⟩=>?_
   subst hr
   refine thn h6 fun _ s7 ⟨x,H7,I7,r7,y7,st7,fr7⟩=>?_
   have I7':=I7.pinned (fpY rfl fr7) (T.obj _ _ st7)
   refine thnF (hg pins s3.heap.objs.size s3 H3 fp _ s7 σ5 H7 x u _ I7' r7 (step x H7 y7)) fun _ s8 ⟨σ8,H8,I8,q8⟩=>?_
   refine thnF (wp_tests (ht pins s3.heap.objs.size s3 H3 fp) I8 q8) fun b s9 ⟨H9,I9,q9⟩=>?_
   have back:∀ {σz:St} {Hz:Hp} {sz:Shared} {yz:List V},Inv (compCx X pins N scope s3.heap.objs.size s3 H3 fp) ([]++pinsAt fp s7.heap) σz Hz sz→W (i+1) m' σz yz Hz →
     ∃ m,m<n∧∃ i σ' ys H',Inv (compCx X pins N scope s3.heap.objs.size s3 H3 fp) [] σ' H' sz∧tn i sz.heap∧(∀ b∈fp,H' b=none)∧W i m σ' ys H':=fun {σz Hz sz yz} Iz wz=>by
    refine⟨m',hm',i+1,σz,yz,Hz,Iz.unpinned,T.keep _ _ _ st7 fun b hb o e=>(Iz.pin (b,o) (List.mem_append_right _ (List.mem_append_right _ (mem_pinsAt hb e)))).1,fun b hb=>?_,wz⟩
    obtain ⟨o,e,d⟩:=T.obj _ _ st7 b hb
    exact (Iz.pin (b,o) (List.mem_append_right _ (List.mem_append_right _ (mem_pinsAt hb e)))).2.1
   cases b with
   | false=>exact back I9 q9
   | true =>
    have cov:∀ b∈fp,∃ o,(b,o)∈[]++pinsAt fp s7.heap:=fun b hb=>by
     obtain ⟨o,e,d⟩:=T.obj _ _ st7 b hb
     exact⟨o,List.mem_append_right _ (mem_pinsAt hb e)⟩
    refine wpAny_mono (he (pins++([]++pinsAt fp s7.heap)) s3.heap.objs.size s3 H3 fp (fun C _ H'=>EX C σ H') (fun b hb=>(cov b hb).imp fun _ z=>List.mem_append_right _ z) [] s9 σ8 H9 _ ((compPins I9).wish _) q9) (fun v s10 ⟨y,H10,I10',r10,hl10,hz10,w10⟩=>?_) fun e s' z=>⟨_,cov,z⟩
    have I10:=compUnp (Inv.unwish I10')
    refine thnF (mt_append _ s10 σ8 H10 (.ref acc) [y] (.ref acc) [v] (fun _ H'=>H'=upd H10 acc (.lst (ys++[y]))) I10 rfl (.cons r10 .nil) ⟨acc,ys,y,rfl,rfl,hl10,hz10,rfl⟩) fun _ s11 ⟨_,H11,I11,_,e11⟩=>?_
    subst e11
    exact back I11 w10
 have hn4:∃ m,h₁.Ns s3.heap.objs.size m:=⟨_,hns₁⟩
 obtain ⟨m4,hn4⟩:=hn4
 have L:=loop _ ⟨m4,rfl,hn4⟩
 exact codeAny_compStart_list L (T.self _ 0 _ _ _ (T.keep _ _ _ st3 fun b _ o q=>old b o q) L)
theorem r_compX {ix:List (Option Nat)} {wi:TI} {g:TG} {tt:TT} {te:EXT→TE} {σ:St} {H:Hp} {Q:VK} (h:tComp ix wi g tt (te fun C _ H'=>EX C σ H') σ H Q):tCompX EX ix wi g tt te σ H Q:=h
theorem pcallXc {k:Nat} {x:Str} {ps:List Str} {sp:Sp} {p pos:Pos} {e:Expr} {es:List Expr} {t:TA} (O:OkX X.prog X.w X.K X.mg X.base k x ps sp) (hr:Room k X.A) (hX:∀ e s',XW X EX e s'→X.xe e s') (hex:∀ b∈X.ex,∃ o,(b,o)∈X.pn) (ha:PA X (e::es) t) (hg:Gl X x:=by rfl)
  (hdb:(x == ("__debug__":Str))=false:=by decide) (he:starEach (e::es) X.env=(false,eval e X.env)::starEach es X.env:=by rfl) (hpl:(backTo pos (starEach es X.env)).any (·.1)=false:=by rfl) :
  PE X (.Call (.Name x p) (e::es) [] pos) (tCallX sp EX t):=by
 obtain ⟨f,fd,F,hm,hk,hb⟩:=O
 intro pins s σ H Q I h
 refine wpAny_Call_Name_kw (ld_glob I hg hm ?_ hdb)
 refine PySem.W.callWith_K (h₀:=X.base) I.ok.mod.kin hk (thn (ha pos pins s σ H _ I h) fun us s1 ⟨vs,H1,I1,r,q⟩=>⟨I1.kIn,?_⟩) he hpl
 have r2:Vals (vs++[]) (us++[]):=r.append .nil
 have hl:(us++[]).length=ps.length:=by rw [← r2.length,List.append_nil];exact F.len _ _ _ _ q
 rw [List.append_nil] at r2
 refine wpAny_call (codeAny_mono (F.run X.A X.stack s1 H1 ⟨us,[]⟩ (us++[]) vs Q _ hr I1.env0 (hb s1 us I1.kIn hl) r2 q) fun r s' hq=>?_)
 cases r with
 | error e =>
  obtain ⟨a,C,H',rfl,ho,hg',un,hok,⟨oe,vs',T0,e1,e2,e3,e4,e5,e6,e7,e8,e9⟩,c,ec,hE⟩:=hq
  cases ec
  have I2:Inv X pins σ H' s':=I1.call' (ch:=[]) ho un hok hg' fun b z=>absurd z (by simp)
  have nw:∀ b,s1.heap.get? b=none→X.s₀.heap.get? b=none:=fun b z=>by
   cases q:X.s₀.heap.get? b with
   | none=>rfl
   | some o =>
    obtain ⟨o',q1⟩:=I1.base.there b o q (fun hx=>by
     obtain ⟨o2,hm2⟩:=hex b hx
     have z2:=(I1.pin (b,o2) (List.mem_append_left _ hm2)).1
     rw [show (b,o2).1=b from rfl,z] at z2;cases z2)
    rw [z] at q1;cases q1
  have np:∀ b,s1.heap.get? b=none→∀ p∈X.pn,p.1≠b:=fun b z p hp q=>by
   have:=(I1.pin p (List.mem_append_left _ hp)).1
   rw [q,z] at this;cases this
  exact hX _ _ ⟨a,C,σ,H',rfl,(I2.pins_of fun p hp=>absurd hp (by simp)).wish _,⟨oe,vs',T0,e1,e2,e3,e4,e5,e6,e7,⟨nw a e8.1,fun p hp=>np a e8.1 p hp⟩,fun T z=>⟨(e9 T z).1,nw T (e9 T z).2.1,fun p hp=>np T (e9 T z).2.1 p hp⟩⟩,hE⟩
 | ok fl =>
  cases fl with
  | ret u=>exact I1.after hq
  | next=>exact False.elim hq
  | brk=>exact False.elim hq
  | cont=>exact False.elim hq
end
end L2
namespace Srt
open PySem PySem.W PyProof.Rows
section
variable {n:Nat} {key:Nat→Int}
noncomputable def ky (key:Nat→Int) (p:Array Nat) (i:Nat):Int:=key (p.getD i 0)
end
end Srt
namespace L2
open PySem PySem.Spec PySem.W PyProof.Rows
noncomputable def lk (r:List Int):Int:=r.foldl (fun k a=>k*4000001+a) 0
end L2
set_option maxRecDepth 100000
set_option maxRecDepth 100000
namespace L2
open PySem PySem.Spec PyProof.Rows PySem.W
theorem strs_of_vals:∀ {zs:List Str} {its:List Value},Vals (zs.map V.str) its→∃ l:List (Str×Tok),strValues l=its∧l.map (·.1)=zs
 | [],_,h=>by cases h;exact⟨[],rfl,rfl⟩
 | z::zs,_,h=>by
  cases h with
  | cons r h =>
   obtain ⟨t,rfl⟩:=r
   obtain ⟨l,e1,e2⟩:=strs_of_vals h
   exact⟨(z,t)::l,by rw [← e1];rfl,by rw [← e2];rfl⟩
noncomputable def rJoinL:V→List V→Hp→VK→Prop:=fun x xs H Q=>∃ y l zs,x=.str y∧xs=[.ref l]∧H l=some (.lst (zs.map V.str))∧y.length≤1∧((zs.map (·.length)).sum+zs.length≤100000)∧Q (.str (Str.join y zs)) H
theorem mt_joinL {X:Cx}:MtR X "str.join" rJoinL:=by
 intro pins s σ H x xs v us Q I rx rs h
 obtain ⟨y,l,zs,rfl,rfl,hl,hy,hw,q⟩:=h
 obtain ⟨t,rfl⟩:=rx
 obtain ⟨u,rfl,ru⟩:=vals1 rs
 cases ru
 obtain ⟨z,its,n,r,e⟩:=(show ObjOk X.prog X.w H s.heap l (.lst (zs.map V.str)) from I.hok l _ hl)
 obtain ⟨ps,e1,e2⟩:=strs_of_vals r
 subst e1
 refine SC.join (l:=ps) ⟨_,e,rfl,n,rfl⟩ e2 (joinOk_of_weight (by lia) (by lia)) fun t' k=>?_
 have ej:Txt.join y zs=Str.join y zs:=eq_of_beq (join_closes (ys:=zs) (rfl:y=y))
 rw [ej]
 exact⟨.str _,H,I.tok _,⟨_,rfl⟩,q⟩
section
variable {X:Cx} {p1 p2 pos1 pos2:Pos} {e:Expr} {t:TE}
variable {σ:St} {H:Hp} {Q:VK}
theorem r_joinL {y:Str} {l:Addr} {zs:List Str} (hl:H l=some (.lst (zs.map V.str))) (hy:y.length≤1) (hw:(zs.map (·.length)).sum+zs.length≤100000) (h:Q (.str (Str.join y zs)) H):rJoinL (.str y) [.ref l] H Q:=⟨y,l,zs,rfl,rfl,hl,hy,hw,h⟩
end
end L2
set_option maxRecDepth 100000
set_option maxRecDepth 100000
set_option maxRecDepth 100000
namespace L2
open PySem PySem.Spec PyProof.Rows PySem.W
noncomputable def rIndexD (K:PySem.W.Frag):V→List V→Hp→VK→Prop:=fun x vs H Q=>∃ (p:Addr) (ys:List V) (y:V) (d:PyData) (ds:List PyData) (j:Nat),x=.ref p∧vs=[y]∧SqL K H p ys∧Tells K H ys ds∧Tell K H y d∧PyData.canLayAll0 ds=true∧d.canLay0=true∧d.depth≤60∧j≤1000∧(∃ z,ds[j]?=some z∧PyData.eqv z d=true)∧(∀ (m:Nat) (z:PyData),m<j→ds[m]?=some z→PyData.eqv z d=false)∧Q (.int (j:Int)) H
theorem mt_indexD {X:Cx} (hu:X.A.units+64<cLine):MtR X "list.index" (rIndexD X.K):=by
 intro pins s σ H x vs v us Q I rx rs h
 obtain ⟨p,ys,y,d,ds,j,rfl,rfl,hs,ht,hd,c1,c2,hz,hj,⟨z0,hz0,hz1⟩,hno,q⟩:=h
 obtain ⟨u,rfl,ru⟩:=vals1 rs
 obtain ⟨as,ra⟩:=(Tell.lst hs ht).reads I rx
 obtain ⟨bs,rb⟩:=hd.reads I ru
 cases ra with
 | @list a o its n _ as h1 h2 h3 h4 =>
  obtain ⟨cls,dd,data,sl⟩:=o
  simp only at h2 h3
  subst h2 h3
  have hm:=SeqAt.readsAll_map ds _ _ c1 h4
  have hat:∀ (m:Nat) (hm':m<its.size),ds[m]?=some (SeqAt.readOf s.heap its[m]):=fun m hm'=>by
   rw [← hm,List.getElem?_map,Array.getElem?_toList,Array.getElem?_eq_getElem hm']
   rfl
  have hjs:j<its.size:=by
   have e:(its.toList.map (SeqAt.readOf s.heap)).length=ds.length:=by rw [hm]
   rw [List.length_map,Array.length_toList] at e
   have:=(List.getElem?_eq_some_iff.mp hz0).1
   lia
  refine call_meets F.slot_list_index ⟨_,h1,rfl⟩ F.entry_list_index (F.args_list_index_2 _ _) (SeqAt.list_indexAt _ its n dd sl u (fun w=>PyData.eqv (SeqAt.readOf s.heap w) d) j hjs (by lia) ?_ (fun m hm' hmj=>?_)) ⟨h1,SeqAt.items_eqAt h4 rb c1 c2 (by have:=Nat.min_le_right (PyData.depthAll ds) d.depth;lia),⟨.int _,H,I.tok _,⟨_,rfl⟩,q⟩⟩
  ·have:=hat j hjs
   rw [hz0] at this
   cases this
   exact hz1
  ·exact hno m _ hmj (hat m hm')
theorem kmt_indexD {X:Cx} (K:PySem.W.Frag) (hK:X.K=K) (hu:X.A.units+64<cLine):MtR X "list.index" (rIndexD K):=hK ▸ mt_indexD hu
theorem r_indexD {K:PySem.W.Frag} {H:Hp} {Q:VK} {p:Addr} {ys:List V} {y:V} {d:PyData} {ds:List PyData} (j:Nat) (hs:SqL K H p ys) (ht:Tells K H ys ds) (hd:Tell K H y d) (c1:PyData.canLayAll0 ds=true) (c2:d.canLay0=true) (hz:d.depth≤60) (hj:j≤1000) (h1:∃ z,ds[j]?=some z∧PyData.eqv z d=true) (h2:∀ (m:Nat) (z:PyData),m<j→ds[m]?=some z→PyData.eqv z d=false) (h:Q (.int (j:Int)) H):rIndexD K (.ref p) [y] H Q:=⟨p,ys,y,d,ds,j,rfl,rfl,hs,ht,hd,c1,c2,hz,hj,h1,h2,h⟩
end L2

theorem PySem.W.Fast.tw13233042215740985167 : True := trivial
theorem PySem.W.Fast.tw9796853870017316467 : True := trivial
theorem PySem.W.Fast.tw13220570479123670158 : True := trivial
theorem PySem.W.Fast.tw5913572415108927637 : True := trivial
theorem PySem.W.Fast.tw1890381815676556008 : True := trivial
theorem PySem.W.Fast.tw16045687327658323543 : True := trivial
theorem PySem.W.Fast.tw16853070532932001591 : True := trivial
theorem PySem.W.Fast.tw11773164858226215152 : True := trivial
theorem PySem.W.Fast.tw15491894165771218408 : True := trivial
theorem PySem.W.Fast.tw3114148564580202360 : True := trivial
theorem PySem.W.Fast.tw2494379291209483879 : True := trivial
theorem PySem.W.Fast.tw15562338487529214539 : True := trivial
theorem PySem.W.Fast.tw16175333693220876779 : True := trivial
theorem PySem.W.Fast.tw2619699107000504232 : True := trivial
theorem PySem.W.Fast.tw14386479455030431010 : True := trivial
theorem PySem.W.Fast.tw15062556789278970436 : True := trivial
theorem PySem.W.Fast.tw17703136869382569935 : True := trivial
theorem PySem.W.Fast.tw5065165179291731998 : True := trivial
theorem PySem.W.Fast.tw14493220925925675990 : True := trivial
theorem PySem.W.Fast.tw17297583881132973578 : True := trivial
theorem PySem.W.Fast.tw789192886529514075 : True := trivial
theorem PySem.W.Fast.tw4415031954663861698 : True := trivial
theorem PySem.W.Fast.tw3538664505342339188 : True := trivial
theorem PySem.W.Fast.tw1687389322962891151 : True := trivial
theorem PySem.W.Fast.tw17962349162548723959 : True := trivial
theorem PySem.W.Fast.tw14472936725707891198 : True := trivial
theorem PySem.W.Fast.tw14452290029305900286 : True := trivial
theorem PySem.W.Fast.tw8973835574702808030 : True := trivial
theorem PySem.W.Fast.tw137978767821251472 : True := trivial
theorem PySem.W.Fast.tw15409524088941963623 : True := trivial
theorem PySem.W.Fast.tw12413903326833744554 : True := trivial
theorem PySem.W.Fast.tw5704501634779138134 : True := trivial
theorem PySem.W.Fast.tw13625896174867910150 : True := trivial
theorem PySem.W.Fast.tw2036597876021962357 : True := trivial
theorem PySem.W.Fast.tw3955823993066310665 : True := trivial
theorem PySem.W.Fast.tw4223764380391494686 : True := trivial
theorem PySem.W.Fast.tw10382163757309450040 : True := trivial
theorem PySem.W.Fast.tw13671793093899169610 : True := trivial
theorem PySem.W.Fast.tw16048173031463250294 : True := trivial
theorem PySem.W.Fast.tw2197262658690082843 : True := trivial
theorem PySem.W.Fast.tw11733145731895286000 : True := trivial
theorem PySem.W.Fast.tw13145372781636455658 : True := trivial
theorem PySem.W.Fast.tw17652659912288736822 : True := trivial
theorem PySem.W.Fast.tw628307967503471277 : True := trivial
theorem PySem.W.Fast.tw17311985873896169582 : True := trivial
theorem PySem.W.Fast.tw14039802893094852192 : True := trivial
theorem PySem.W.Fast.tw553710192919963683 : True := trivial
theorem PySem.W.Fast.tw1435063643359381798 : True := trivial
theorem PySem.W.Fast.tw16106039317865556623 : True := trivial
theorem PySem.W.Fast.tw7421223605347696624 : True := trivial
theorem PySem.W.Fast.tw972057786763600195 : True := trivial
theorem PySem.W.Fast.tw7158333701334045087 : True := trivial
theorem PySem.W.Fast.tw6442489230351786653 : True := trivial
theorem PySem.W.Fast.tw9622856016576902075 : True := trivial
theorem PySem.W.Fast.tw10954173837065010640 : True := trivial
theorem PySem.W.Fast.tw9252339268805536570 : True := trivial
theorem PySem.W.Fast.tw4299301342034562591 : True := trivial
theorem PySem.W.Fast.tw3715895880880808391 : True := trivial
theorem PySem.W.Fast.tw11705693721308515352 : True := trivial
theorem PySem.W.Fast.tw16723124293631960925 : True := trivial
theorem PySem.W.Fast.tw8896337366151743111 : True := trivial
theorem PySem.W.Fast.tw17569810646888620501 : True := trivial
theorem PySem.W.Fast.tw10788462632009968561 : True := trivial
theorem PySem.W.Fast.tw1011120038564763919 : True := trivial
theorem PySem.W.Fast.tw7982825329694195115 : True := trivial
theorem PySem.W.Fast.tw4938405319406673782 : True := trivial
theorem PySem.W.Fast.tw11133649279178386949 : True := trivial
theorem PySem.W.Fast.tw6100444826311780142 : True := trivial
theorem PySem.W.Fast.tw17570903131718654320 : True := trivial
theorem PySem.W.Fast.tw2248098170722998840 : True := trivial
theorem PySem.W.Fast.tw217994081793461322 : True := trivial
theorem PySem.W.Fast.tw17643047216603302832 : True := trivial
theorem PySem.W.Fast.tw1817517233014243671 : True := trivial
theorem PySem.W.Fast.tw13270882083125229106 : True := trivial
theorem PySem.W.Fast.tw4872030217093664307 : True := trivial
theorem PySem.W.Fast.tw4540037455695198106 : True := trivial
theorem PySem.W.Fast.tw7664320090478952127 : True := trivial
theorem PySem.W.Fast.tw17034830543957883935 : True := trivial
theorem PySem.W.Fast.tw6698569293754710727 : True := trivial
theorem PySem.W.Fast.tw12927290492191758836 : True := trivial
theorem PySem.W.Fast.tw6304814001711155463 : True := trivial
theorem PySem.W.Fast.tw4570103980948600303 : True := trivial
theorem PySem.W.Fast.tw6504234522385457522 : True := trivial
theorem PySem.W.Fast.tw73292592404367599 : True := trivial
theorem PySem.W.Fast.tw3992779257370752972 : True := trivial
theorem PySem.W.Fast.tw3796152477149678243 : True := trivial
theorem PySem.W.Fast.tw2507976224650791106 : True := trivial
theorem PySem.W.Fast.tw17252884824509912412 : True := trivial
theorem PySem.W.Fast.tw14749660619436014293 : True := trivial
theorem PySem.W.Fast.tw13443826634682829248 : True := trivial
theorem PySem.W.Fast.tw8396280009716241115 : True := trivial
theorem PySem.W.Fast.tw3048038691511635069 : True := trivial
theorem PySem.W.Fast.tw9978970482660793759 : True := trivial
theorem PySem.W.Fast.tw5887209843829284064 : True := trivial
theorem PySem.W.Fast.tw18195950331911697470 : True := trivial
theorem PySem.W.Fast.tw12054353233832964460 : True := trivial
theorem PySem.W.Fast.tw13798839893258277271 : True := trivial
theorem PySem.W.Fast.tw9843991722887016841 : True := trivial
theorem PySem.W.Fast.tw5683187765928331006 : True := trivial
theorem PySem.W.Fast.tw17119907283123335799 : True := trivial
theorem PySem.W.Fast.tw17980628193453413615 : True := trivial
theorem PySem.W.Fast.tw2116833510765780606 : True := trivial
theorem PySem.W.Fast.tw15901712446015003436 : True := trivial
theorem PySem.W.Fast.tw4340155489941131648 : True := trivial
theorem PySem.W.Fast.tw15620976758211937077 : True := trivial
theorem PySem.W.Fast.tw9445261963780849176 : True := trivial
namespace Law
open PySem L2
noncomputable def top (i:Nat):Stmt:=PySem.Challenge.pw_tuningyard_k25_scales_written_read.main.body.getD i (.Pass ⟨0,0,0,0⟩)
noncomputable abbrev s_is_counting:Stmt:=top 6
noncomputable abbrev s_is_signed:Stmt:=top 7
noncomputable abbrev s_is_whole:Stmt:=top 12
noncomputable abbrev s_is_row:Stmt:=top 13
noncomputable abbrev s_is_tone:Stmt:=top 14
noncomputable abbrev s_tone_of:Stmt:=top 15
noncomputable abbrev s_times:Stmt:=top 16
noncomputable abbrev s_over:Stmt:=top 17
noncomputable abbrev s_power:Stmt:=top 18
noncomputable abbrev s_raised:Stmt:=top 19
noncomputable abbrev s_number_of:Stmt:=top 20
noncomputable abbrev s_fraction_of:Stmt:=top 21
noncomputable abbrev s_run_length:Stmt:=top 27
noncomputable abbrev s_count_read:Stmt:=top 28
noncomputable abbrev s_count_text:Stmt:=top 29
noncomputable abbrev s_octave_read:Stmt:=top 30
noncomputable abbrev s_named:Stmt:=top 31
noncomputable abbrev s_name_of:Stmt:=top 32
noncomputable abbrev s_measure:Stmt:=top 34
noncomputable abbrev s_rising:Stmt:=top 35
noncomputable abbrev s_octaves:Stmt:=top 36
noncomputable abbrev s_folded:Stmt:=top 37
noncomputable abbrev s_scale_tone:Stmt:=top 41
noncomputable abbrev s_scale_of:Stmt:=top 42
noncomputable abbrev s_scale_text:Stmt:=top 43
noncomputable abbrev s_scale_read:Stmt:=top 44
noncomputable abbrev s_law_cell:Stmt:=top 46
noncomputable abbrev s_law_part:Stmt:=top 47
noncomputable abbrev s_law_signed:Stmt:=top 48
noncomputable abbrev s_law_fraction:Stmt:=top 49
noncomputable abbrev s_law_folded:Stmt:=top 50
noncomputable abbrev s_law_plus:Stmt:=top 51
noncomputable abbrev s_law_less:Stmt:=top 52
noncomputable abbrev s_law_lower:Stmt:=top 53
noncomputable abbrev s_law_scale:Stmt:=top 54
noncomputable abbrev s_law_within:Stmt:=top 55
noncomputable abbrev s_law_is_row:Stmt:=top 56
noncomputable abbrev s_law_rows:Stmt:=top 57
noncomputable abbrev s_law_word:Stmt:=top 58
noncomputable abbrev s_law_kinds:Stmt:=top 59
noncomputable abbrev s_law_asked:Stmt:=top 60
noncomputable abbrev s_law_names:Stmt:=top 61
noncomputable abbrev s_law_text:Stmt:=top 62
noncomputable abbrev s_law:Stmt:=top 63
@[elab_as_elim] theorem of_len1 {α : Type} {P : List α → Prop} (us : List α) (hl : us.length = 1) (h : ∀ a0 : α, P [a0]) : P us :=
 match us,hl with|[a0],_=>h a0
@[elab_as_elim] theorem of_len2 {α : Type} {P : List α → Prop} (us : List α) (hl : us.length = 2) (h : ∀ a0 a1 : α, P [a0, a1]) : P us :=
 match us,hl with|[a0,a1],_=>h a0 a1
@[elab_as_elim] theorem of_len3 {α : Type} {P : List α → Prop} (us : List α) (hl : us.length = 3) (h : ∀ a0 a1 a2 : α, P [a0, a1, a2]) : P us :=
 match us,hl with|[a0,a1,a2],_=>h a0 a1 a2
noncomputable def Kn (K:PySem.W.Frag) (H:Hp) (v:V):Prop:=(∃ i,v=.int i)∨(∃ b,v=.bl b)∨v=.non∨(∃ s,v=.str s)∨(∃ a xs,v=.ref a∧SqL K H a xs)∨(∃ a xs,v=.ref a∧SqT K H a xs)
theorem Kn.same {K:PySem.W.Frag} {H H':Hp} {v:V} (h:Kn K H v) (s:Same H H'):Kn K H' v:=by
 rcases h with h|h|h|h|⟨a,xs,h,z⟩|⟨a,xs,h,z⟩
 ·exact .inl h
 ·exact .inr (.inl h)
 ·exact .inr (.inr (.inl h))
 ·exact .inr (.inr (.inr (.inl h)))
 ·exact .inr (.inr (.inr (.inr (.inl ⟨a,xs,h,s.seq z⟩))))
 ·exact .inr (.inr (.inr (.inr (.inr ⟨a,xs,h,s.at z⟩))))
noncomputable def wh:V→Bool
 | .int _=>true
 | _=>false
noncomputable def NT (K:PySem.W.Frag) (H:Hp) (v:V):Prop:=(∃ i,v=.int i)∨v=.non∨(∃ s,v=.str s)∨(∃ a xs,v=.ref a∧SqL K H a xs)
noncomputable def Odd (K:PySem.W.Frag) (H:Hp) (v:V):Prop:=(∃ (a:Addr) (xs:List V),v=.ref a∧SqT K H a xs∧xs.length≤1000∧(∀ x∈xs,Kn K H x)∧(decide (xs.length=5) && xs.all wh)=false)∨NT K H v
noncomputable def fits (x0 x1 x2 x3 x4:Int):Bool:=[decide ((if x0<0 then -x0 else x0)≤700),decide ((if x1<0 then -x1 else x1)≤60),decide ((if x2<0 then -x2 else x2)≤60),decide ((if x3<0 then -x3 else x3)≤60),decide ((if x4<0 then -x4 else x4)≤60)].all id
noncomputable def pickA (a0 a1 a2 a3 a4 a5 a6:Addr) (c:Nat):Option V:=if c=70 then some (.ref a0) else if c=67 then some (.ref a1) else if c=71 then some (.ref a2) else if c=68 then some (.ref a3) else if c=65 then some (.ref a4) else if c=69 then some (.ref a5) else if c=66 then some (.ref a6) else none
theorem key1 {s:String} {d c:Nat} (h:PySem.Str.ofString s=⟨#[d]⟩):(Sum.inr (PySem.Str.ofString s):Key)=Sum.inr ⟨#[c]⟩↔c=d:=by
 rw [h]
 constructor
 ·intro e;exact (Sgn.one_iff.mp (Sum.inr.inj e)).symm
 ·rintro rfl;rfl
theorem letr_val {a0 a1 a2 a3 a4 a5 a6:Addr} (c:Nat):valV [(.inr "F",.ref a0),(.inr "C",.ref a1),(.inr "G",.ref a2),(.inr "D",.ref a3),(.inr "A",.ref a4),(.inr "E",.ref a5),(.inr "B",.ref a6)] ((.inr ⟨#[c]⟩):Key)=pickA a0 a1 a2 a3 a4 a5 a6 c:=by
 unfold valV pickA
 simp only [List.find?_cons,List.find?_nil,key1 (s:="F") (d:=70) (by decide),key1 (s:="C") (d:=67) (by decide),key1 (s:="G") (d:=71) (by decide),key1 (s:="D") (d:=68) (by decide),key1 (s:="A") (d:=65) (by decide),key1 (s:="E") (d:=69) (by decide),key1 (s:="B") (d:=66) (by decide)]
 by_cases h0:c=70
 ·simp [h0]
 by_cases h1:c=67
 ·simp [h0,h1]
 by_cases h2:c=71
 ·simp [h0,h1,h2]
 by_cases h3:c=68
 ·simp [h0,h1,h2,h3]
 by_cases h4:c=65
 ·simp [h0,h1,h2,h3,h4]
 by_cases h5:c=69
 ·simp [h0,h1,h2,h3,h4,h5]
 by_cases h6:c=66
 ·simp [h0,h1,h2,h3,h4,h5,h6]
 ·simp [h0,h1,h2,h3,h4,h5,h6]
theorem letr_nil {a0 a1 a2 a3 a4 a5 a6:Addr}:valV [(.inr "F",.ref a0),(.inr "C",.ref a1),(.inr "G",.ref a2),(.inr "D",.ref a3),(.inr "A",.ref a4),(.inr "E",.ref a5),(.inr "B",.ref a6)] ((.inr (PySem.Str.ofString "")):Key)=none:=by
 unfold valV
 have k:∀ s:String,PySem.Str.ofString s≠PySem.Str.ofString ""→((Sum.inr (PySem.Str.ofString s):Key)=Sum.inr (PySem.Str.ofString ""))=False:=fun s h=>eq_false fun e=>h (Sum.inr.inj e)
 simp only [List.find?_cons,List.find?_nil,k "F" (by decide),k "C" (by decide),k "G" (by decide),k "D" (by decide),k "A" (by decide),k "E" (by decide),k "B" (by decide),decide_false]
 rfl
theorem letr_none {a0 a1 a2 a3 a4 a5 a6:Addr} {c:Nat} (h:Nam.letr c=none):pickA a0 a1 a2 a3 a4 a5 a6 c=none:=by
 unfold Nam.letr at h
 unfold pickA
 repeat (split at h;cases h;rw [if_neg (by assumption)])
theorem mulS {x n:Int} (hx:-1000≤x∧x≤1000) (hn:-1000≤n∧n≤1000):CMulB x n:=by
 have h1:bitsI x≤10:=by rw [Mth.bits_bl];exact Mth.bl_le (by lia)
 have h2:bitsI n≤10:=by rw [Mth.bits_bl];exact Mth.bl_le (by lia)
 unfold CMulB
 lia
noncomputable def RB (f h:Int) (r:List Int):Prop:=∃ a0 a1 a2 a3 a4:Int,r=[a0,a1,a2,a3,a4]∧(-f≤a0∧a0≤f)∧(-h≤a1∧a1≤h)∧(-h≤a2∧a2≤h)∧(-h≤a3∧a3≤h)∧(-h≤a4∧a4≤h)
theorem RB.mono {f h f' h':Int} {r:List Int} (x:RB f h r) (h1:f≤f') (h2:h≤h'):RB f' h' r:=by
 obtain ⟨a0,a1,a2,a3,a4,rfl,⟨_,_⟩,⟨_,_⟩,⟨_,_⟩,⟨_,_⟩,⟨_,_⟩⟩:=x
 exact⟨a0,a1,a2,a3,a4,rfl,by lia,by lia,by lia,by lia,by lia⟩
noncomputable def nsr (r:List Int):Int:=Mth.NS (r.getD 0 0) (r.getD 1 0) (r.getD 2 0) (r.getD 3 0) (r.getD 4 0)
noncomputable def FoldR (r:List Int):Prop:=Mth.Fold (r.getD 0 0) (r.getD 1 0) (r.getD 2 0) (r.getD 3 0) (r.getD 4 0)
theorem RB.bd {r:List Int} {f h:Int} (x:RB f h r) (hf:f≤4000) (hh:h≤100):Mth.Bd (r.getD 0 0) (r.getD 1 0) (r.getD 2 0) (r.getD 3 0) (r.getD 4 0):=by
 obtain ⟨a0,a1,a2,a3,a4,rfl,⟨_,_⟩,⟨_,_⟩,⟨_,_⟩,⟨_,_⟩,⟨_,_⟩⟩:=x
 show Mth.Bd a0 a1 a2 a3 a4
 unfold Mth.Bd
 lia
theorem nsr_inj {r q:List Int} {f h:Int} (x:RB f h r) (y:RB f h q) (hf:f≤4000) (hh:h≤100) (e:nsr r=nsr q):r=q:=by
 have b1:=x.bd hf hh
 have b2:=y.bd hf hh
 obtain ⟨a0,a1,a2,a3,a4,rfl,_⟩:=x
 obtain ⟨c0,c1,c2,c3,c4,rfl,_⟩:=y
 obtain ⟨e0,e1,e2,e3,e4⟩:=Mth.NS_inj b1 b2 e
 have e0':a0=c0:=e0
 have e1':a1=c1:=e1
 have e2':a2=c2:=e2
 have e3':a3=c3:=e3
 have e4':a4=c4:=e4
 rw [e0',e1',e2',e3',e4']
noncomputable def msr (r:List Int):Int:=Mth.prod5 ((r.getD 0 0)+700).toNat ((r.getD 1 0)+60).toNat ((r.getD 2 0)+60).toNat ((r.getD 3 0)+60).toNat ((r.getD 4 0)+60).toNat
noncomputable def ok30 (r:List Int):Bool:=[decide ((if r.getD 1 0<0 then -r.getD 1 0 else r.getD 1 0)≤30),decide ((if r.getD 2 0<0 then -r.getD 2 0 else r.getD 2 0)≤30),decide ((if r.getD 3 0<0 then -r.getD 3 0 else r.getD 3 0)≤30),decide ((if r.getD 4 0<0 then -r.getD 4 0 else r.getD 4 0)≤30)].all id
noncomputable def foldR (r:List Int):List Int:=[r.getD 0 0 - Mth.octR (Mth.top5 (r.getD 0 0) (r.getD 1 0) (r.getD 2 0) (r.getD 3 0) (r.getD 4 0)) (Mth.bot5 (r.getD 0 0) (r.getD 1 0) (r.getD 2 0) (r.getD 3 0) (r.getD 4 0)),r.getD 1 0,r.getD 2 0,r.getD 3 0,r.getD 4 0]
theorem ok30_max {x0 x1 x2 x3 x4 m:Int} (h1:m∈[if x1<0 then -x1 else x1,if x2<0 then -x2 else x2,if x3<0 then -x3 else x3,if x4<0 then -x4 else x4]) (h2:∀ x∈[if x1<0 then -x1 else x1,if x2<0 then -x2 else x2,if x3<0 then -x3 else x3,if x4<0 then -x4 else x4],x≤m):decide (m≤30)=ok30 [x0,x1,x2,x3,x4]:=by
 have g1:=h2 _ (List.mem_cons_self ..)
 have g2:=h2 (if x2<0 then -x2 else x2) (by simp)
 have g3:=h2 (if x3<0 then -x3 else x3) (by simp)
 have g4:=h2 (if x4<0 then -x4 else x4) (by simp)
 show _=[decide ((if x1<0 then -x1 else x1)≤30),decide ((if x2<0 then -x2 else x2)≤30),decide ((if x3<0 then -x3 else x3)≤30),decide ((if x4<0 then -x4 else x4)≤30)].all id
 simp only [List.mem_cons,List.not_mem_nil,or_false] at h1
 rw [Bool.eq_iff_iff]
 simp only [List.all_cons,List.all_nil,Bool.and_eq_true,decide_eq_true_eq,id,Bool.and_true]
 constructor
 ·intro z
  exact⟨by lia,by lia,by lia,by lia⟩
 ·rintro ⟨z1,z2,z3,z4⟩
  rcases h1 with rfl|rfl|rfl|rfl <;> assumption
theorem ok30_rb {r:List Int} (x:RB 700 60 r) (h:ok30 r=true):RB 1000 30 r:=by
 obtain ⟨a0,a1,a2,a3,a4,rfl,b0,_⟩:=x
 have h':[decide ((if a1<0 then -a1 else a1)≤30),decide ((if a2<0 then -a2 else a2)≤30),decide ((if a3<0 then -a3 else a3)≤30),decide ((if a4<0 then -a4 else a4)≤30)].all id=true:=h
 simp only [List.all_cons,List.all_nil,Bool.and_eq_true,decide_eq_true_eq,id,Bool.and_true] at h'
 obtain ⟨z1,z2,z3,z4⟩:=h'
 refine⟨a0,a1,a2,a3,a4,rfl,by lia,?_,?_,?_,?_⟩
 ·split at z1 <;> lia
 ·split at z2 <;> lia
 ·split at z3 <;> lia
 ·split at z4 <;> lia
theorem foldR_fold {r:List Int} (x:RB 700 60 r):FoldR (foldR r):=by
 obtain ⟨a0,a1,a2,a3,a4,rfl,_⟩:=x
 exact Mth.fold_oct a0 a1 a2 a3 a4
theorem foldR_rb {r:List Int} (x:RB 700 60 r) (h:ok30 r=true):RB 400 30 (foldR r):=by
 have f:=foldR_fold x
 obtain ⟨a0,a1,a2,a3,a4,rfl,_,b1,b2,b3,b4⟩:=ok30_rb x h
 exact⟨_,_,_,_,_,rfl,Mth.fold_bd b1 b2 b3 b4 f,b1,b2,b3,b4⟩
theorem nsr_msr {r:List Int} (x:RB 400 30 r):nsr r=msr r*Mth.prod5 3300 40 40 40 40:=by
 obtain ⟨a0,a1,a2,a3,a4,rfl,_⟩:=x
 exact Mth.ms_NS (a:=a0) (b:=a1) (c:=a2) (d:=a3) (e:=a4) (by lia) (by lia) (by lia) (by lia) (by lia)
theorem strict_of {qs:List (List Int)} (nd:qs.Nodup) (hb:∀ q∈qs,RB 400 30 q) (so:qs.Pairwise fun a b=>msr a≤msr b):qs.Pairwise fun a b=>nsr a<nsr b:=by
 have both:=List.Pairwise.and nd so
 refine (List.Pairwise.and_mem.mp both).imp fun {a b} h=>?_
 obtain ⟨ha,hb',hne,hle⟩:=h
 have e1:=nsr_msr (hb a ha)
 have e2:=nsr_msr (hb b hb')
 have hp:0<Mth.prod5 3300 40 40 40 40:=Mth.prod5_pos ..
 have hl:nsr a≤nsr b:=by rw [e1,e2];exact Int.mul_le_mul_of_nonneg_right hle (Int.le_of_lt hp)
 have hn:nsr a≠nsr b:=fun z=>hne (nsr_inj (hb a ha) (hb b hb') (by decide) (by decide) z)
 omega +splitDisjunctions
noncomputable def nameL (t0 t1 t2 t3 t4:Int):List Nat :=
 ([70,67,71,68,65,69,66]:List Nat).getD ((t1 - t4 - 2*t3+4*t2+1) % 7).toNat 0::(Nam.seg 35 98 ((t1 - t4 - 2*t3+4*t2+1) / 7)++(Nam.seg 43 45 (-t2)++(Nam.seg 62 60 (-t3)++(Nam.seg 94 118 t4++(46::(PySem.Str.ofString (toString (t0+5*t4+6*t3 - 4*t2+11*((t1 - t4 - 2*t3+4*t2+1) / 7) - ([2,0,-1,-3,-4,-6,-7]:List Int).getD ((t1 - t4 - 2*t3+4*t2+1) % 7).toNat 0))).cps.toList)))))
theorem fits_RB {x0 x1 x2 x3 x4:Int} (h:fits x0 x1 x2 x3 x4=true):RB 700 60 [x0,x1,x2,x3,x4]:=by
 unfold fits at h
 simp only [List.all_cons,List.all_nil,Bool.and_eq_true,decide_eq_true_eq,id,Bool.and_true] at h
 obtain ⟨z0,z1,z2,z3,z4⟩:=h
 refine⟨x0,x1,x2,x3,x4,rfl,?_,?_,?_,?_,?_⟩
 ·split at z0 <;> lia
 ·split at z1 <;> lia
 ·split at z2 <;> lia
 ·split at z3 <;> lia
 ·split at z4 <;> lia
noncomputable def rowZ (z:Str):List Int:=(Nam.nmd z).getD []
theorem sp32:PySem.Str.ofString " "=⟨#[32]⟩:=by decide
noncomputable def WZ (z:Str):Prop:=z.length≤30∧32∉z.cps.toList∧0<z.length∧∃ x0 x1 x2 x3 x4:Int,Nam.nmd z=some [x0,x1,x2,x3,x4]∧fits x0 x1 x2 x3 x4=true
noncomputable def nmZ (r:List Int):Str:=⟨(nameL (r.getD 0 0) (r.getD 1 0) (r.getD 2 0) (r.getD 3 0) (r.getD 4 0)).toArray⟩
theorem J_le (c m:Nat):∀ {ls:List (List Nat)},(∀ x∈ls,x.length≤m)→(Nam.J c ls).length≤(m+1)*ls.length
 | [],_=>Nat.zero_le _
 | [x],h=>by
  have:=h x (.head _)
  show x.length≤(m+1)*1
  lia
 | x::y::r,h=>by
  have h1:=h x (.head _)
  have h2:=J_le c m (ls:=y::r) fun z hz=>h z (.tail _ hz)
  show (x++c::Nam.J c (y::r)).length≤(m+1)*((y::r).length+1)
  rw [List.length_append,List.length_cons,Nat.mul_add]
  lia
theorem join_len {zs:List Str} (hw:∀ z∈zs,WZ z) (h:zs.length≤60):(PySem.Str.join ⟨#[32]⟩ zs).length≤2000:=by
 have e:(PySem.Str.join ⟨#[32]⟩ zs).length=(PySem.Str.join ⟨#[32]⟩ zs).cps.toList.length:=Array.length_toList.symm
 rw [e,Nam.join_cps]
 have h1:=J_le 32 30 (ls:=zs.map fun w=>w.cps.toList) fun x hx=>by
  obtain ⟨w,hwm,rfl⟩:=List.mem_map.mp hx
  have:=(hw w hwm).1
  have e:w.cps.toList.length=w.length:=Array.length_toList
  lia
 rw [List.length_map] at h1
 have:(30+1)*zs.length≤31*60:=Nat.mul_le_mul (Nat.le_refl _) h
 lia
theorem J_len (c:Nat):∀ {ls:List (List Nat)} {x:List Nat},x∈ls→x.length≤(Nam.J c ls).length
 | [y],x,h=>by rw [List.mem_singleton.mp h];exact Nat.le_refl _
 | y::w::r,x,h=>by
  show x.length≤(y++c::Nam.J c (w::r)).length
  rw [List.length_append,List.length_cons]
  rcases List.mem_cons.mp h with rfl|h
  ·lia
  ·have:=J_len c h;lia
theorem join_pos {zs:List Str} (hne:zs≠[]) (hw:∀ z∈zs,WZ z):0<(PySem.Str.join ⟨#[32]⟩ zs).length:=by
 obtain ⟨z,hz⟩:=List.exists_mem_of_ne_nil _ hne
 have e:(PySem.Str.join ⟨#[32]⟩ zs).length=(PySem.Str.join ⟨#[32]⟩ zs).cps.toList.length:=Array.length_toList.symm
 rw [e,Nam.join_cps]
 have h1:=J_len 32 (ls:=zs.map fun w=>w.cps.toList) (List.mem_map.mpr ⟨z,hz,rfl⟩)
 have h2:=(hw z hz).2.2.1
 have e2:z.cps.toList.length=z.length:=Array.length_toList
 lia
noncomputable def WdN (N:Str) (r0 r1 r2 r3 r4:Int):Prop:=∃ (j L:Nat) (b0 k0 k1 k2 k3:Int),j<7∧([70,67,71,68,65,69,66]:List Nat).getD j 0=L∧([2,0,-1,-3,-4,-6,-7]:List Int).getD j 0=b0∧Nam.letr L=some [b0,(j:Int) - 1,0,0,0]∧(-2≤k0∧k0≤2)∧(-2≤k1∧k1≤2)∧(-2≤k2∧k2≤2)∧(-2≤k3∧k3≤2)∧N.cps.toList=L::(Nam.seg 35 98 k0++(Nam.seg 43 45 k1++(Nam.seg 62 60 k2++Nam.seg 94 118 k3)))∧r0=b0+-11*k0+-4*k1+6*k2+-5*k3∧r1=(j:Int) - 1+7*k0+4*k1+-2*k2+k3∧r2=-k1∧r3=-k2∧r4=k3
noncomputable def stR:Nat→List Int
 | 0=>[-11,7,0,0,0]
 | 1=>[-4,4,-1,0,0]
 | 2=>[6,-2,0,-1,0]
 | _=>[-5,1,0,0,1]
noncomputable def cdR:Nat→Nat×Nat
 | 0=>(35,98)
 | 1=>(43,45)
 | 2=>(62,60)
 | _=>(94,118)
inductive WB (L:Nat) (b0 b1:Int):Nat→List Nat→List Int→Prop where
 | nil:WB L b0 b1 0 [L] [b0,b1,0,0,0]
 | snoc {i:Nat} {nm:List Nat} {e0 e1 e2 e3 e4 x0 x1 x2 x3 x4:Int} {ca cb:Nat} (k:Int) (h:WB L b0 b1 i nm [e0,e1,e2,e3,e4]) (hk:-2≤k∧k≤2) (hs:stR i=[x0,x1,x2,x3,x4]) (hc:cdR i=(ca,cb)):WB L b0 b1 (i+1) (nm++Nam.seg ca cb k) [e0+k*x0,e1+k*x1,e2+k*x2,e3+k*x3,e4+k*x4]
theorem st_up (e x:Int) (t:Nat):e+1*(t:Int)*x+x=e+1*((t+1:Nat):Int)*x:=by
 rw [Int.natCast_add,Int.mul_add,Int.add_mul];lia
theorem st_dn (e x:Int) (t:Nat):e+-1*(t:Int)*x - x=e+-1*((t+1:Nat):Int)*x:=by
 rw [Int.natCast_add,Int.mul_add,Int.add_mul];lia
theorem seg_is (ca cb:Nat) (ct:Int):Nam.seg ca cb ct=List.replicate (if ct<0 then -ct else ct).toNat (if ct<0 then cb else ca):=by
 unfold Nam.seg
 by_cases h:ct<0
 ·rw [if_pos h,if_pos h,show ct.toNat=0 by lia];rfl
 ·rw [if_neg h,if_neg h,show (-ct).toNat=0 by lia];simp
theorem WB.four {L:Nat} {b0 b1:Int} {nm:List Nat} {e0 e1 e2 e3 e4:Int} (h:WB L b0 b1 4 nm [e0,e1,e2,e3,e4]):∃ k0 k1 k2 k3:Int,(-2≤k0∧k0≤2)∧(-2≤k1∧k1≤2)∧(-2≤k2∧k2≤2)∧(-2≤k3∧k3≤2)∧nm=L::(Nam.seg 35 98 k0++(Nam.seg 43 45 k1++(Nam.seg 62 60 k2++Nam.seg 94 118 k3)))∧e0=b0+-11*k0+-4*k1+6*k2+-5*k3∧e1=b1+7*k0+4*k1+-2*k2+k3∧e2=-k1∧e3=-k2∧e4=k3:=by
 cases h with|snoc k3 h h3 s3 c3 =>
 cases s3;cases c3
 cases h with|snoc k2 h h2 s2 c2 =>
 cases s2;cases c2
 cases h with|snoc k1 h h1 s1 c1 =>
 cases s1;cases c1
 cases h with|snoc k0 h h0 s0 c0 =>
 cases s0;cases c0
 cases h
 exact⟨k0,k1,k2,k3,h0,h1,h2,h3,by simp,by lia,by lia,by lia,by lia,by lia⟩
theorem half_at (c:Int):∃ h:Int,atI [V.int 0,V.int 1,V.int 1,V.int 2] (c % 4)=some (.int h)∧(0≤h∧h≤2):=by
 have hz:c % 4=0∨c % 4=1∨c % 4=2∨c % 4=3:=by lia
 generalize c % 4=z at hz
 rcases hz with rfl|rfl|rfl|rfl
 ·exact⟨0,rfl,by decide⟩
 ·exact⟨1,rfl,by decide⟩
 ·exact⟨1,rfl,by decide⟩
 ·exact⟨2,rfl,by decide⟩
noncomputable def wOct (N:Str) (o:Int):Str:=(N++PySem.Str.ofString ".")++PySem.Str.ofString (toString o)
theorem num_len {o:Int} (h:-999≤o∧o≤999):(PySem.Str.ofString (toString o)).length≤4∧∀ c∈(PySem.Str.ofString (toString o)).cps.toList,33≤c∧c<200:=by
 obtain ⟨n,hn⟩:∃ n:Nat,o=n∨(o=-((n+1:Nat):Int)):=by
  by_cases h0:0≤o
  ·exact⟨o.toNat,.inl (by lia)⟩
  ·exact⟨(-o - 1).toNat,.inr (by lia)⟩
 have fg:∀ m:Nat,m<10 ^ 3→(Sgn.txt m).length≤3∧∀ c∈(Sgn.txt m).cps.toList,33≤c∧c<200:=fun m hm=>⟨Sgn.txt_size (by decide) hm,fun c hc=>by
  rcases Nat.eq_zero_or_pos m with rfl|hp
  ·have e:(Sgn.txt 0).cps.toList=[48]:=by decide
   rw [e] at hc
   rw [List.mem_singleton.mp hc]
   decide
  ·have h1:=(Sgn.txt_cnt (m:=3) hp (by decide) hm).1
   unfold Sgn.cnt at h1
   rw [Bool.and_eq_true] at h1
   have h2:=List.all_eq_true.mp h1.2 c hc
   have h3:48≤c∧c≤57:=by simpa [Sgn.dgt] using h2
   lia⟩
 rcases hn with rfl|rfl
 ·have e:PySem.Str.ofString (toString (n:Int))=Sgn.txt n:=rfl
  have:=fg n (by lia)
  rw [e]
  exact⟨by lia,this.2⟩
 ·have e:=Nam.neg_list n
  have e2:(PySem.Str.ofString (toString (-((n+1:Nat):Int)))).cps.toList.length=(PySem.Str.ofString (toString (-((n+1:Nat):Int)))).length:=Array.length_toList
  have e3:(Sgn.txt (n+1)).cps.toList.length=(Sgn.txt (n+1)).length:=Array.length_toList
  have:=fg (n+1) (by lia)
  rw [e,List.length_cons] at e2
  rw [e]
  refine⟨by lia,fun c hc=>?_⟩
  rcases List.mem_cons.mp hc with z|z
  ·rw [z];decide
  ·exact this.2 c z
theorem seg_len {c d:Nat} {k:Int} (h:-2≤k∧k≤2):(Nam.seg c d k).length≤2:=by
 unfold Nam.seg
 rw [List.length_append,List.length_replicate,List.length_replicate]
 lia
theorem seg_mem {c d:Nat} {k:Int} {x:Nat} (h:x∈Nam.seg c d k):x=c∨x=d:=by
 unfold Nam.seg at h
 rcases List.mem_append.mp h with z|z
 ·exact .inl (List.eq_of_mem_replicate z)
 ·exact .inr (List.eq_of_mem_replicate z)
theorem WdN.ok {N:Str} {r0 r1 r2 r3 r4:Int} (h:WdN N r0 r1 r2 r3 r4) {o:Int} (ho:-999≤o∧o≤999):wOct N o=nmZ [r0+o,r1,r2,r3,r4]∧Nam.nmd (wOct N o)=some [r0+o,r1,r2,r3,r4]∧(wOct N o).length≤14∧(∀ c∈(wOct N o).cps.toList,33≤c∧c<200)∧0<(wOct N o).length∧((-80≤r0∧r0≤80)∧(-40≤r1∧r1≤40)∧(-2≤r2∧r2≤2)∧(-2≤r3∧r3≤2)∧(-2≤r4∧r4≤2)):=by
 obtain ⟨j,L,b0,k0,k1,k2,k3,hj,hLg,hbg,hlr,h0,h1,h2,h3,hN,z0,z1,z2,z3,z4⟩:=h
 have hb0:-7≤b0∧b0≤2:=by
  rw [← hbg]
  match j,hj with
  | 0,_|1,_|2,_|3,_|4,_|5,_|6,_=>decide
 have hL32:33≤L∧L<200:=by
  rw [← hLg]
  match j,hj with
  | 0,_|1,_|2,_|3,_|4,_|5,_|6,_=>decide
 have e46:(PySem.Str.ofString ".").cps.toList=[46]:=by decide
 have hT:(wOct N o).cps.toList=L::(Nam.seg 35 98 k0++(Nam.seg 43 45 k1++(Nam.seg 62 60 k2++(Nam.seg 94 118 k3++(46::(PySem.Str.ofString (toString o)).cps.toList))))):=by
  unfold wOct
  rw [Nam.app_list,Nam.app_list,hN,e46]
  simp
 have hmade:=Nam.made hT hlr (by lia) (by lia) (by lia)
 obtain ⟨nl,n32⟩:=num_len ho
 have el:(wOct N o).cps.toList.length=(wOct N o).length:=Array.length_toList
 have el2:(PySem.Str.ofString (toString o)).cps.toList.length=(PySem.Str.ofString (toString o)).length:=Array.length_toList
 have g0:=seg_len (c:=35) (d:=98) h0
 have g1:=seg_len (c:=43) (d:=45) h1
 have g2:=seg_len (c:=62) (d:=60) h2
 have g3:=seg_len (c:=94) (d:=118) h3
 refine⟨Nam.str_ext (hT.trans ?_),hmade.1.trans ?_,?_,fun c hc=>?_,?_,by lia,by lia,by lia,by lia,by lia⟩
 ·show _=nameL (r0+o) r1 r2 r3 r4
  unfold nameL
  have hl1:r1 - r4 - 2*r3+4*r2+1=(j:Int)+7*k0:=by lia
  rw [hl1,show ((j:Int)+7*k0) / 7=k0 by lia,show (((j:Int)+7*k0) % 7).toNat=j by lia,hLg,hbg,show r0+o+5*r4+6*r3 - 4*r2+11*k0 - b0=o by lia,show -r2=k1 by lia,show -r3=k2 by lia,z4]
 ·congr 1
  simp only [List.cons.injEq,and_true]
  lia
 ·rw [← el,hT]
  simp only [List.length_append,List.length_cons,el2]
  lia
 ·rw [hT] at hc
  simp only [List.mem_cons,List.mem_append] at hc
  rcases hc with z|z|z|z|z|z|z
  ·rw [z];exact hL32
  ·rcases seg_mem z with y|y <;> rw [y] <;> decide
  ·rcases seg_mem z with y|y <;> rw [y] <;> decide
  ·rcases seg_mem z with y|y <;> rw [y] <;> decide
  ·rcases seg_mem z with y|y <;> rw [y] <;> decide
  ·rw [z];decide
  ·exact n32 c z
 ·rw [← el,hT]
  simp
noncomputable def WdsL (K:PySem.W.Frag) (H:Hp) (xs:List V) (ws:List (Str×Int×List Int)):Prop:=xs.length=ws.length∧∀ (i:Nat) (x:V),xs[i]?=some x→∃ p q w,x=.ref p∧ws[i]?=some w∧SqT K H p [.str w.1,.int w.2.1,.ref q]∧SqT K H q (w.2.2.map V.int)
noncomputable def WOK (w:Str×Int×List Int):Prop:=(-12≤w.2.1∧w.2.1≤12)∧∃ r0 r1 r2 r3 r4:Int,w.2.2=[r0+w.2.1,r1,r2,r3,r4]∧WdN w.1 r0 r1 r2 r3 r4
theorem WdsL.same {K:PySem.W.Frag} {H H':Hp} {xs:List V} {ws:List (Str×Int×List Int)} (h:WdsL K H xs ws) (s:Same H H'):WdsL K H' xs ws:=⟨h.1,fun i x hx=>let ⟨p,q,w,e,hw,m,n⟩:=h.2 i x hx;⟨p,q,w,e,hw,s.at m,s.at n⟩⟩
theorem WdsL.off {K:PySem.W.Frag} {H:Hp} {xs ys zs:List V} {ws:List (Str×Int×List Int)} {l:Addr} (h:WdsL K H xs ws) (e:H l=some (.lst ys)):WdsL K (upd H l (.lst zs)) xs ws:=⟨h.1,fun i x hx=>let ⟨p,q,w,e',hw,m,n⟩:=h.2 i x hx;⟨p,q,w,e',hw,upd_sqT m e,upd_sqT n e⟩⟩
theorem WdsL.nil {K:PySem.W.Frag} {H:Hp}:WdsL K H [] []:=⟨rfl,fun i x hx=>by simp at hx⟩
theorem WdsL.snoc {K:PySem.W.Frag} {H:Hp} {xs:List V} {ws:List (Str×Int×List Int)} {p q:Addr} {w:Str×Int×List Int} (h:WdsL K H xs ws) (m:SqT K H p [.str w.1,.int w.2.1,.ref q]) (n:SqT K H q (w.2.2.map V.int)):WdsL K H (xs++[.ref p]) (ws++[w]):=⟨by rw [List.length_append,List.length_append,h.1];rfl,fun i x hx=>by
 rcases Nat.lt_or_ge i xs.length with hi|hi
 ·rw [List.getElem?_append_left hi] at hx
  obtain ⟨p',q',w',e,hw,m',n'⟩:=h.2 i x hx
  exact⟨p',q',w',e,by rw [List.getElem?_append_left (by rw [← h.1];exact hi)];exact hw,m',n'⟩
 ·rw [List.getElem?_append_right hi] at hx
  have h0:i - xs.length=0:=by
   rcases Nat.eq_zero_or_pos (i - xs.length) with z|z
   ·exact z
   ·rw [List.getElem?_eq_none (by simp;lia)] at hx;cases hx
  rw [h0] at hx
  cases hx
  exact⟨p,q,w,rfl,by rw [List.getElem?_append_right (by rw [← h.1];exact hi),← h.1,h0];rfl,m,n⟩⟩
theorem WdN.len {N:Str} {r0 r1 r2 r3 r4:Int} (h:WdN N r0 r1 r2 r3 r4):N.length≤9:=by
 obtain ⟨j,L,b0,k0,k1,k2,k3,hj,hLg,hbg,hlr,h0,h1,h2,h3,hN,_⟩:=h
 have el:N.cps.toList.length=N.length:=Array.length_toList
 have g0:=seg_len (c:=35) (d:=98) h0
 have g1:=seg_len (c:=43) (d:=45) h1
 have g2:=seg_len (c:=62) (d:=60) h2
 have g3:=seg_len (c:=94) (d:=118) h3
 rw [← el,hN]
 simp only [List.length_append,List.length_cons]
 lia
theorem tells_strs {K:PySem.W.Frag} {H:Hp}:∀ zs:List Str,Tells K H (zs.map V.str) (zs.map PyData.str)
 | []=>.nil
 | z::zs=>.cons (.str z) (tells_strs zs)
theorem str_ok {z:Str} (h:∀ c∈z.cps.toList,33≤c∧c<200):PyData.strOk z=true:=by
 unfold PyData.strOk
 rw [← Array.all_toList,List.all_eq_true]
 exact fun c hc=>decide_eq_true (by have:=h c hc;lia)
theorem lay_strs:∀ {zs:List Str},(∀ z∈zs,PyData.strOk z=true)→PyData.canLayAll0 (zs.map PyData.str)=true
 | [],_=>rfl
 | z::zs,h=>by
  have h1:=lay_strs fun y hy=>h y (.tail _ hy)
  have h2:=h z (.head _)
  simp only [List.map_cons,PyData.canLayAll0,h1,PyData.canLay0,h2,Bool.and_self]
theorem deep_strs:∀ zs:List Str,PyData.depthAll (zs.map PyData.str)≤1
 | []=>by decide
 | z::zs=>by
  have:=deep_strs zs
  simp only [List.map_cons,PyData.depthAll,PyData.depth]
  lia
theorem shaped_strs {zs:List Str} (ho:∀ z∈zs,PyData.strOk z=true):SeqAt.shaped (.list (zs.map PyData.str))=true:=by
 unfold SeqAt.shaped
 have h:PyData.canLay0 (.list (zs.map PyData.str))=true:=by simp only [PyData.canLay0,lay_strs ho]
 have d:PyData.depth (.list (zs.map PyData.str))≤64:=by
  have:=deep_strs zs
  simp only [PyData.depth]
  lia
 simp [h,d]
theorem eqv_strs (z:Str) (zs:List Str):PyData.eqv (.list ((z::zs).map PyData.str)) (.list [])=false:=by
 show PyData.eqv (.list (_::_)) (.list [])=false
 simp [PyData.eqv,PyData.eqvAll]
theorem sum_le {m:Nat}:∀ {zs:List Str},(∀ z∈zs,z.length≤m)→(zs.map (·.length)).sum≤m*zs.length
 | [],_=>Nat.zero_le _
 | z::zs,h=>by
  have h1:=h z (.head _)
  have h2:=sum_le (zs:=zs) fun y hy=>h y (.tail _ hy)
  rw [List.map_cons,List.sum_cons,List.length_cons,Nat.mul_add]
  lia
theorem rd_rangeWds {K:PySem.W.Frag} {H:Hp} {σ:St} {Q:VK} {ix:List (Option Nat)} {n:Nat} {te:TE} (fr:St) (hpk:pick ix σ=none::fr) (hn:n≤24)
  (elt:∀ (i:Nat) (H':Hp) (Qc:VK),i<n→Same H H'→(∀ p q (w:Str×Int×List Int) H5,Same H' H5→SqT K H5 p [.str w.1,.int w.2.1,.ref q]→SqT K H5 q (w.2.2.map V.int)→WOK w→Qc (.ref p) H5)→te (some (.int (i:Int))::fr) H' Qc)
  (hQ:∀ l H' ys ws,H l=none→Same H H'→H' l=some (.lst ys)→WdsL K H' ys ws→(∀ w∈ws,WOK w)→ws.length=n→Q (.ref l) H'):CompGoal ix (gName 0) (fun _ H Q=>Q true H) te σ Q (Itr 0 n) H:=by
 refine comp_gen 1 fr n (fun l i ys H'=>i≤n∧∃ ws,WdsL K H' ys ws∧(∀ w∈ws,WOK w)∧ws.length=i) hpk (fun l H' _ _ _=>⟨Nat.zero_le _,[],.nil,by simp,rfl⟩) (fun l i ys H' h=>by obtain ⟨hi,ws,h1,_,h3⟩:=h;have:=h1.1;lia) (fun H' s=>Nat.le_refl _) (fun i H' hi s=>hi) (fun l' i x H' H2 own ys ho hi hl0 s9 hl' hp hy Qy Qn ky kn=>?_) (fun l2 H2 ys n2 s2 m2 hp=>?_)
 ·obtain ⟨o1,rfl⟩:∃ o1,own=[o1]:=by match own,ho with|[o1],_=>exact⟨o1,rfl⟩
  obtain ⟨rfl,rfl⟩:=hy
  obtain ⟨_,ws,h1,h2,h3⟩:=hp
  dsimp only [gName]
  rw [if_pos rfl,Int.zero_add]
  refine elt i _ _ hi s9 fun p q w H5 s5 hp hq hw=>ky [some (.int i)] (.ref p) H5 rfl s5 ⟨hi,ws++[w],?_,?_,by simp [h3]⟩
  ·have e:=s5 _ _ hl'
   exact ((h1.same s5).off e).snoc (upd_sqT hp e) (upd_sqT hq e)
  ·intro v hv
   rcases List.mem_append.mp hv with z|z
   ·exact h2 v z
   ·rw [List.mem_singleton.mp z];exact hw
 ·obtain ⟨_,ws,h1,h2,h3⟩:=hp
  exact hQ l2 H2 ys ws n2 s2 m2 h1 h2 h3
theorem ok30_of {r:List Int} {f:Int} (h:RB f 30 r):ok30 r=true:=by
 obtain ⟨a0,a1,a2,a3,a4,rfl,_,h1,h2,h3,h4⟩:=h
 show [decide ((if a1<0 then -a1 else a1)≤30),decide ((if a2<0 then -a2 else a2)≤30),decide ((if a3<0 then -a3 else a3)≤30),decide ((if a4<0 then -a4 else a4)≤30)].all id=true
 rw [decide_eq_true (show (if a1<0 then -a1 else a1)≤30 by split <;> lia),decide_eq_true (show (if a2<0 then -a2 else a2)≤30 by split <;> lia),decide_eq_true (show (if a3<0 then -a3 else a3)≤30 by split <;> lia),decide_eq_true (show (if a4<0 then -a4 else a4)≤30 by split <;> lia)]
 rfl
theorem fits_tb {t0 t1 t2 t3 t4:Int} (h:(-700≤t0∧t0≤700)∧(-60≤t1∧t1≤60)∧(-60≤t2∧t2≤60)∧(-60≤t3∧t3≤60)∧(-60≤t4∧t4≤60)):fits t0 t1 t2 t3 t4=true:=by
 unfold fits
 rw [decide_eq_true (show (if t0<0 then -t0 else t0)≤700 by split <;> lia),decide_eq_true (show (if t1<0 then -t1 else t1)≤60 by split <;> lia),decide_eq_true (show (if t2<0 then -t2 else t2)≤60 by split <;> lia),decide_eq_true (show (if t3<0 then -t3 else t3)≤60 by split <;> lia),decide_eq_true (show (if t4<0 then -t4 else t4)≤60 by split <;> lia)]
 rfl
theorem rt_lt60 {b c d e:Int} (hb:b≤60) (hc:c≤60) (hd:d≤60) (he:e≤60):Mth.rt b c d e<2 ^ 700:=by
 have h:Mth.rt b c d e≤Mth.prod5 0 60 60 60 60:=Mth.prod5_mono (Nat.le_refl _) (by lia) (by lia) (by lia) (by lia)
 exact Int.lt_of_le_of_lt h (by decide +kernel)
theorem rb_lt60 {b c d e:Int} (hb:-60≤b) (hc:-60≤c) (hd:-60≤d) (he:-60≤e):Mth.rb b c d e<2 ^ 700:=by
 have h:Mth.rb b c d e≤Mth.prod5 0 60 60 60 60:=Mth.prod5_mono (Nat.le_refl _) (by lia) (by lia) (by lia) (by lia)
 exact Int.lt_of_le_of_lt h (by decide +kernel)
theorem fold_bd60 {n b c d e:Int} (hb:-60≤b∧b≤60) (hc:-60≤c∧c≤60) (hd:-60≤d∧d≤60) (he:-60≤e∧e≤60) (f:Mth.Fold n b c d e):-700≤n∧n≤700:=by
 obtain ⟨f1,f2⟩:=f
 rw [Mth.top5_rt,Mth.bot5_rb] at f1 f2
 have t1:=rt_lt60 (b:=b) (c:=c) (d:=d) (e:=e) (by lia) (by lia) (by lia) (by lia)
 have b1:=rb_lt60 (b:=b) (c:=c) (d:=d) (e:=e) (by lia) (by lia) (by lia) (by lia)
 have t2:=Mth.rt_pos b c d e
 have b2:=Mth.rb_pos b c d e
 generalize Mth.rt b c d e=t at *
 generalize Mth.rb b c d e=u at *
 refine⟨Int.le_of_not_gt fun z=>?_,Int.le_of_not_gt fun z=>?_⟩
 ·have e0:n.toNat=0:=by lia
  have m:(2:Int) ^ 700≤2 ^ (-n).toNat:=Mth.pow2_mono (by lia)
  have k:2 ^ (-n).toNat*1≤2 ^ (-n).toNat*u:=Int.mul_le_mul_of_nonneg_left b2 (Int.le_of_lt (Mth.pow2_pos _))
  rw [e0,Int.pow_zero,Int.one_mul] at f1
  generalize (2:Int) ^ 700=w at *
  lia
 ·have e0:(-n).toNat=0:=by lia
  have m:(2:Int) ^ 701≤2 ^ n.toNat:=Mth.pow2_mono (by lia)
  have k:2 ^ n.toNat*1≤2 ^ n.toNat*t:=Int.mul_le_mul_of_nonneg_left t2 (Int.le_of_lt (Mth.pow2_pos _))
  rw [e0,Int.pow_zero,Int.one_mul] at f2
  have q:(2:Int) ^ 701=2*2 ^ 700:=by rw [Int.pow_succ,Int.mul_comm]
  rw [q] at m
  generalize (2:Int) ^ 700=w at *
  lia
theorem foldR_id {r:List Int} {f:Int} (x:RB f 60 r) (hf:f≤4000) (h:FoldR r):foldR r=r:=by
 obtain ⟨a0,a1,a2,a3,a4,rfl,b0,b1,b2,b3,b4⟩:=x
 have f1:=Mth.fold_oct a0 a1 a2 a3 a4
 have g1:=fold_bd60 b1 b2 b3 b4 f1
 have e:=Mth.fold_uniq (by unfold Mth.Bd;lia) (by unfold Mth.Bd;lia) f1 (show Mth.Fold a0 a1 a2 a3 a4 from h)
 exact congrArg (fun n=>[n,a1,a2,a3,a4]) e
structure Adr where
 a_ONE:Addr
 a_PRIMES:Addr
 a_BOUNDS:Addr
 a_YardError:Addr
 a_TooFar:Addr
 a_NoName:Addr
 a_NoScale:Addr
 a_LETTERS:Addr
 a_LETTERS_0:Addr
 a_LETTERS_1:Addr
 a_LETTERS_2:Addr
 a_LETTERS_3:Addr
 a_LETTERS_4:Addr
 a_LETTERS_5:Addr
 a_LETTERS_6:Addr
 a_MARKS:Addr
 a_MARKS_0:Addr
 a_MARKS_0_2:Addr
 a_MARKS_1:Addr
 a_MARKS_1_2:Addr
 a_MARKS_2:Addr
 a_MARKS_2_2:Addr
 a_MARKS_3:Addr
 a_MARKS_3_2:Addr
 t_LONGEST:Tok
 t_OCTAVE_FIGURES:Tok
 t_FARTHEST:Tok
 t_MOST_WORDS:Tok
structure Txt (P:Program) (w:World) (K:PySem.W.Frag) (mg:Str→Option Value) (G:Adr):Prop where
 b_ValueError:mg "ValueError"=none
 b_abs:mg "abs"=none
 b_all:mg "all"=none
 b_bool:mg "bool"=none
 b_int:mg "int"=none
 b_isinstance:mg "isinstance"=none
 b_len:mg "len"=none
 b_list:mg "list"=none
 b_max:mg "max"=none
 b_range:mg "range"=none
 b_sorted:mg "sorted"=none
 b_str:mg "str"=none
 b_tuple:mg "tuple"=none
 b_zip:mg "zip"=none
 g_ONE:mg "ONE"=some (.ref G.a_ONE)
 q_ONE:Fixed K G.a_ONE [.int 0,.int 0,.int 0,.int 0,.int 0]
 g_PRIMES:mg "PRIMES"=some (.ref G.a_PRIMES)
 q_PRIMES:Fixed K G.a_PRIMES [.int 2,.int 3,.int 5,.int 7,.int 11]
 g_BOUNDS:mg "BOUNDS"=some (.ref G.a_BOUNDS)
 q_BOUNDS:Fixed K G.a_BOUNDS [.int 700,.int 60,.int 60,.int 60,.int 60]
 g_LETTERS:mg "LETTERS"=some (.ref G.a_LETTERS)
 g_MARKS:mg "MARKS"=some (.ref G.a_MARKS)
 d_LETTERS:FixedD P w K G.a_LETTERS [(.inr "F",.ref G.a_LETTERS_0),(.inr "C",.ref G.a_LETTERS_1),(.inr "G",.ref G.a_LETTERS_2),(.inr "D",.ref G.a_LETTERS_3),(.inr "A",.ref G.a_LETTERS_4),(.inr "E",.ref G.a_LETTERS_5),(.inr "B",.ref G.a_LETTERS_6)]
 q_LETTERS_0:Fixed K G.a_LETTERS_0 [.int (2),.int (-1),.int (0),.int (0),.int (0)]
 q_LETTERS_1:Fixed K G.a_LETTERS_1 [.int (0),.int (0),.int (0),.int (0),.int (0)]
 q_LETTERS_2:Fixed K G.a_LETTERS_2 [.int (-1),.int (1),.int (0),.int (0),.int (0)]
 q_LETTERS_3:Fixed K G.a_LETTERS_3 [.int (-3),.int (2),.int (0),.int (0),.int (0)]
 q_LETTERS_4:Fixed K G.a_LETTERS_4 [.int (-4),.int (3),.int (0),.int (0),.int (0)]
 q_LETTERS_5:Fixed K G.a_LETTERS_5 [.int (-6),.int (4),.int (0),.int (0),.int (0)]
 q_LETTERS_6:Fixed K G.a_LETTERS_6 [.int (-7),.int (5),.int (0),.int (0),.int (0)]
 q_MARKS:Fixed K G.a_MARKS [.ref G.a_MARKS_0,.ref G.a_MARKS_1,.ref G.a_MARKS_2,.ref G.a_MARKS_3]
 q_MARKS_0:Fixed K G.a_MARKS_0 [.str "#",.str "b",.ref G.a_MARKS_0_2]
 q_MARKS_0_2:Fixed K G.a_MARKS_0_2 [.int (-11),.int (7),.int (0),.int (0),.int (0)]
 q_MARKS_1:Fixed K G.a_MARKS_1 [.str "+",.str "-",.ref G.a_MARKS_1_2]
 q_MARKS_1_2:Fixed K G.a_MARKS_1_2 [.int (-4),.int (4),.int (-1),.int (0),.int (0)]
 q_MARKS_2:Fixed K G.a_MARKS_2 [.str ">",.str "<",.ref G.a_MARKS_2_2]
 q_MARKS_2_2:Fixed K G.a_MARKS_2_2 [.int (6),.int (-2),.int (0),.int (-1),.int (0)]
 q_MARKS_3:Fixed K G.a_MARKS_3 [.str "^",.str "v",.ref G.a_MARKS_3_2]
 q_MARKS_3_2:Fixed K G.a_MARKS_3_2 [.int (-5),.int (1),.int (0),.int (0),.int (1)]
 g_LONGEST:mg "LONGEST"=some (.int 300 G.t_LONGEST)
 g_OCTAVE_FIGURES:mg "OCTAVE_FIGURES"=some (.int 4 G.t_OCTAVE_FIGURES)
 g_FARTHEST:mg "FARTHEST"=some (.int 30 G.t_FARTHEST)
 g_MOST_WORDS:mg "MOST_WORDS"=some (.int 60 G.t_MOST_WORDS)
 g_YardError:mg "YardError"=some (.ref G.a_YardError)
 m_YardError:PySem.W.nsIn K mainGlobals "YardError"=some (some (.ref G.a_YardError))
 h_YardError:HCls K G.a_YardError
 g_TooFar:mg "TooFar"=some (.ref G.a_TooFar)
 m_TooFar:PySem.W.nsIn K mainGlobals "TooFar"=some (some (.ref G.a_TooFar))
 h_TooFar:HCls K G.a_TooFar
 x_TooFar:XCls K G.a_TooFar
 i_TooFar:PySem.W.excIn K G.a_TooFar [.type "ValueError",.type "Exception",.type "BaseException",.type "object"] "ValueError.__new__"=true
 g_NoName:mg "NoName"=some (.ref G.a_NoName)
 m_NoName:PySem.W.nsIn K mainGlobals "NoName"=some (some (.ref G.a_NoName))
 h_NoName:HCls K G.a_NoName
 x_NoName:XCls K G.a_NoName
 i_NoName:PySem.W.excIn K G.a_NoName [.type "ValueError",.type "Exception",.type "BaseException",.type "object"] "ValueError.__new__"=true
 g_NoScale:mg "NoScale"=some (.ref G.a_NoScale)
 m_NoScale:PySem.W.nsIn K mainGlobals "NoScale"=some (some (.ref G.a_NoScale))
 h_NoScale:HCls K G.a_NoScale
 x_NoScale:XCls K G.a_NoScale
 i_NoScale:PySem.W.excIn K G.a_NoScale [.type "ValueError",.type "Exception",.type "BaseException",.type "object"] "ValueError.__new__"=true
 s_TooFar_YardError:PySem.W.subIn K (.ref G.a_TooFar) (.ref G.a_YardError)=some true
 s_TooFar_NoName:PySem.W.subIn K (.ref G.a_TooFar) (.ref G.a_NoName)=some false
 n_TooFar_NoName:G.a_TooFar≠G.a_NoName
 v_TooFar_ValueError:PySem.W.subIn K (.ref G.a_TooFar) (.type "ValueError")=some true
noncomputable def sp_is_counting (K:PySem.W.Frag):Sp:=fun vs H Q _=>∃ (z:Str) (m:Nat),vs=[.str z,.int m]∧z.length≤1000∧∀ H',Same H H'→Q (.bl (Sgn.cnt z m)) H'
noncomputable def sp_is_signed (K:PySem.W.Frag):Sp:=fun vs H Q _=>∃ (y:Str) (m:Nat),vs=[.str y,.int m]∧y.length≤1000∧∀ H',Same H H'→Q (.bl (Nam.sgd y m).isSome) H'
noncomputable def sp_is_whole (K:PySem.W.Frag):Sp:=fun vs H Q _=>∃ v,vs=[v]∧Kn K H v∧Q (.bl (wh v)) H
noncomputable def sp_is_row (K:PySem.W.Frag):Sp:=fun vs H Q _=>∃ v,vs=[v]∧((∃ (a:Addr) (xs:List V),v=.ref a∧SqT K H a xs∧xs.length≤1000∧(∀ x∈xs,Kn K H x)∧∀ H',Same H H'→Q (.bl (decide (xs.length=5) && xs.all wh)) H')∨(NT K H v∧Q (.bl false) H))
noncomputable def sp_is_tone (K:PySem.W.Frag):Sp:=fun vs H Q _=>∃ v,vs=[v]∧((∃ (a:Addr) (x0 x1 x2 x3 x4:Int),v=.ref a∧SqT K H a [.int x0,.int x1,.int x2,.int x3,.int x4]∧∀ H',Same H H'→Q (.bl (fits x0 x1 x2 x3 x4)) H')∨(Odd K H v∧∀ H',Same H H'→Q (.bl false) H'))
noncomputable def sp_tone_of (K:PySem.W.Frag):Sp:=fun vs H Q E=>∃ (a:Addr) (x0 x1 x2 x3 x4:Int),vs=[.ref a]∧SqT K H a [.int x0,.int x1,.int x2,.int x3,.int x4]∧(fits x0 x1 x2 x3 x4=false→∀ C H',PySem.W.nsIn K mainGlobals "TooFar"=some (some (.ref C))→Same H H'→E (.ref C) none H')∧(fits x0 x1 x2 x3 x4=true→∀ H',Same H H'→Q (.ref a) H')
noncomputable def sp_times (K:PySem.W.Frag):Sp:=fun vs H Q _=>∃ a b a0 a1 a2 a3 a4 b0 b1 b2 b3 b4,vs=[.ref a,.ref b]∧SqT K H a [.int a0,.int a1,.int a2,.int a3,.int a4]∧SqT K H b [.int b0,.int b1,.int b2,.int b3,.int b4]∧∀ p H',Same H H'→H' p=some (.tup [.int (a0+b0),.int (a1+b1),.int (a2+b2),.int (a3+b3),.int (a4+b4)])→Q (.ref p) H'
noncomputable def sp_over (K:PySem.W.Frag):Sp:=fun vs H Q _=>∃ a b a0 a1 a2 a3 a4 b0 b1 b2 b3 b4,vs=[.ref a,.ref b]∧SqT K H a [.int a0,.int a1,.int a2,.int a3,.int a4]∧SqT K H b [.int b0,.int b1,.int b2,.int b3,.int b4]∧∀ p H',Same H H'→H' p=some (.tup [.int (a0 - b0),.int (a1 - b1),.int (a2 - b2),.int (a3 - b3),.int (a4 - b4)])→Q (.ref p) H'
noncomputable def sp_power (K:PySem.W.Frag):Sp:=fun vs H Q _=>∃ (a:Addr) (x0 x1 x2 x3 x4 n:Int),vs=[.ref a,.int n]∧SqT K H a [.int x0,.int x1,.int x2,.int x3,.int x4]∧((∀ x∈[x0,x1,x2,x3,x4],-1000≤x∧x≤1000)∧(-1000≤n∧n≤1000))∧∀ p H',Same H H'→H' p=some (.tup [.int (x0*n),.int (x1*n),.int (x2*n),.int (x3*n),.int (x4*n)])→Q (.ref p) H'
noncomputable def sp_raised (K:PySem.W.Frag):Sp:=fun vs H Q _=>∃ b e:Int,vs=[.int b,.int e]∧(-16<b∧b<16)∧(-100000≤e∧e≤100000)∧Q (.int (b ^ e.toNat)) H
noncomputable def sp_number_of (K:PySem.W.Frag):Sp:=fun vs H Q _=>∃ a kk e0 e1 e2 e3 e4,vs=[.ref a]∧Sq kk K H a [.int e0,.int e1,.int e2,.int e3,.int e4]∧(e0≤4000∧e1≤4000∧e2≤4000∧e3≤4000∧e4≤4000∧-100000≤e0∧-100000≤e1∧-100000≤e2∧-100000≤e3∧-100000≤e4)∧∀ H',Same H H'→Q (.int (Mth.prod5 e0.toNat e1.toNat e2.toNat e3.toNat e4.toNat)) H'
noncomputable def sp_fraction_of (K:PySem.W.Frag):Sp:=fun vs H Q _=>∃ a a0 a1 a2 a3 a4,vs=[.ref a]∧SqT K H a [.int a0,.int a1,.int a2,.int a3,.int a4]∧Mth.Bd a0 a1 a2 a3 a4∧∀ p H',Same H H'→H' p=some (.tup [.int (Mth.top5 a0 a1 a2 a3 a4),.int (Mth.bot5 a0 a1 a2 a3 a4)])→Q (.ref p) H'
noncomputable def sp_run_length (K:PySem.W.Frag):Sp:=fun vs H Q _=>∃ (z:Str) (s c:Nat),vs=[.str z,.int s,.str ⟨#[c]⟩]∧z.length≤1000∧Q (.int (Nam.runs (z.cps.toList.drop s) c:Nat)) H
noncomputable def sp_count_read (K:PySem.W.Frag):Sp:=fun vs H Q _=>∃ (z:Str) (s c d:Nat) (m:Addr) (r:V),vs=[.str z,.int s,.ref m]∧z.length≤1000∧SqT K H m [.str ⟨#[c]⟩,.str ⟨#[d]⟩,r]∧Q (.int ((Nam.runs (z.cps.toList.drop s) c:Int) - Nam.runs (z.cps.toList.drop s) d)) H
noncomputable def sp_count_text (K:PySem.W.Frag):Sp:=fun vs H Q _=>∃ (m:Addr) (c d:Nat) (r:V) (k:Int),vs=[.ref m,.int k]∧SqT K H m [.str ⟨#[c]⟩,.str ⟨#[d]⟩,r]∧(-1000≤k∧k≤1000)∧Q (.str ⟨(Nam.seg c d k).toArray⟩) H
noncomputable def sp_octave_read (K:PySem.W.Frag):Sp:=fun vs H Q E=>∃ y:Str,vs=[.str y]∧y.length≤1000∧(Nam.sgd y 4=none→∀ C H',PySem.W.nsIn K mainGlobals "NoName"=some (some (.ref C))→Same H H'→E (.ref C) none H')∧(∀ o,Nam.sgd y 4=some o→∀ H',Same H H'→Q (.int o) H')
noncomputable def sp_named (K:PySem.W.Frag):Sp:=fun vs H Q E=>∃ z:Str,vs=[.str z]∧z.length≤1000∧(Nam.nmd z=none→(∀ C H',PySem.W.nsIn K mainGlobals "NoName"=some (some (.ref C))→Same H H'→E (.ref C) none H'))∧(∀ x0 x1 x2 x3 x4:Int,Nam.nmd z=some [x0,x1,x2,x3,x4]→fits x0 x1 x2 x3 x4=false→(∀ C H',PySem.W.nsIn K mainGlobals "TooFar"=some (some (.ref C))→Same H H'→E (.ref C) none H'))∧(∀ x0 x1 x2 x3 x4:Int,Nam.nmd z=some [x0,x1,x2,x3,x4]→fits x0 x1 x2 x3 x4=true→∀ p H',Same H H'→H' p=some (.tup [.int x0,.int x1,.int x2,.int x3,.int x4])→Q (.ref p) H')
noncomputable def sp_name_of (K:PySem.W.Frag):Sp:=fun vs H Q _=>∃ (a:Addr) (t0 t1 t2 t3 t4:Int),vs=[.ref a]∧SqT K H a [.int t0,.int t1,.int t2,.int t3,.int t4]∧((-700≤t0∧t0≤700)∧(-60≤t1∧t1≤60)∧(-60≤t2∧t2≤60)∧(-60≤t3∧t3≤60)∧(-60≤t4∧t4≤60))∧∀ (T:Str) H',Same H H'→T.cps.toList=nameL t0 t1 t2 t3 t4→Nam.nmd T=some [t0,t1,t2,t3,t4]→T.length≤300→Q (.str T) H'
noncomputable def sp_measure (K:PySem.W.Frag):Sp:=fun vs H Q _=>∃ a a0 a1 a2 a3 a4,vs=[.ref a]∧SqT K H a [.int a0,.int a1,.int a2,.int a3,.int a4]∧((-700≤a0∧a0≤700)∧(-60≤a1∧a1≤60)∧(-60≤a2∧a2≤60)∧(-60≤a3∧a3≤60)∧(-60≤a4∧a4≤60))∧∀ H',Same H H'→Q (.int (Mth.prod5 (a0+700).toNat (a1+60).toNat (a2+60).toNat (a3+60).toNat (a4+60).toNat)) H'
noncomputable def sp_rising (K:PySem.W.Frag):Sp:=fun vs H Q _=>∃ (l:Addr) (xs:List V) (rs:List (List Int)),vs=[.ref l]∧SqL K H l xs∧RowsL K H xs rs∧(∀ r∈rs,RB 700 60 r)∧xs.length<64∧∀ p ys qs H',Same H H'→H' p=some (.lst ys)→RowsL K H' ys qs→qs.Perm rs→(qs.Pairwise fun a b=>msr a≤msr b)→Q (.ref p) H'
noncomputable def sp_octaves (K:PySem.W.Frag):Sp:=fun vs H Q _=>∃ a a0 a1 a2 a3 a4,vs=[.ref a]∧SqT K H a [.int a0,.int a1,.int a2,.int a3,.int a4]∧Mth.Bd a0 a1 a2 a3 a4∧∀ H',Same H H'→Q (.int (Mth.octR (Mth.top5 a0 a1 a2 a3 a4) (Mth.bot5 a0 a1 a2 a3 a4))) H'
noncomputable def sp_folded (K:PySem.W.Frag):Sp:=fun vs H Q _=>∃ a a0 a1 a2 a3 a4,vs=[.ref a]∧SqT K H a [.int a0,.int a1,.int a2,.int a3,.int a4]∧Mth.Bd a0 a1 a2 a3 a4∧∀ p H',Same H H'→H' p=some (.tup [.int (a0 - Mth.octR (Mth.top5 a0 a1 a2 a3 a4) (Mth.bot5 a0 a1 a2 a3 a4)),.int a1,.int a2,.int a3,.int a4])→Q (.ref p) H'
noncomputable def sp_scale_tone (K:PySem.W.Frag):Sp:=fun vs H Q E=>∃ (a:Addr) (r:List Int),vs=[.ref a]∧SqT K H a (r.map V.int)∧RB 700 60 r∧(ok30 r=false→∀ C H',PySem.W.nsIn K mainGlobals "TooFar"=some (some (.ref C))→Same H H'→E (.ref C) none H')∧(ok30 r=true→∀ p H',Same H H'→H' p=some (.tup ((foldR r).map V.int))→Q (.ref p) H')
noncomputable def sp_scale_of (K:PySem.W.Frag):Sp:=fun vs H Q E=>∃ (a:Addr) (xs:List V) (rs:List (List Int)),vs=[.ref a]∧SqL K H a xs∧RowsL K H xs rs∧(∀ r∈rs,RB 700 60 r)∧rs.length≤60∧((∃ r∈rs,ok30 r=false)→∀ C H',PySem.W.nsIn K mainGlobals "TooFar"=some (some (.ref C))→Same H H'→E (.ref C) none H')∧((∀ r∈rs,ok30 r=true)→∀ p ys qs H',Same H H'→H' p=some (.lst ys)→RowsL K H' ys qs→(qs.Pairwise fun a b=>nsr a<nsr b)→(∀ q,q∈qs↔∃ r∈rs,q=foldR r)→Q (.ref p) H')
noncomputable def sp_scale_text (K:PySem.W.Frag):Sp:=fun vs H Q _=>∃ (a:Addr) (xs:List V) (rs:List (List Int)),vs=[.ref a]∧SqL K H a xs∧RowsL K H xs rs∧(∀ r∈rs,RB 700 60 r)∧rs.length≤60∧∀ H',Same H H'→Q (.str (PySem.Str.join ⟨#[32]⟩ (rs.map nmZ))) H'
noncomputable def sp_scale_read (K:PySem.W.Frag):Sp:=fun vs H Q E=>∃ zs:List Str,vs=[.str (PySem.Str.join ⟨#[32]⟩ zs)]∧zs.length≤60∧(∀ z∈zs,WZ z)∧((∃ z∈zs,ok30 (rowZ z)=false)→∀ C H',PySem.W.nsIn K mainGlobals "TooFar"=some (some (.ref C))→Same H H'→E (.ref C) none H')∧((∀ z∈zs,ok30 (rowZ z)=true)→∀ p ys qs H',Same H H'→H' p=some (.lst ys)→RowsL K H' ys qs→(qs.Pairwise fun a b=>nsr a<nsr b)→(∀ q,q∈qs↔∃ z∈zs,q=foldR (rowZ z))→Q (.ref p) H')
noncomputable def sp_law_cell (K:PySem.W.Frag):Sp:=fun vs H Q _=>∃ (a:Addr) (ns:List Int) (k:Int),vs=[.ref a,.int k]∧SqL K H a (ns.map V.int)∧0≤k∧Q (.int (ns.getD k.toNat 0)) H
noncomputable def sp_law_part (K:PySem.W.Frag):Sp:=fun vs H Q _=>∃ c j m:Int,vs=[.int c,.int j,.int m]∧(0≤j∧j≤1000)∧0<m∧∀ r H',Same H H'→(0≤r∧r<m)→Q (.int r) H'
noncomputable def sp_law_signed (K:PySem.W.Frag):Sp:=fun vs H Q _=>∃ c j h:Int,vs=[.int c,.int j,.int h]∧(0≤j∧j≤1000)∧(0≤h∧h≤100000)∧∀ r H',Same H H'→(-h≤r∧r≤h)→Q (.int r) H'
noncomputable def sp_law_fraction (K:PySem.W.Frag):Sp:=fun vs H Q _=>∃ a e0 e1 e2 e3 e4,vs=[.ref a]∧SqT K H a [.int e0,.int e1,.int e2,.int e3,.int e4]∧Mth.Bd e0 e1 e2 e3 e4∧∀ p H',Same H H'→H' p=some (.tup [.int (Mth.top5 e0 e1 e2 e3 e4),.int (Mth.bot5 e0 e1 e2 e3 e4)])→Q (.ref p) H'
noncomputable def sp_law_folded (K:PySem.W.Frag):Sp:=fun vs H Q _=>∃ (a:Addr) (r:List Int),vs=[.ref a]∧SqT K H a (r.map V.int)∧RB 1000 30 r∧∀ p H',Same H H'→H' p=some (.tup ((foldR r).map V.int))→Q (.ref p) H'
noncomputable def sp_law_plus (K:PySem.W.Frag):Sp:=fun vs H Q _=>∃ a b a0 a1 a2 a3 a4 b0 b1 b2 b3 b4,vs=[.ref a,.ref b]∧SqT K H a [.int a0,.int a1,.int a2,.int a3,.int a4]∧SqT K H b [.int b0,.int b1,.int b2,.int b3,.int b4]∧∀ p H',Same H H'→H' p=some (.tup [.int (a0+b0),.int (a1+b1),.int (a2+b2),.int (a3+b3),.int (a4+b4)])→Q (.ref p) H'
noncomputable def sp_law_less (K:PySem.W.Frag):Sp:=fun vs H Q _=>∃ a b a0 a1 a2 a3 a4 b0 b1 b2 b3 b4,vs=[.ref a,.ref b]∧SqT K H a [.int a0,.int a1,.int a2,.int a3,.int a4]∧SqT K H b [.int b0,.int b1,.int b2,.int b3,.int b4]∧∀ p H',Same H H'→H' p=some (.tup [.int (a0 - b0),.int (a1 - b1),.int (a2 - b2),.int (a3 - b3),.int (a4 - b4)])→Q (.ref p) H'
noncomputable def sp_law_lower (K:PySem.W.Frag):Sp:=fun vs H Q _=>∃ (a b:Addr) (r q:List Int),vs=[.ref a,.ref b]∧SqT K H a (r.map V.int)∧SqT K H b (q.map V.int)∧RB 1000 30 r∧RB 1000 30 q∧∀ H',Same H H'→Q (.bl (decide (nsr r<nsr q))) H'
noncomputable def sp_law_scale (K:PySem.W.Frag):Sp:=fun vs H Q _=>∃ (a:Addr) (xs:List V) (rs:List (List Int)),vs=[.ref a]∧SqL K H a xs∧RowsL K H xs rs∧(∀ r∈rs,RB 1000 30 r∧FoldR r)∧rs.length≤60∧∀ p ys qs H',Same H H'→H' p=some (.lst ys)→RowsL K H' ys qs→(qs.Pairwise fun x y=>nsr x<nsr y)→(∀ q,q∈qs↔q∈rs)→qs.length≤60→Q (.ref p) H'
noncomputable def sp_law_within (K:PySem.W.Frag):Sp:=fun vs H Q _=>∃ (a:Addr) (r:List Int),vs=[.ref a,.int 700,.int 30]∧SqT K H a (r.map V.int)∧RB 700 60 r∧∀ H',Same H H'→Q (.bl (ok30 r)) H'
noncomputable def sp_law_is_row (K:PySem.W.Frag):Sp:=fun vs H Q _=>∃ a e0 e1 e2 e3 e4,vs=[.ref a]∧SqT K H a [.int e0,.int e1,.int e2,.int e3,.int e4]∧∀ H',Same H H'→Q (.bl true) H'
noncomputable def sp_law_rows (K:PySem.W.Frag):Sp:=fun vs H Q _=>∃ (l m:Addr) (xs ys:List V) (rs:List (List Int)),vs=[.ref l,.ref m]∧SqL K H l xs∧SqL K H m ys∧RowsL K H xs rs∧RowsL K H ys rs∧(∀ r∈rs,∃ a0 a1 a2 a3 a4:Int,r=[a0,a1,a2,a3,a4])∧rs.length≤60∧∀ H',Same H H'→Q (.bl true) H'
noncomputable def sp_law_word (K:PySem.W.Frag):Sp:=fun vs H Q _=>∃ c:Int,vs=[.int c]∧∀ p q N o r0 r1 r2 r3 r4 H',Same H H'→H' p=some (.tup [.str N,.int o,.ref q])→H' q=some (.tup [.int (r0+o),.int r1,.int r2,.int r3,.int r4])→(-12≤o∧o≤12)→WdN N r0 r1 r2 r3 r4→Q (.ref p) H'
noncomputable def sp_law_kinds (K:PySem.W.Frag):Sp:=fun vs H Q _=>∃ (a C:Addr),vs=[.ref a]∧H a=some (ExcO a C)∧PySem.W.nsIn K mainGlobals "TooFar"=some (some (.ref C))∧∀ p H',Same H H'→H' p=some (.lst [.str "far",.str "value"])→Q (.ref p) H'
noncomputable def sp_law_asked (K:PySem.W.Frag):Sp:=fun vs H Q E=>∃ zs:List Str,vs=[.str (PySem.Str.join ⟨#[32]⟩ zs)]∧zs.length≤60∧(∀ z∈zs,WZ z)∧∀ p f kk H',Same H H'→H' p=some (.tup [f,kk])→((∀ z∈zs,ok30 (rowZ z)=true)→kk=.non∧∃ q ys qs,f=.ref q∧H' q=some (.lst ys)∧RowsL K H' ys qs∧(qs.Pairwise fun a b=>nsr a<nsr b)∧∀ q,q∈qs↔∃ z∈zs,q=foldR (rowZ z))→((∃ z∈zs,ok30 (rowZ z)=false)→∃ q,kk=.ref q∧H' q=some (.lst [.str "far",.str "value"]))→Q (.ref p) H'
noncomputable def sp_law_names (K:PySem.W.Frag):Sp:=fun vs H Q _=>∃ (a b:Addr) (xs ys:List V) (ws:List (Str×Int×List Int)) (qs:List (List Int)),vs=[.ref a,.ref b]∧SqL K H a xs∧SqL K H b ys∧WdsL K H xs ws∧RowsL K H ys qs∧(∀ w∈ws,WOK w)∧ws.length≤24∧qs.length≤60∧qs.Nodup∧(∀ q∈qs,∃ w∈ws,∃ q0:Int,(-600≤q0∧q0≤600)∧q=q0::w.2.2.tail)∧∀ H',Same H H'→Q (.str (PySem.Str.join ⟨#[32]⟩ (qs.map nmZ))) H'
noncomputable def sp_law_text (K:PySem.W.Frag):Sp:=fun vs H Q _=>∃ (a:Addr) (xs:List V) (ws:List (Str×Int×List Int)) (b:Bool),vs=[.ref a,.bl b]∧SqL K H a xs∧WdsL K H xs ws∧(∀ w∈ws,WOK w)∧ws.length≤24∧∀ zs H',Same H H'→zs.length≤60→(∀ z,z∈zs↔∃ w∈ws,z=wOct w.1 w.2.1)→Q (.str (PySem.Str.join ⟨#[32]⟩ zs)) H'
section
variable {K:PySem.W.Frag} {H:Hp} {Q:VK} {E:XK}
theorem c_is_counting {z:Str} {m:Nat} (hz:z.length≤1000) (k:∀ H',Same H H'→Q (.bl (Sgn.cnt z m)) H'):sp_is_counting K [.str z,.int m] H Q E:=⟨z,m,rfl,hz,k⟩
theorem c_is_signed {y:Str} {m:Nat} (hy:y.length≤1000) (k:∀ H',Same H H'→Q (.bl (Nam.sgd y m).isSome) H'):sp_is_signed K [.str y,.int m] H Q E:=⟨y,m,rfl,hy,k⟩
theorem c_is_whole {v:V} (hv:Kn K H v) (k:Q (.bl (wh v)) H):sp_is_whole K [v] H Q E:=⟨v,rfl,hv,k⟩
theorem c_is_row {v:V} (h:(∃ (a:Addr) (xs:List V),v=.ref a∧SqT K H a xs∧xs.length≤1000∧(∀ x∈xs,Kn K H x)∧∀ H',Same H H'→Q (.bl (decide (xs.length=5) && xs.all wh)) H')∨(NT K H v∧Q (.bl false) H)):sp_is_row K [v] H Q E:=⟨v,rfl,h⟩
theorem c_is_toneR {a:Addr} {x0 x1 x2 x3 x4:Int} (ha:SqT K H a [.int x0,.int x1,.int x2,.int x3,.int x4]) (k:∀ H',Same H H'→Q (.bl (fits x0 x1 x2 x3 x4)) H'):sp_is_tone K [.ref a] H Q E:=⟨_,rfl,.inl ⟨a,x0,x1,x2,x3,x4,rfl,ha,k⟩⟩
theorem c_tone_of {a:Addr} {x0 x1 x2 x3 x4:Int} (ha:SqT K H a [.int x0,.int x1,.int x2,.int x3,.int x4]) (ke:(fits x0 x1 x2 x3 x4=false→∀ C H',PySem.W.nsIn K mainGlobals "TooFar"=some (some (.ref C))→Same H H'→E (.ref C) none H')) (kq:(fits x0 x1 x2 x3 x4=true→∀ H',Same H H'→Q (.ref a) H')):sp_tone_of K [.ref a] H Q E:=⟨a,x0,x1,x2,x3,x4,rfl,ha,ke,kq⟩
theorem c_times {a b:Addr} {a0 a1 a2 a3 a4 b0 b1 b2 b3 b4:Int} (ha:SqT K H a [.int a0,.int a1,.int a2,.int a3,.int a4]) (hb:SqT K H b [.int b0,.int b1,.int b2,.int b3,.int b4]) (k:∀ p H',Same H H'→H' p=some (.tup [.int (a0+b0),.int (a1+b1),.int (a2+b2),.int (a3+b3),.int (a4+b4)])→Q (.ref p) H'):sp_times K [.ref a,.ref b] H Q E:=⟨a,b,a0,a1,a2,a3,a4,b0,b1,b2,b3,b4,rfl,ha,hb,k⟩
theorem c_over {a b:Addr} {a0 a1 a2 a3 a4 b0 b1 b2 b3 b4:Int} (ha:SqT K H a [.int a0,.int a1,.int a2,.int a3,.int a4]) (hb:SqT K H b [.int b0,.int b1,.int b2,.int b3,.int b4]) (k:∀ p H',Same H H'→H' p=some (.tup [.int (a0 - b0),.int (a1 - b1),.int (a2 - b2),.int (a3 - b3),.int (a4 - b4)])→Q (.ref p) H'):sp_over K [.ref a,.ref b] H Q E:=⟨a,b,a0,a1,a2,a3,a4,b0,b1,b2,b3,b4,rfl,ha,hb,k⟩
theorem c_power {a:Addr} {x0 x1 x2 x3 x4 n:Int} (ha:SqT K H a [.int x0,.int x1,.int x2,.int x3,.int x4]) (hb:(∀ x∈[x0,x1,x2,x3,x4],-1000≤x∧x≤1000)∧(-1000≤n∧n≤1000)) (k:∀ p H',Same H H'→H' p=some (.tup [.int (x0*n),.int (x1*n),.int (x2*n),.int (x3*n),.int (x4*n)])→Q (.ref p) H'):sp_power K [.ref a,.int n] H Q E:=⟨a,x0,x1,x2,x3,x4,n,rfl,ha,hb,k⟩
theorem c_raised {b e:Int} (hb:-16<b∧b<16) (he:-100000≤e∧e≤100000) (k:Q (.int (b ^ e.toNat)) H):sp_raised K [.int b,.int e] H Q E:=⟨b,e,rfl,hb,he,k⟩
theorem c_number_of {a:Addr} {kk:Bool} {e0 e1 e2 e3 e4:Int} (ha:Sq kk K H a [.int e0,.int e1,.int e2,.int e3,.int e4]) (hb:e0≤4000∧e1≤4000∧e2≤4000∧e3≤4000∧e4≤4000∧-100000≤e0∧-100000≤e1∧-100000≤e2∧-100000≤e3∧-100000≤e4) (k:∀ H',Same H H'→Q (.int (Mth.prod5 e0.toNat e1.toNat e2.toNat e3.toNat e4.toNat)) H'):sp_number_of K [.ref a] H Q E:=⟨a,kk,e0,e1,e2,e3,e4,rfl,ha,hb,k⟩
theorem c_fraction_of {a:Addr} {a0 a1 a2 a3 a4:Int} (ha:SqT K H a [.int a0,.int a1,.int a2,.int a3,.int a4]) (hb:Mth.Bd a0 a1 a2 a3 a4) (k:∀ p H',Same H H'→H' p=some (.tup [.int (Mth.top5 a0 a1 a2 a3 a4),.int (Mth.bot5 a0 a1 a2 a3 a4)])→Q (.ref p) H'):sp_fraction_of K [.ref a] H Q E:=⟨a,a0,a1,a2,a3,a4,rfl,ha,hb,k⟩
theorem c_run_length {z:Str} {s c:Nat} (hz:z.length≤1000) (k:Q (.int (Nam.runs (z.cps.toList.drop s) c:Nat)) H):sp_run_length K [.str z,.int s,.str ⟨#[c]⟩] H Q E:=⟨z,s,c,rfl,hz,k⟩
theorem c_count_read {z:Str} {s c d:Nat} {m:Addr} {r:V} (hz:z.length≤1000) (hm:SqT K H m [.str ⟨#[c]⟩,.str ⟨#[d]⟩,r]) (k:Q (.int ((Nam.runs (z.cps.toList.drop s) c:Int) - Nam.runs (z.cps.toList.drop s) d)) H):sp_count_read K [.str z,.int s,.ref m] H Q E:=⟨z,s,c,d,m,r,rfl,hz,hm,k⟩
theorem c_count_text {m:Addr} {c d:Nat} {r:V} {n:Int} (hm:SqT K H m [.str ⟨#[c]⟩,.str ⟨#[d]⟩,r]) (hn:-1000≤n∧n≤1000) (k:Q (.str ⟨(Nam.seg c d n).toArray⟩) H):sp_count_text K [.ref m,.int n] H Q E:=⟨m,c,d,r,n,rfl,hm,hn,k⟩
theorem c_octave_read {y:Str} (hy:y.length≤1000) (k:(Nam.sgd y 4=none→∀ C H',PySem.W.nsIn K mainGlobals "NoName"=some (some (.ref C))→Same H H'→E (.ref C) none H')∧(∀ o,Nam.sgd y 4=some o→∀ H',Same H H'→Q (.int o) H')):sp_octave_read K [.str y] H Q E:=⟨y,rfl,hy,k.1,k.2⟩
theorem c_named {z:Str} (hz:z.length≤1000) (k:(Nam.nmd z=none→(∀ C H',PySem.W.nsIn K mainGlobals "NoName"=some (some (.ref C))→Same H H'→E (.ref C) none H'))∧(∀ x0 x1 x2 x3 x4:Int,Nam.nmd z=some [x0,x1,x2,x3,x4]→fits x0 x1 x2 x3 x4=false→(∀ C H',PySem.W.nsIn K mainGlobals "TooFar"=some (some (.ref C))→Same H H'→E (.ref C) none H'))∧(∀ x0 x1 x2 x3 x4:Int,Nam.nmd z=some [x0,x1,x2,x3,x4]→fits x0 x1 x2 x3 x4=true→∀ p H',Same H H'→H' p=some (.tup [.int x0,.int x1,.int x2,.int x3,.int x4])→Q (.ref p) H')):sp_named K [.str z] H Q E:=⟨z,rfl,hz,k.1,k.2.1,k.2.2⟩
theorem c_name_of {a:Addr} {t0 t1 t2 t3 t4:Int} (ha:SqT K H a [.int t0,.int t1,.int t2,.int t3,.int t4]) (hb:(-700≤t0∧t0≤700)∧(-60≤t1∧t1≤60)∧(-60≤t2∧t2≤60)∧(-60≤t3∧t3≤60)∧(-60≤t4∧t4≤60)) (k:∀ (T:Str) H',Same H H'→T.cps.toList=nameL t0 t1 t2 t3 t4→Nam.nmd T=some [t0,t1,t2,t3,t4]→T.length≤300→Q (.str T) H'):sp_name_of K [.ref a] H Q E:=⟨a,t0,t1,t2,t3,t4,rfl,ha,hb,k⟩
theorem c_measure {a:Addr} {a0 a1 a2 a3 a4:Int} (ha:SqT K H a [.int a0,.int a1,.int a2,.int a3,.int a4]) (hb:((-700≤a0∧a0≤700)∧(-60≤a1∧a1≤60)∧(-60≤a2∧a2≤60)∧(-60≤a3∧a3≤60)∧(-60≤a4∧a4≤60))) (k:∀ H',Same H H'→Q (.int (Mth.prod5 (a0+700).toNat (a1+60).toNat (a2+60).toNat (a3+60).toNat (a4+60).toNat)) H'):sp_measure K [.ref a] H Q E:=⟨a,a0,a1,a2,a3,a4,rfl,ha,hb,k⟩
theorem c_rising {l:Addr} {xs:List V} {rs:List (List Int)} (hs:SqL K H l xs) (hr:RowsL K H xs rs) (hb:∀ r∈rs,RB 700 60 r) (h64:xs.length<64) (k:∀ p ys qs H',Same H H'→H' p=some (.lst ys)→RowsL K H' ys qs→qs.Perm rs→(qs.Pairwise fun a b=>msr a≤msr b)→Q (.ref p) H'):sp_rising K [.ref l] H Q E:=⟨l,xs,rs,rfl,hs,hr,hb,h64,k⟩
theorem c_octaves {a:Addr} {a0 a1 a2 a3 a4:Int} (ha:SqT K H a [.int a0,.int a1,.int a2,.int a3,.int a4]) (hb:Mth.Bd a0 a1 a2 a3 a4) (k:∀ H',Same H H'→Q (.int (Mth.octR (Mth.top5 a0 a1 a2 a3 a4) (Mth.bot5 a0 a1 a2 a3 a4))) H'):sp_octaves K [.ref a] H Q E:=⟨a,a0,a1,a2,a3,a4,rfl,ha,hb,k⟩
theorem c_folded {a:Addr} {a0 a1 a2 a3 a4:Int} (ha:SqT K H a [.int a0,.int a1,.int a2,.int a3,.int a4]) (hb:Mth.Bd a0 a1 a2 a3 a4) (k:∀ p H',Same H H'→H' p=some (.tup [.int (a0 - Mth.octR (Mth.top5 a0 a1 a2 a3 a4) (Mth.bot5 a0 a1 a2 a3 a4)),.int a1,.int a2,.int a3,.int a4])→Q (.ref p) H'):sp_folded K [.ref a] H Q E:=⟨a,a0,a1,a2,a3,a4,rfl,ha,hb,k⟩
theorem c_scale_tone {a:Addr} {r:List Int} (ha:SqT K H a (r.map V.int)) (hb:RB 700 60 r) (ke:(ok30 r=false→∀ C H',PySem.W.nsIn K mainGlobals "TooFar"=some (some (.ref C))→Same H H'→E (.ref C) none H')) (kq:(ok30 r=true→∀ p H',Same H H'→H' p=some (.tup ((foldR r).map V.int))→Q (.ref p) H')):sp_scale_tone K [.ref a] H Q E:=⟨a,r,rfl,ha,hb,ke,kq⟩
theorem c_scale_of {a:Addr} {xs:List V} {rs:List (List Int)} (ha:SqL K H a xs) (hr:RowsL K H xs rs) (hb:∀ r∈rs,RB 700 60 r) (hn:rs.length≤60) (ke:((∃ r∈rs,ok30 r=false)→∀ C H',PySem.W.nsIn K mainGlobals "TooFar"=some (some (.ref C))→Same H H'→E (.ref C) none H')) (kq:((∀ r∈rs,ok30 r=true)→∀ p ys qs H',Same H H'→H' p=some (.lst ys)→RowsL K H' ys qs→(qs.Pairwise fun a b=>nsr a<nsr b)→(∀ q,q∈qs↔∃ r∈rs,q=foldR r)→Q (.ref p) H')):sp_scale_of K [.ref a] H Q E:=⟨a,xs,rs,rfl,ha,hr,hb,hn,ke,kq⟩
theorem c_scale_text {a:Addr} {xs:List V} {rs:List (List Int)} (ha:SqL K H a xs) (hr:RowsL K H xs rs) (hb:∀ r∈rs,RB 700 60 r) (hn:rs.length≤60) (k:∀ H',Same H H'→Q (.str (PySem.Str.join ⟨#[32]⟩ (rs.map nmZ))) H'):sp_scale_text K [.ref a] H Q E:=⟨a,xs,rs,rfl,ha,hr,hb,hn,k⟩
theorem c_scale_read {zs:List Str} (h:zs.length≤60∧(∀ z∈zs,WZ z)) (ke:((∃ z∈zs,ok30 (rowZ z)=false)→∀ C H',PySem.W.nsIn K mainGlobals "TooFar"=some (some (.ref C))→Same H H'→E (.ref C) none H')) (kq:((∀ z∈zs,ok30 (rowZ z)=true)→∀ p ys qs H',Same H H'→H' p=some (.lst ys)→RowsL K H' ys qs→(qs.Pairwise fun a b=>nsr a<nsr b)→(∀ q,q∈qs↔∃ z∈zs,q=foldR (rowZ z))→Q (.ref p) H')):sp_scale_read K [.str (PySem.Str.join ⟨#[32]⟩ zs)] H Q E:=⟨zs,rfl,h.1,h.2,ke,kq⟩
theorem c_law_cell {a:Addr} {ns:List Int} {j:Int} (ha:SqL K H a (ns.map V.int)) (h0:0≤j) (k:Q (.int (ns.getD j.toNat 0)) H):sp_law_cell K [.ref a,.int j] H Q E:=⟨a,ns,j,rfl,ha,h0,k⟩
theorem c_law_part {c j m:Int} (hj:0≤j∧j≤1000) (hm:0<m) (k:∀ r H',Same H H'→(0≤r∧r<m)→Q (.int r) H'):sp_law_part K [.int c,.int j,.int m] H Q E:=⟨c,j,m,rfl,hj,hm,k⟩
theorem c_law_signed {c j h:Int} (hj:0≤j∧j≤1000) (hh:0≤h∧h≤100000) (k:∀ r H',Same H H'→(-h≤r∧r≤h)→Q (.int r) H'):sp_law_signed K [.int c,.int j,.int h] H Q E:=⟨c,j,h,rfl,hj,hh,k⟩
theorem c_law_fraction {a:Addr} {e0 e1 e2 e3 e4:Int} (ha:SqT K H a [.int e0,.int e1,.int e2,.int e3,.int e4]) (hb:Mth.Bd e0 e1 e2 e3 e4) (k:∀ p H',Same H H'→H' p=some (.tup [.int (Mth.top5 e0 e1 e2 e3 e4),.int (Mth.bot5 e0 e1 e2 e3 e4)])→Q (.ref p) H'):sp_law_fraction K [.ref a] H Q E:=⟨a,e0,e1,e2,e3,e4,rfl,ha,hb,k⟩
theorem c_law_folded {a:Addr} {r:List Int} (ha:SqT K H a (r.map V.int)) (hb:RB 1000 30 r) (k:∀ p H',Same H H'→H' p=some (.tup ((foldR r).map V.int))→Q (.ref p) H'):sp_law_folded K [.ref a] H Q E:=⟨a,r,rfl,ha,hb,k⟩
theorem c_law_plus {a b:Addr} {a0 a1 a2 a3 a4 b0 b1 b2 b3 b4:Int} (ha:SqT K H a [.int a0,.int a1,.int a2,.int a3,.int a4]) (hb:SqT K H b [.int b0,.int b1,.int b2,.int b3,.int b4]) (k:∀ p H',Same H H'→H' p=some (.tup [.int (a0+b0),.int (a1+b1),.int (a2+b2),.int (a3+b3),.int (a4+b4)])→Q (.ref p) H'):sp_law_plus K [.ref a,.ref b] H Q E:=⟨a,b,a0,a1,a2,a3,a4,b0,b1,b2,b3,b4,rfl,ha,hb,k⟩
theorem c_law_less {a b:Addr} {a0 a1 a2 a3 a4 b0 b1 b2 b3 b4:Int} (ha:SqT K H a [.int a0,.int a1,.int a2,.int a3,.int a4]) (hb:SqT K H b [.int b0,.int b1,.int b2,.int b3,.int b4]) (k:∀ p H',Same H H'→H' p=some (.tup [.int (a0 - b0),.int (a1 - b1),.int (a2 - b2),.int (a3 - b3),.int (a4 - b4)])→Q (.ref p) H'):sp_law_less K [.ref a,.ref b] H Q E:=⟨a,b,a0,a1,a2,a3,a4,b0,b1,b2,b3,b4,rfl,ha,hb,k⟩
theorem c_law_lower {a b:Addr} {r q:List Int} (ha:SqT K H a (r.map V.int)) (hb:SqT K H b (q.map V.int)) (h1:RB 1000 30 r) (h2:RB 1000 30 q) (k:∀ H',Same H H'→Q (.bl (decide (nsr r<nsr q))) H'):sp_law_lower K [.ref a,.ref b] H Q E:=⟨a,b,r,q,rfl,ha,hb,h1,h2,k⟩
theorem c_law_scale {a:Addr} {xs:List V} {rs:List (List Int)} (ha:SqL K H a xs) (hr:RowsL K H xs rs) (hb:∀ r∈rs,RB 1000 30 r∧FoldR r) (hn:rs.length≤60) (k:∀ p ys qs H',Same H H'→H' p=some (.lst ys)→RowsL K H' ys qs→(qs.Pairwise fun x y=>nsr x<nsr y)→(∀ q,q∈qs↔q∈rs)→qs.length≤60→Q (.ref p) H'):sp_law_scale K [.ref a] H Q E:=⟨a,xs,rs,rfl,ha,hr,hb,hn,k⟩
theorem c_law_within {a:Addr} {r:List Int} (ha:SqT K H a (r.map V.int)) (hb:RB 700 60 r) (k:∀ H',Same H H'→Q (.bl (ok30 r)) H'):sp_law_within K [.ref a,.int 700,.int 30] H Q E:=⟨a,r,rfl,ha,hb,k⟩
theorem c_law_is_row {a:Addr} {e0 e1 e2 e3 e4:Int} (ha:SqT K H a [.int e0,.int e1,.int e2,.int e3,.int e4]) (k:∀ H',Same H H'→Q (.bl true) H'):sp_law_is_row K [.ref a] H Q E:=⟨a,e0,e1,e2,e3,e4,rfl,ha,k⟩
theorem c_law_rows {l m:Addr} {xs ys:List V} {rs:List (List Int)} (h1:SqL K H l xs) (h2:SqL K H m ys) (h3:RowsL K H xs rs) (h4:RowsL K H ys rs) (hb:∀ r∈rs,∃ a0 a1 a2 a3 a4:Int,r=[a0,a1,a2,a3,a4]) (hn:rs.length≤60) (k:∀ H',Same H H'→Q (.bl true) H'):sp_law_rows K [.ref l,.ref m] H Q E:=⟨l,m,xs,ys,rs,rfl,h1,h2,h3,h4,hb,hn,k⟩
theorem c_law_word {c:Int} (k:∀ p q N o r0 r1 r2 r3 r4 H',Same H H'→H' p=some (.tup [.str N,.int o,.ref q])→H' q=some (.tup [.int (r0+o),.int r1,.int r2,.int r3,.int r4])→(-12≤o∧o≤12)→WdN N r0 r1 r2 r3 r4→Q (.ref p) H'):sp_law_word K [.int c] H Q E:=⟨c,rfl,k⟩
theorem c_law_kinds {a C:Addr} (ha:H a=some (ExcO a C)) (hc:PySem.W.nsIn K mainGlobals "TooFar"=some (some (.ref C))) (k:∀ p H',Same H H'→H' p=some (.lst [.str "far",.str "value"])→Q (.ref p) H'):sp_law_kinds K [.ref a] H Q E:=⟨a,C,rfl,ha,hc,k⟩
theorem c_law_asked {zs:List Str} (h:zs.length≤60∧(∀ z∈zs,WZ z)) (k:∀ p f kk H',Same H H'→H' p=some (.tup [f,kk])→((∀ z∈zs,ok30 (rowZ z)=true)→kk=.non∧∃ q ys qs,f=.ref q∧H' q=some (.lst ys)∧RowsL K H' ys qs∧(qs.Pairwise fun a b=>nsr a<nsr b)∧∀ q,q∈qs↔∃ z∈zs,q=foldR (rowZ z))→((∃ z∈zs,ok30 (rowZ z)=false)→∃ q,kk=.ref q∧H' q=some (.lst [.str "far",.str "value"]))→Q (.ref p) H'):sp_law_asked K [.str (PySem.Str.join ⟨#[32]⟩ zs)] H Q E:=⟨zs,rfl,h.1,h.2,k⟩
theorem c_law_names {a b:Addr} {xs ys:List V} {ws:List (Str×Int×List Int)} {qs:List (List Int)} (ha:SqL K H a xs) (hb:SqL K H b ys) (hw:WdsL K H xs ws) (hq:RowsL K H ys qs) (ho:∀ w∈ws,WOK w) (hn:ws.length≤24) (hm:qs.length≤60) (hd:qs.Nodup) (hc:∀ q∈qs,∃ w∈ws,∃ q0:Int,(-600≤q0∧q0≤600)∧q=q0::w.2.2.tail) (k:∀ H',Same H H'→Q (.str (PySem.Str.join ⟨#[32]⟩ (qs.map nmZ))) H'):sp_law_names K [.ref a,.ref b] H Q E:=⟨a,b,xs,ys,ws,qs,rfl,ha,hb,hw,hq,ho,hn,hm,hd,hc,k⟩
theorem c_law_text {a:Addr} {xs:List V} {ws:List (Str×Int×List Int)} {b:Bool} (ha:SqL K H a xs) (hw:WdsL K H xs ws) (ho:∀ w∈ws,WOK w) (hn:ws.length≤24) (k:∀ zs H',Same H H'→zs.length≤60→(∀ z,z∈zs↔∃ w∈ws,z=wOct w.1 w.2.1)→Q (.str (PySem.Str.join ⟨#[32]⟩ zs)) H'):sp_law_text K [.ref a,.bl b] H Q E:=⟨a,xs,ws,b,rfl,ha,hw,ho,hn,k⟩
end
local macro_rules|`(tactic| walk_at "hf") => `(tactic| first|assumption|exact L2.SqT.of (by assumption)|exact L2.SqL.of (by assumption)|exact L2.Fixed.at (by assumption)|((with_reducible apply L2.sqt_sq);(walk_at "hf"))|((with_reducible apply L2.sql_sq);(walk_at "hf"))|((with_reducible apply L2.Same.at);(assumption);(walk_at "hf"))|((with_reducible apply L2.Same.seq);(assumption);(walk_at "hf"))|((with_reducible apply L2.Same.lst);(assumption);(walk_at "hf"))|((with_reducible apply L2.Same.sq);(assumption);(walk_at "hf")))
local macro_rules|`(tactic| walk_at "sm") => `(tactic| first|exact L2.Same.refl _|assumption|((refine L2.Same.trans ?_ (by assumption));walk_at "sm"))
local macro_rules|`(tactic| walk_at "side") => `(tactic| first|(show (0 : Int)<_;first|decide|lia)|exact⟨by decide, by decide⟩|exact⟨by lia, by lia⟩|exact Or.inl ⟨by decide, by decide⟩|exact Or.inr ⟨by decide, by decide⟩|exact Or.inr ⟨by lia, by lia⟩|exact Or.inl ⟨by lia, by lia⟩|exact⟨by decide, by decide, by decide⟩|assumption)
local macro_rules|`(tactic| walk_at "p") => `(tactic| first
 | (with_reducible refine L2.r_seq ?_)|(with_reducible refine L2.r_asg ?_)|(with_reducible refine L2.r_gname ?_)|(with_reducible refine L2.r_ret ?_)|(with_reducible refine L2.r_drop ?_)|(with_reducible refine L2.r_next ?_)
 | ((with_reducible apply L2.r_var);(exact rfl))|(with_reducible refine L2.r_c ?_)|(with_reducible refine L2.r_op ?_)|(with_reducible refine L2.r_un ?_)|(with_reducible refine L2.r_b ?_)|(with_reducible refine L2.r_test ?_)|(with_reducible refine L2.r_isbl ?_)
 | (with_reducible refine L2.r_and ?_)|(with_reducible refine L2.r_or ?_)|(with_reducible refine L2.r_not ?_)|(with_reducible refine L2.r_andV ?_)|(with_reducible refine L2.r_notV ?_)|(with_reducible refine L2.r_ife ?_)
 | (with_reducible refine L2.r_I0 ?_)|((with_reducible refine L2.r_I ?_ ?_);(walk_at "side"))|(with_reducible refine L2.r_U ?_)|(with_reducible refine L2.r_eqI ?_)|(with_reducible refine L2.r_neI ?_)|(with_reducible refine L2.r_nil ?_)|(with_reducible refine L2.r_cons ?_)|(with_reducible refine L2.r_tup ?_)|(with_reducible refine L2.r_lst ?_)|((with_reducible refine L2.r_newT ?_ ?_);(first|exact Nat.le_of_ble_eq_true rfl|(focus (simp;done))|(focus (simp;lia)));intro p_ H_ s_ m_)|((with_reducible refine L2.r_newL ?_ ?_);(first|exact Nat.le_of_ble_eq_true rfl|(focus (simp;done))|(focus (simp;lia)));intro p_ H_ n_ s_ m_)
 | (with_reducible refine L2.r_cb ?_)|(with_reducible refine L2.r_call0 ?_)|(with_reducible refine L2.r_comp ?_)|(with_reducible refine L2.r_sl ?_)|(with_reducible refine L2.r_nopart ?_)|(with_reducible refine L2.r_part ?_)|(with_reducible refine L2.r_isint ?_)|(with_reducible refine L2.r_bm ?_)|(with_reducible refine L2.r_bm0 ?_)
 | (with_reducible refine L2.r_for ?_)|(with_reducible refine L2.r_ilist ?_)|(with_reducible refine L2.r_itup ?_)|(with_reducible refine L2.r_irng ?_)|(with_reducible refine L2.r_izip ?_)
 | ((with_reducible apply L2.r_isl);(walk_at "hf"))|((with_reducible apply L2.r_ist);(walk_at "hf"))|((with_reducible refine L2.r_isr ?_ ?_ ?_);(first|decide|lia);(first|decide|lia))|((with_reducible apply L2.r_isz);(walk_at "hf");(walk_at "hf"))
 | ((with_reducible apply L2.r_lenT);(walk_at "hf"))|((with_reducible apply L2.r_lenL);(walk_at "hf"))
 | ((with_reducible apply L2.r_tupleL);(walk_at "hf");intro p_ H_ s_ m_)|((with_reducible apply L2.r_listL);(walk_at "hf");intro p_ H_ n_ s_ m_)|(with_reducible refine L2.r_abs ?_)|(with_reducible refine L2.r_max ?_)|(with_reducible refine L2.r_int1b ?_)|(with_reducible refine L2.r_bitlen ?_)
 | ((with_reducible apply L2.r_isiT);(walk_at "hf");(first|exact L2.kit_same _ _|exact rfl))|((with_reducible apply L2.r_isiL);(walk_at "hf");(first|exact L2.kit_same _ _|exact rfl))|((with_reducible apply L2.r_isiI);(first|exact L2.kit_same _ _|exact rfl))|((with_reducible apply L2.r_isiB);(first|exact L2.kit_same _ _|exact rfl))
 | ((with_reducible refine L2.r_typed0 ?_ ?_);(first|exact rfl|exact Or.inl ⟨rfl,_,by walk_at "hf"⟩))|((with_reducible refine L2.r_typed ?_ ?_);(first|exact rfl|exact Or.inl ⟨rfl,_,by walk_at "hf"⟩))
 | ((with_reducible apply L2.r_slT1);(walk_at "hf");intro p_ H_ s_ m_)
 | ((with_reducible apply L2.r_catT);(walk_at "hf");(walk_at "hf");(exact List.cons_ne_nil _ _);(exact List.cons_ne_nil _ _);(first|exact Nat.le_of_ble_eq_true rfl|(focus (simp;done))|(focus (simp;lia)));intro p_ H_ s_ m_)
 | ((with_reducible apply L2.r_isiN);(exact rfl))|((with_reducible apply L2.r_isiS);(exact rfl))|(with_reducible refine L2.r_sortK ?_)
 | (with_reducible refine L2.r_callX ?_)|(with_reducible refine L2.r_raise ?_)|(with_reducible refine L2.r_try ?_)|(with_reducible refine L2.r_dput ?_)|((with_reducible refine L2.r_dnewT ?_);intro p_ H_ n_ s_ m_) )
local macro_rules|`(tactic| walk_at "q") => `(tactic| first|(walk_at "p")|(with_reducible refine L2.r_ifs ?_))
local macro_rules|`(tactic| walk_at "x") => `(tactic| first|((with_reducible apply L2.r_ixT);(walk_at "hf");(exact rfl))|((with_reducible apply L2.r_ixL);(walk_at "hf");(exact rfl)))
local macro_rules|`(tactic| walk_at "r") => `(tactic| first|(walk_at "q")|(walk_at "x"))
local macro_rules|`(tactic| walk_at "v") => `(tactic| repeat walk_at "q")
local macro_rules|`(tactic| walk_at "j") => `(tactic| repeat (first|(walk_at "p")|(walk_at "x")))
local macro_rules|`(tactic| walk_at "sz") => `(tactic| first|exact L2.small2000 (by lia)|decide|exact L2.small2000 (by simp only [PySem.strLen_append];lia)|assumption)
local macro_rules|`(tactic| walk_at "p") => `(tactic| first|((with_reducible refine L2.r_lstC ?_ ?_);(exact Nat.le_of_ble_eq_true rfl);intro p_ H_ n_ s_ m_)|(with_reducible refine L2.r_istr ?_)|(with_reducible refine L2.r_iss ?_)|(with_reducible refine L2.r_join ?_)|(with_reducible refine L2.r_fcons ?_)|(with_reducible refine L2.r_show ?_)|((with_reducible refine L2.r_fnil ?_ ?_);(walk_at "sz"))|((with_reducible refine L2.r_piece ?_ ?_);(walk_at "sz"))|((with_reducible refine L2.r_lenS ?_ ?_);(walk_at "sz"))|((with_reducible refine L2.r_addS ?_ ?_);(walk_at "sz"))|(with_reducible refine L2.r_inS ?_)|((with_reducible refine L2.r_slS ?_ ?_);(walk_at "sz"))|(with_reducible refine L2.r_chain ?_)|(with_reducible refine L2.r_link ?_)|(with_reducible refine L2.r_eqS ?_)|(with_reducible refine L2.r_neS ?_)|((with_reducible refine L2.r_showS ?_ ?_);(walk_at "sz")))
local macro_rules|`(tactic| walk_at "p") => `(tactic| ((with_reducible apply c_times);(walk_at "hf");(walk_at "hf");intro p_ H_ s_ m_))
local macro_rules|`(tactic| walk_at "p") => `(tactic| ((with_reducible apply c_over);(walk_at "hf");(walk_at "hf");intro p_ H_ s_ m_))
local macro_rules|`(tactic| walk_at "p") => `(tactic| ((with_reducible apply c_raised);(first|(exact⟨by decide, by decide⟩)|(exact⟨by lia, by lia⟩));(exact⟨by lia, by lia⟩)))
local macro_rules|`(tactic| walk_at "p") => `(tactic| ((with_reducible apply c_fraction_of);(walk_at "hf");(first|assumption|(unfold Mth.Bd;lia));intro p_ H_ s_ m_))
local macro_rules|`(tactic| walk_at "p") => `(tactic| ((with_reducible apply c_measure);(walk_at "hf");(first|assumption|lia);intro H_ s_))
local macro_rules|`(tactic| walk_at "p") => `(tactic| ((with_reducible apply c_octaves);(walk_at "hf");(first|assumption|(unfold Mth.Bd;lia));intro H_ s_))
local macro_rules|`(tactic| walk_at "p") => `(tactic| ((with_reducible apply c_folded);(walk_at "hf");(first|assumption|(unfold Mth.Bd;lia));intro p_ H_ s_ m_))
local macro_rules|`(tactic| walk_at "p") => `(tactic| ((with_reducible apply c_law_cell);(walk_at "hf");(first|decide|lia)))
local macro_rules|`(tactic| walk_at "p") => `(tactic| ((with_reducible apply c_law_plus);(walk_at "hf");(walk_at "hf");intro p_ H_ s_ m_))
local macro_rules|`(tactic| walk_at "p") => `(tactic| ((with_reducible apply c_law_less);(walk_at "hf");(walk_at "hf");intro p_ H_ s_ m_))
local macro_rules|`(tactic| walk_at "p") => `(tactic| ((with_reducible apply c_law_is_row);(walk_at "hf");intro H_ s_))
local macro_rules|`(tactic| walk_at "w") => `(tactic| repeat walk_at "r")
section
variable {P:Program} {w:World} {K:PySem.W.Frag} {mg:Str→Option Value} {base:Heap} {G:Adr}
theorem sc_is_counting:FnScope ["text","most"] ["text","most"] (defScope s_is_counting):=⟨rfl,rfl,rfl,by decide +kernel,rfl,by decide +kernel,by decide +kernel⟩
theorem ok_is_counting (D:Def K mg "is_counting" s_is_counting ["text","most"]) (T:Txt P w K mg G):Ok P w K mg base 1 "is_counting" ["text","most"] (sp_is_counting K):=by
 have S:=sc_is_counting
 refine D.ok S (fun vs H Q E h=>?_) (fun f cdv A outer s H vs Q E hr h=>?_)
 ·obtain ⟨z,m,rfl,hz,k⟩:=h;rfl
 ·obtain ⟨z,m,rfl,hz,k⟩:=h
  have hu:=hu_of hr
  have q_ONE:=T.q_ONE
  have q_PRIMES:=T.q_PRIMES
  have q_BOUNDS:=T.q_BOUNDS
  refine⟨_,(pss_cons (ps_if (PW.pt (pw_or (pt_not (pt_chain op_le op_le pe_int (pe_callB callN_lenS rfl T.b_len PySem.boot_len (pa_cons (pv 0) pa_nil)) (pv 1))) (pw_or1 (pt_cmpR op_eq (pe_ix ix_str (pv 0) pe_int (fun _ _=>rfl)) pe_str (nomark _))))) (pss_one (ps_ret pe_bl)) pss_nil) (pss_one (ps_ret (pe_callB (kN_all K rfl rfl) rfl T.b_all PyProof.Rows.boot_all (pa_cons (pe_comp (N:=["figure"]) (ix:=[none]) rfl (pi_str (pv 0)) (fun _ _ _ _ _=>(pg_name (i:=0) (show List.Nodup (["figure"]:List Str) by decide +kernel) rfl (Or.inl rfl))) (fun _ _ _ _ _=>rfl) (fun _ _ _ _ _=>(pe_cmpR op_inS (pv 0) pe_str (by with_unfolding_all rfl))) rfl (by decide +kernel) (by decide +kernel) rfl True.intro) pa_nil))))),?_⟩
  walk_at "w"
  by_cases h1:1≤z.length
  ·rw [if_pos (decide_eq_true (by lia))]
   walk_at "w"
   by_cases h2:z.length≤m
   ·rw [if_neg (by rw [decide_eq_true (show (z.length:Int)≤(m:Int) by lia)];decide)]
    walk_at "w"
    obtain ⟨c,hc⟩:=Sgn.get0 h1
    refine r_ixS (small2000 (by lia)) (atI_nat (j:=0) (by rw [Array.getElem?_toList];exact hc)) ?_
    walk_at "w"
    rw [Sgn.str0]
    by_cases h3:c=48
    ·rw [if_pos (decide_eq_true (by rw [h3]))]
     walk_at "w"
     rw [Sgn.cnt_nought (by rw [hc,h3])] at k
     exact k _ (Same.refl _)
    ·rw [if_neg (by rw [decide_eq_false (fun e=>h3 (Sgn.one_iff.mp e))];decide)]
     walk_at "w"
     refine rd_compS _ (fun i=>V.bl (Sgn.dgt ((z.cps[i]?).getD 0))) rfl hz (fun i d H' Qc hd s1 kc=>?_) (fun l H' hl s1 m1=>?_)
     ·walk_at "w"
      rw [Sgn.str09,Sgn.in_digits]
      have:=kc _ (Same.refl _)
      rw [hd] at this
      exact this
     ·walk_at "w"
      refine r_all (bs:=(List.range z.cps.size).map fun i=>Sgn.dgt ((z.cps[i]?).getD 0)) (SqL.of (by rw [List.map_map];exact m1)) ?_
      rw [Sgn.all_range,← Sgn.cnt_all h1 h2 hc h3]
      exact k _ s1
   ·rw [if_pos (by rw [decide_eq_false (show ¬ (z.length:Int)≤(m:Int) by lia)];rfl)]
    walk_at "w"
    rw [Sgn.cnt_long h2] at k
    exact k _ (Same.refl _)
  ·rw [if_neg (by rw [decide_eq_false (show ¬ (1:Int)≤z.length by lia)];decide)]
   walk_at "w"
   rw [Sgn.cnt_short h1] at k
   exact k _ (Same.refl _)
theorem sc_is_signed:FnScope ["text","most"] ["text","most"] (defScope s_is_signed):=⟨rfl,rfl,rfl,by decide +kernel,rfl,by decide +kernel,by decide +kernel⟩
structure Os_is_signed (P:Program) (w:World) (K:PySem.W.Frag) (mg:Str→Option Value) (base:Heap) (G:Adr):Prop where
 is_counting:Ok P w K mg base 1 "is_counting" ["text","most"] (sp_is_counting K)
theorem ok_is_signed (D:Def K mg "is_signed" s_is_signed ["text","most"]) (T:Txt P w K mg G) (O:Os_is_signed P w K mg base G):Ok P w K mg base 2 "is_signed" ["text","most"] (sp_is_signed K):=by
 have S:=sc_is_signed
 refine D.ok S (fun vs H Q E h=>?_) (fun f cdv A outer s H vs Q E hr h=>?_)
 ·obtain ⟨y,m,rfl,hy,k⟩:=h;rfl
 ·obtain ⟨y,m,rfl,hy,k⟩:=h
  have hu:=hu_of hr
  have q_ONE:=T.q_ONE
  have q_PRIMES:=T.q_PRIMES
  have q_BOUNDS:=T.q_BOUNDS
  refine⟨_,(pss_cons (ps_if (pt_cmpR op_eq (pv 0) pe_str (nomark _)) (pss_one (ps_ret pe_bl)) pss_nil) (pss_one (ps_ret (pcall O.is_counting (hr.mono (by decide)) (pa_cons (pe_ifExp (pt_val (pe_bm PySem.F.plainAttrs_str PySem.F.slot_str_startswith PySem.F.type_str_startswith mt_starts (pv 0) (pa_cons pe_str pa_nil))) (pe_slice sl_str (pv 0) (po_some pe_int) po_none) (pv 0)) (pa_cons (pv 1) pa_nil)))))),?_⟩
  walk_at "w"
  rw [Sgn.str0]
  by_cases h0:y=⟨#[48]⟩
  ·rw [if_pos (decide_eq_true h0)]
   walk_at "w"
   have e:Nam.sgd y m=some 0:=by unfold Nam.sgd;rw [if_pos h0]
   rw [e] at k
   exact k _ (Same.refl _)
  rw [if_neg (by rw [decide_eq_false h0];decide)]
  walk_at "w"
  refine r_starts ?_
  rw [Nam.starts45]
  walk_at "w"
  by_cases h1:y.cps[0]?=some 45
  ·rw [if_pos (decide_eq_true h1)]
   walk_at "w"
   refine c_is_counting (Nat.le_trans (PySem.Txt.slice_le y _ _) hy) fun H1 s1=>?_
   have es:PySem.Txt.slice y (some 1) none=⟨(y.cps.toList.drop 1).toArray⟩:=Nam.from_eq y 0
   rw [es]
   have e:(Nam.sgd y m).isSome=Sgn.cnt ⟨(y.cps.toList.drop 1).toArray⟩ m:=by
    unfold Nam.sgd
    rw [if_neg h0,if_pos h1]
    cases Sgn.cnt ⟨(y.cps.toList.drop 1).toArray⟩ m <;> rfl
   rw [e] at k
   exact k _ s1
  ·rw [if_neg (by rw [decide_eq_false h1];decide)]
   walk_at "w"
   refine c_is_counting hy fun H1 s1=>?_
   have e:(Nam.sgd y m).isSome=Sgn.cnt y m:=by
    unfold Nam.sgd
    rw [if_neg h0,if_neg h1]
    cases Sgn.cnt y m <;> rfl
   rw [e] at k
   exact k _ s1
theorem sc_is_whole:FnScope ["thing"] ["thing"] (defScope s_is_whole):=⟨rfl,rfl,rfl,by decide +kernel,rfl,by decide +kernel,by decide +kernel⟩
theorem ok_is_whole (D:Def K mg "is_whole" s_is_whole ["thing"]) (T:Txt P w K mg G):Ok P w K mg base 1 "is_whole" ["thing"] (sp_is_whole K):=by
 have S:=sc_is_whole
 refine D.ok S (fun vs H Q E h=>?_) (fun f cdv A outer s H vs Q E hr h=>?_)
 ·obtain ⟨v,rfl,hv,k⟩:=h;rfl
 ·obtain ⟨v,rfl,hv,k⟩:=h
  have hu:=hu_of hr
  have q_ONE:=T.q_ONE
  have q_PRIMES:=T.q_PRIMES
  have q_BOUNDS:=T.q_BOUNDS
  refine⟨_,(pss_one (ps_ret (pe_and (pe_callB (kN_isinst K rfl) rfl T.b_isinstance PyProof.Rows.boot_isinstance (pa_cons (pv 0) (pa_cons (pe_bltn (v:=V.ty "int") rfl T.b_int PyProof.Rows.boot_int rfl) pa_nil))) (pe_one (pe_not (pe_callB (kN_isinst K rfl) rfl T.b_isinstance PyProof.Rows.boot_isinstance (pa_cons (pv 0) (pa_cons (pe_bltn (v:=V.ty "bool") rfl T.b_bool PyProof.Rows.boot_bool rfl) pa_nil)))))))),?_⟩
  rcases hv with ⟨i,rfl⟩|⟨b,rfl⟩|rfl|⟨s,rfl⟩|⟨a,xs,rfl,hs⟩|⟨a,xs,rfl,hs⟩
  ·walk_at "w"
   refine iteT ?_
   walk_at "w"
   exact k
  ·walk_at "w"
   refine iteT ?_
   walk_at "w"
   exact k
  all_goals
   walk_at "w"
   refine iteF ?_
   walk_at "w"
   exact k
theorem sc_is_row:FnScope ["thing"] ["thing"] (defScope s_is_row):=⟨rfl,rfl,rfl,by decide +kernel,rfl,by decide +kernel,by decide +kernel⟩
structure Os_is_row (P:Program) (w:World) (K:PySem.W.Frag) (mg:Str→Option Value) (base:Heap) (G:Adr):Prop where
 is_whole:Ok P w K mg base 1 "is_whole" ["thing"] (sp_is_whole K)
theorem ok_is_row (D:Def K mg "is_row" s_is_row ["thing"]) (T:Txt P w K mg G) (O:Os_is_row P w K mg base G):Ok P w K mg base 2 "is_row" ["thing"] (sp_is_row K):=by
 have S:=sc_is_row
 refine D.ok S (fun vs H Q E h=>?_) (fun f cdv A outer s H vs Q E hr h=>?_)
 ·obtain ⟨v,rfl,h⟩:=h;rfl
 ·obtain ⟨v,rfl,h⟩:=h
  have hu:=hu_of hr
  have q_ONE:=T.q_ONE
  have q_PRIMES:=T.q_PRIMES
  have q_BOUNDS:=T.q_BOUNDS
  refine⟨_,(pss_cons (ps_if (PW.pt (pw_or (pt_not (pt_val (pe_callB (kN_isinst K rfl) rfl T.b_isinstance PyProof.Rows.boot_isinstance (pa_cons (pv 0) (pa_cons (pe_bltn (v:=V.ty "tuple") rfl T.b_tuple PyProof.Rows.boot_tuple rfl) pa_nil))))) (pw_or1 (pt_cmpR op_ne (pe_callB (kN_len K rfl) rfl T.b_len PySem.boot_len (pa_cons (pv 0) pa_nil)) (pe_callB (kN_len K rfl) rfl T.b_len PySem.boot_len (pa_cons (pe_glob (v:=V.ref G.a_ONE) rfl T.g_ONE rfl) pa_nil)) (nomark _))))) (pss_one (ps_ret pe_bl)) pss_nil) (pss_one (ps_ret (pe_callB (kN_all K rfl rfl) rfl T.b_all PyProof.Rows.boot_all (pa_cons (pe_comp (N:=["number"]) (ix:=[none]) rfl (kpi_tup K rfl (pv 0)) (fun _ _ _ _ _=>(pg_name (i:=0) (show List.Nodup (["number"]:List Str) by decide +kernel) rfl (Or.inl rfl))) (fun _ _ _ _ _=>rfl) (fun _ _ _ _ _=>(pcall O.is_whole (hr.mono (by decide)) (pa_cons (pv 0) pa_nil))) rfl (by decide +kernel) (by decide +kernel) rfl True.intro) pa_nil))))),?_⟩
  rcases h with ⟨a,xs,rfl,hs,hl,hk,k⟩|⟨hv,k⟩
  ·walk_at "w"
   refine iteF ?_
   walk_at "w"
   refine if_both (fun h1=>?_) (fun h1=>?_)
   ·have h1':xs.length≠5:=fun z=>by rw [z] at h1;simp at h1
    walk_at "w"
    rw [decide_eq_false h1'] at k
    exact k _ (Same.refl _)
   have h1':xs.length=5:=by simp at h1;lia
   walk_at "w"
   refine rd_mapRowV (fun x=>.bl (wh x)) [] rfl hs hl (fun x H' Qc hx s kc=>?_) (fun l H1 hl1 s1 m1=>?_)
   ·walk_at "w"
    refine c_is_whole ((hk x hx).same s) ?_
    walk_at "w"
    exact kc _ (Same.refl _)
   walk_at "w"
   refine r_all (bs:=xs.map wh) (SqL.of (by rw [m1,List.map_map];rfl)) ?_
   walk_at "w"
   rw [decide_eq_true h1',Bool.true_and] at k
   have e:(xs.map wh).all id=xs.all wh:=by rw [List.all_map];rfl
   rw [e]
   exact k _ s1
  ·rcases hv with ⟨i,rfl⟩|rfl|⟨s,rfl⟩|⟨a,xs,rfl,hs⟩
   all_goals
    walk_at "w"
    refine iteT ?_
    walk_at "w"
    exact k
theorem sc_is_tone:FnScope ["thing"] ["thing"] (defScope s_is_tone):=⟨rfl,rfl,rfl,by decide +kernel,rfl,by decide +kernel,by decide +kernel⟩
structure Os_is_tone (P:Program) (w:World) (K:PySem.W.Frag) (mg:Str→Option Value) (base:Heap) (G:Adr):Prop where
 is_row:Ok P w K mg base 2 "is_row" ["thing"] (sp_is_row K)
theorem ok_is_tone (D:Def K mg "is_tone" s_is_tone ["thing"]) (T:Txt P w K mg G) (O:Os_is_tone P w K mg base G):Ok P w K mg base 3 "is_tone" ["thing"] (sp_is_tone K):=by
 have S:=sc_is_tone
 refine D.ok S (fun vs H Q E h=>?_) (fun f cdv A outer s H vs Q E hr h=>?_)
 ·obtain ⟨v,rfl,h⟩:=h;rfl
 ·obtain ⟨v,rfl,h⟩:=h
  have hu:=hu_of hr
  have q_ONE:=T.q_ONE
  have q_PRIMES:=T.q_PRIMES
  have q_BOUNDS:=T.q_BOUNDS
  refine⟨_,(pss_cons (ps_if (pt_not (pt_val (pcall O.is_row (hr.mono (by decide)) (pa_cons (pv 0) pa_nil)))) (pss_one (ps_ret pe_bl)) pss_nil) (pss_one (ps_ret (pe_callB (kN_all K rfl rfl) rfl T.b_all PyProof.Rows.boot_all (pa_cons (pe_comp (N:=["number","bound"]) (ix:=[none,none]) rfl (kpi_zip2 K rfl true true rfl T.b_zip (pa_cons (pv 0) (pa_cons (pe_glob (v:=V.ref G.a_BOUNDS) rfl T.g_BOUNDS rfl) pa_nil))) (fun _ _ _ _ _=>(kpg_tup (n:=2) K rfl rfl (pgs_cons (pg_name (i:=0) (show List.Nodup (["number","bound"]:List Str) by decide +kernel) rfl (Or.inl rfl)) (pgs_cons (pg_name (i:=1) (show List.Nodup (["number","bound"]:List Str) by decide +kernel) rfl (Or.inl rfl)) pgs_nil)))) (fun _ _ _ _ _=>rfl) (fun _ _ _ _ _=>(pe_cmpR op_le (pe_callB callN_abs rfl T.b_abs PyProof.Rows.boot_abs (pa_cons (pv 0) pa_nil)) (pv 1) (nomark _))) rfl (by decide +kernel) (by decide +kernel) rfl True.intro) pa_nil))))),?_⟩
  rcases h with ⟨a,x0,x1,x2,x3,x4,rfl,hs,k⟩|⟨ho,k⟩
  ·walk_at "w"
   refine c_is_row (.inl ⟨a,_,rfl,hs,(by show 5≤1000;decide),fun x hx=>?_,fun H1 s1=>?_⟩)
   ·simp only [List.mem_cons,List.not_mem_nil,or_false] at hx
    rcases hx with rfl|rfl|rfl|rfl|rfl <;> exact .inl ⟨_,rfl⟩
   walk_at "w"
   refine iteF ?_
   walk_at "w"
   refine rd_compZ (k1:=true) (k2:=true) [] (fun i=>.bl (decide ((if ([x0,x1,x2,x3,x4]:List Int).getD i 0<0 then -([x0,x1,x2,x3,x4]:List Int).getD i 0 else ([x0,x1,x2,x3,x4]:List Int).getD i 0)≤([700,60,60,60,60]:List Int).getD i 0))) rfl (by walk_at "hf") (by walk_at "hf") (by rfl) (by show 5≤1000000;decide) (fun i x y H' Qc ex ey hs kc=>?_) (fun l H2 hl s2 m2=>?_)
   ·have hi:i<5:=(List.getElem?_eq_some_iff.mp ex).1
    match i,hi with
    | 0,_|1,_|2,_|3,_|4,_ =>
     cases ex
     cases ey
     walk_at "w"
     exact kc _ (Same.refl _)
   walk_at "w"
   refine r_all (bs:=[decide ((if x0<0 then -x0 else x0)≤700),decide ((if x1<0 then -x1 else x1)≤60),decide ((if x2<0 then -x2 else x2)≤60),decide ((if x3<0 then -x3 else x3)≤60),decide ((if x4<0 then -x4 else x4)≤60)]) (SqL.of m2) ?_
   walk_at "w"
   exact k _ (by walk_at "sm")
  ·rcases ho with ⟨a,xs,rfl,hs,hl,hk,hf⟩|hn
   ·walk_at "w"
    refine c_is_row (.inl ⟨a,xs,rfl,hs,hl,hk,fun H1 s1=>?_⟩)
    rw [hf]
    walk_at "w"
    refine iteT ?_
    walk_at "w"
    exact k _ s1
   ·walk_at "w"
    refine c_is_row (.inr ⟨hn,?_⟩)
    walk_at "w"
    refine iteT ?_
    walk_at "w"
    exact k _ (Same.refl _)
theorem sc_tone_of:FnScope ["row"] ["row"] (defScope s_tone_of):=⟨rfl,rfl,rfl,by decide +kernel,rfl,by decide +kernel,by decide +kernel⟩
structure Os_tone_of (P:Program) (w:World) (K:PySem.W.Frag) (mg:Str→Option Value) (base:Heap) (G:Adr):Prop where
 is_tone:Ok P w K mg base 3 "is_tone" ["thing"] (sp_is_tone K)
theorem ok_tone_of (D:Def K mg "tone_of" s_tone_of ["row"]) (T:Txt P w K mg G) (O:Os_tone_of P w K mg base G):OkX P w K mg base 4 "tone_of" ["row"] (sp_tone_of K):=by
 have S:=sc_tone_of
 refine D.okX S (fun vs H Q E h=>?_) (fun f cdv A outer s H vs Q E hr h=>?_)
 ·obtain ⟨a,x0,x1,x2,x3,x4,rfl,ha,ke,kq⟩:=h;rfl
 ·obtain ⟨a,x0,x1,x2,x3,x4,rfl,ha,ke,kq⟩:=h
  have hu:=hu_of hr
  have q_ONE:=T.q_ONE
  have q_PRIMES:=T.q_PRIMES
  have q_BOUNDS:=T.q_BOUNDS
  refine⟨_,(pss_cons (ps_if (pt_not (pt_val (pcall O.is_tone (hr.mono (by decide)) (pa_cons (pv 0) pa_nil)))) (pss_one (ps_raise T.i_TooFar PySem.F.excBase_ValueError (by decide +kernel) PySem.F.excBase_ValueError rfl (fun _ _ z=>z) rfl rfl T.g_TooFar (pa_cons pe_str pa_nil))) pss_nil) (pss_one (ps_ret (pv 0)))),?_⟩
  walk_at "w"
  refine c_is_toneR (by walk_at "hf") fun H1 s1=>?_
  walk_at "w"
  refine if_both (fun h1=>?_) (fun h1=>?_)
  ·walk_at "w"
   exact⟨by decide,ke (by simpa using h1) _ _ T.m_TooFar (by walk_at "sm")⟩
  walk_at "w"
  exact kq (by simpa using h1) _ (by walk_at "sm")
theorem sc_times:FnScope ["one","other"] ["one","other"] (defScope s_times):=⟨rfl,rfl,rfl,by decide +kernel,rfl,by decide +kernel,by decide +kernel⟩
theorem ok_times (D:Def K mg "times" s_times ["one","other"]) (T:Txt P w K mg G):Ok P w K mg base 1 "times" ["one","other"] (sp_times K):=by
 have S:=sc_times
 refine D.ok S (fun vs H Q E h=>?_) (fun f cdv A outer s H vs Q E hr h=>?_)
 ·obtain ⟨a,b,a0,a1,a2,a3,a4,b0,b1,b2,b3,b4,rfl,ha,hb,k⟩:=h;rfl
 ·obtain ⟨a,b,a0,a1,a2,a3,a4,b0,b1,b2,b3,b4,rfl,ha,hb,k⟩:=h
  have hu:=hu_of hr
  have q_ONE:=T.q_ONE
  have q_PRIMES:=T.q_PRIMES
  have q_BOUNDS:=T.q_BOUNDS
  refine⟨_,(pss_one (ps_ret (pe_callTy (kN_tuple K rfl) rfl T.b_tuple PyProof.Rows.boot_tuple (pa_cons (pe_comp (N:=["number","added"]) (ix:=[none,none]) rfl (kpi_zip2 K rfl true true rfl T.b_zip (pa_cons (pv 0) (pa_cons (pv 1) pa_nil))) (fun _ _ _ _ _=>(kpg_tup (n:=2) K rfl rfl (pgs_cons (pg_name (i:=0) (show List.Nodup (["number","added"]:List Str) by decide +kernel) rfl (Or.inl rfl)) (pgs_cons (pg_name (i:=1) (show List.Nodup (["number","added"]:List Str) by decide +kernel) rfl (Or.inl rfl)) pgs_nil)))) (fun _ _ _ _ _=>rfl) (fun _ _ _ _ _=>(pe_op op_add (pv 0) (pv 1))) rfl (by decide +kernel) (by decide +kernel) rfl True.intro) pa_nil)))),?_⟩
  refine⟨_,rfl,_,rfl,a,b,rfl,⟨_,ha⟩,⟨_,hb⟩,rd_zipRows (r:=[a0,a1,a2,a3,a4]) (q:=[b0,b1,b2,b3,b4]) (·+·) rfl ha hb rfl (by show 5≤1000;decide) fun l H' hl hs hl'=>?_⟩
  exact r_tupleL (SqL.of hl') fun p H2 s2 m=>k p H2 (hs.trans s2) m
theorem sc_over:FnScope ["one","other"] ["one","other"] (defScope s_over):=⟨rfl,rfl,rfl,by decide +kernel,rfl,by decide +kernel,by decide +kernel⟩
theorem ok_over (D:Def K mg "over" s_over ["one","other"]) (T:Txt P w K mg G):Ok P w K mg base 1 "over" ["one","other"] (sp_over K):=by
 have S:=sc_over
 refine D.ok S (fun vs H Q E h=>?_) (fun f cdv A outer s H vs Q E hr h=>?_)
 ·obtain ⟨a,b,a0,a1,a2,a3,a4,b0,b1,b2,b3,b4,rfl,ha,hb,k⟩:=h;rfl
 ·obtain ⟨a,b,a0,a1,a2,a3,a4,b0,b1,b2,b3,b4,rfl,ha,hb,k⟩:=h
  have hu:=hu_of hr
  have q_ONE:=T.q_ONE
  have q_PRIMES:=T.q_PRIMES
  have q_BOUNDS:=T.q_BOUNDS
  refine⟨_,(pss_one (ps_ret (pe_callTy (kN_tuple K rfl) rfl T.b_tuple PyProof.Rows.boot_tuple (pa_cons (pe_comp (N:=["number","taken"]) (ix:=[none,none]) rfl (kpi_zip2 K rfl true true rfl T.b_zip (pa_cons (pv 0) (pa_cons (pv 1) pa_nil))) (fun _ _ _ _ _=>(kpg_tup (n:=2) K rfl rfl (pgs_cons (pg_name (i:=0) (show List.Nodup (["number","taken"]:List Str) by decide +kernel) rfl (Or.inl rfl)) (pgs_cons (pg_name (i:=1) (show List.Nodup (["number","taken"]:List Str) by decide +kernel) rfl (Or.inl rfl)) pgs_nil)))) (fun _ _ _ _ _=>rfl) (fun _ _ _ _ _=>(pe_op op_sub (pv 0) (pv 1))) rfl (by decide +kernel) (by decide +kernel) rfl True.intro) pa_nil)))),?_⟩
  refine⟨_,rfl,_,rfl,a,b,rfl,⟨_,ha⟩,⟨_,hb⟩,rd_zipRows (r:=[a0,a1,a2,a3,a4]) (q:=[b0,b1,b2,b3,b4]) (· - ·) rfl ha hb rfl (by show 5≤1000;decide) fun l H' hl hs hl'=>?_⟩
  exact r_tupleL (SqL.of hl') fun p H2 s2 m=>k p H2 (hs.trans s2) m
theorem sc_power:FnScope ["row","n"] ["row","n"] (defScope s_power):=⟨rfl,rfl,rfl,by decide +kernel,rfl,by decide +kernel,by decide +kernel⟩
theorem ok_power (D:Def K mg "power" s_power ["row","n"]) (T:Txt P w K mg G):Ok P w K mg base 1 "power" ["row","n"] (sp_power K):=by
 have S:=sc_power
 refine D.ok S (fun vs H Q E h=>?_) (fun f cdv A outer s H vs Q E hr h=>?_)
 ·obtain ⟨a,x0,x1,x2,x3,x4,n,rfl,ha,hb,k⟩:=h;rfl
 ·obtain ⟨a,x0,x1,x2,x3,x4,n,rfl,ha,hb,k⟩:=h
  have hu:=hu_of hr
  have q_ONE:=T.q_ONE
  have q_PRIMES:=T.q_PRIMES
  have q_BOUNDS:=T.q_BOUNDS
  refine⟨_,(pss_one (ps_ret (pe_callTy (kN_tuple K rfl) rfl T.b_tuple PyProof.Rows.boot_tuple (pa_cons (pe_comp (N:=["number","n"]) (ix:=[none,some 1]) rfl (kpi_tup K rfl (pv 0)) (fun _ _ _ _ _=>(pg_name (i:=0) (show List.Nodup (["number","n"]:List Str) by decide +kernel) rfl (Or.inl rfl))) (fun _ _ _ _ _=>rfl) (fun _ _ _ _ _=>(pe_op op_mulB (pv 0) (pv 1))) rfl (by decide +kernel) (by decide +kernel) rfl ⟨⟨rfl,Or.inr (Or.inl rfl),rfl,rfl⟩,True.intro⟩) pa_nil)))),?_⟩
  walk_at "w"
  refine rd_mapRow (r:=[x0,x1,x2,x3,x4]) (fun x=>.int (x*n)) [some (.int n)] rfl ha (by show 5≤1000;decide) (fun x H' Qc hx s kc=>?_) (fun l H2 hl s2 m2=>?_)
  ·walk_at "w"
   refine r_I (mulS (hb.1 x hx) hb.2) ?_
   exact kc _ (Same.refl _)
  walk_at "w"
  rename_i p3 H3 s3 m3
  exact k _ _ (s2.trans s3) m3
theorem sc_raised:FnScope ["base","exponent","product","step"] ["base","exponent"] (defScope s_raised):=⟨rfl,rfl,rfl,by decide +kernel,rfl,by decide +kernel,by decide +kernel⟩
theorem ok_raised (D:Def K mg "raised" s_raised ["base","exponent"]) (T:Txt P w K mg G):Ok P w K mg base 1 "raised" ["base","exponent"] (sp_raised K):=by
 have S:=sc_raised
 refine D.ok S (fun vs H Q E h=>?_) (fun f cdv A outer s H vs Q E hr h=>?_)
 ·obtain ⟨b,e,rfl,hb,he,k⟩:=h;rfl
 ·obtain ⟨b,e,rfl,hb,he,k⟩:=h
  have hu:=hu_of hr
  have q_ONE:=T.q_ONE
  have q_PRIMES:=T.q_PRIMES
  have q_BOUNDS:=T.q_BOUNDS
  refine⟨_,(pss_cons (ps_set (i:=2) S.nd rfl (Or.inl rfl) pe_int) (pss_cons (ps_for PassesOwn.never rfl (pi_range1 rfl T.b_range (pa_cons (pv 1) pa_nil)) (pg_name (i:=3) S.nd rfl (Or.inl rfl)) (pss_one (ps_set (i:=2) S.nd rfl (Or.inl rfl) (pe_op op_mul (pv 2) (pv 0))))) (pss_one (ps_ret (pv 2))))),?_⟩
  walk_at "w"
  refine f_rngE (fun i σ=>∃ o,σ=[some (.int b),some (.int e),some (.int (b ^ i)),o]) ⟨_,by rw [Int.pow_zero] <;> rfl⟩ (fun i σ hi hp=>?_) (fun σ hp=>?_)
  ·obtain ⟨o,rfl⟩:=hp
   walk_at "w"
   exact⟨⟨_,by rw [Int.pow_succ] <;> rfl⟩,rfl⟩
  ·obtain ⟨o,rfl⟩:=hp
   walk_at "w"
   exact k
theorem sc_number_of:FnScope ["row","product","prime","exponent"] ["row"] (defScope s_number_of):=⟨rfl,rfl,rfl,by decide +kernel,rfl,by decide +kernel,by decide +kernel⟩
structure Os_number_of (P:Program) (w:World) (K:PySem.W.Frag) (mg:Str→Option Value) (base:Heap) (G:Adr):Prop where
 raised:Ok P w K mg base 1 "raised" ["base","exponent"] (sp_raised K)
theorem ok_number_of (D:Def K mg "number_of" s_number_of ["row"]) (T:Txt P w K mg G) (O:Os_number_of P w K mg base G):Ok P w K mg base 2 "number_of" ["row"] (sp_number_of K):=by
 have S:=sc_number_of
 refine D.ok S (fun vs H Q E h=>?_) (fun f cdv A outer s H vs Q E hr h=>?_)
 ·obtain ⟨a,kk,e0,e1,e2,e3,e4,rfl,ha,hb,k⟩:=h;rfl
 ·obtain ⟨a,kk,e0,e1,e2,e3,e4,rfl,ha,hb,k⟩:=h
  have hu:=hu_of hr
  have q_ONE:=T.q_ONE
  have q_PRIMES:=T.q_PRIMES
  have q_BOUNDS:=T.q_BOUNDS
  refine⟨_,(pss_cons (ps_set (i:=1) S.nd rfl (Or.inl rfl) pe_int) (pss_cons (ps_for PassesOwn.never rfl (kpi_zip2 K rfl true kk rfl T.b_zip (pa_cons (pe_glob (v:=V.ref G.a_PRIMES) rfl T.g_PRIMES rfl) (pa_cons (pv 0) pa_nil))) (kpg_tup (n:=2) K rfl rfl (pgs_cons (pg_name (i:=2) S.nd rfl (Or.inl rfl)) (pgs_cons (pg_name (i:=3) S.nd rfl (Or.inl rfl)) pgs_nil))) (pss_one (ps_set (i:=1) S.nd rfl (Or.inl rfl) (pe_op op_mulB (pv 1) (pcall O.raised (hr.mono (by decide)) (pa_cons (pv 2) (pa_cons (pv 3) pa_nil))))))) (pss_one (ps_ret (pv 1))))),?_⟩
  repeat walk_at "r"
  refine f_zip (sqt_sq (q_PRIMES _)) ha rfl (fun i σ=>∃ o1 o2,σ=[some (.ref a),some (.int (Mth.PPn e0 e1 e2 e3 e4 i)),o1,o2]) ⟨_,_,rfl⟩ (fun i x y σ H2 hx hy hp s=>?_) (fun σ H2 hp s=>?_)
  ·obtain ⟨o1,o2,rfl⟩:=hp
   have hi:i<5:=by have:=(List.getElem?_eq_some_iff.mp hx).1;simpa using this
   match i,hi with
   | 0,_|1,_|2,_|3,_|4,_ =>
    cases hx
    cases hy
    walk_at "w"
    refine r_I (Mth.PPn_mul hb (by decide) (by lia)) ?_
    walk_at "w"
    exact⟨⟨_,_,rfl⟩,s⟩
  ·obtain ⟨o1,o2,rfl⟩:=hp
   walk_at "w"
   exact (Mth.PPn_5 e0 e1 e2 e3 e4) ▸ k H2 s
theorem sc_fraction_of:FnScope ["tone","top","bottom"] ["tone"] (defScope s_fraction_of):=⟨rfl,rfl,rfl,by decide +kernel,rfl,by decide +kernel,by decide +kernel⟩
structure Os_fraction_of (P:Program) (w:World) (K:PySem.W.Frag) (mg:Str→Option Value) (base:Heap) (G:Adr):Prop where
 number_of:Ok P w K mg base 2 "number_of" ["row"] (sp_number_of K)
theorem ok_fraction_of (D:Def K mg "fraction_of" s_fraction_of ["tone"]) (T:Txt P w K mg G) (O:Os_fraction_of P w K mg base G):Ok P w K mg base 3 "fraction_of" ["tone"] (sp_fraction_of K):=by
 have S:=sc_fraction_of
 refine D.ok S (fun vs H Q E h=>?_) (fun f cdv A outer s H vs Q E hr h=>?_)
 ·obtain ⟨a,a0,a1,a2,a3,a4,rfl,ha,hb,k⟩:=h;rfl
 ·obtain ⟨a,a0,a1,a2,a3,a4,rfl,ha,hb,k⟩:=h
  have hu:=hu_of hr
  have q_ONE:=T.q_ONE
  have q_PRIMES:=T.q_PRIMES
  have q_BOUNDS:=T.q_BOUNDS
  refine⟨_,(pss_cons (ps_set (i:=1) S.nd rfl (Or.inl rfl) (pcall O.number_of (hr.mono (by decide)) (pa_cons (pe_comp (N:=["number"]) (ix:=[none]) rfl (kpi_tup K rfl (pv 0)) (fun _ _ _ _ _=>(pg_name (i:=0) (show List.Nodup (["number"]:List Str) by decide +kernel) rfl (Or.inl rfl))) (fun _ _ _ _ _=>rfl) (fun _ _ _ _ _=>(pe_callB (callN_max rfl) rfl T.b_max PyProof.Rows.boot_max (pa_cons (pv 0) (pa_cons pe_int pa_nil)))) rfl (by decide +kernel) (by decide +kernel) rfl True.intro) pa_nil))) (pss_cons (ps_set (i:=2) S.nd rfl (Or.inl rfl) (pcall O.number_of (hr.mono (by decide)) (pa_cons (pe_comp (N:=["number"]) (ix:=[none]) rfl (kpi_tup K rfl (pv 0)) (fun _ _ _ _ _=>(pg_name (i:=0) (show List.Nodup (["number"]:List Str) by decide +kernel) rfl (Or.inl rfl))) (fun _ _ _ _ _=>rfl) (fun _ _ _ _ _=>(pe_callB (callN_max rfl) rfl T.b_max PyProof.Rows.boot_max (pa_cons (pe_un un_neg (pv 0)) (pa_cons pe_int pa_nil)))) rfl (by decide +kernel) (by decide +kernel) rfl True.intro) pa_nil))) (pss_one (ps_ret (pe_tup (pa_cons (pv 1) (pa_cons (pv 2) pa_nil))))))),?_⟩
  obtain ⟨⟨h1,h2⟩,⟨h3,h4⟩,⟨h5,h6⟩,⟨h7,h8⟩,⟨h9,h10⟩⟩:=hb
  repeat walk_at "r"
  refine rd_mapRow (r:=[a0,a1,a2,a3,a4]) (fun x=>.int (if 0 > x then 0 else x)) [] rfl ha (by show 5≤1000;decide) (fun x H' Qc _ s kc=>?_) (fun l H1 hl s1 m1=>?_)
  ·walk_at "w"
   exact kc _ (Same.refl _)
  walk_at "w"
  refine c_number_of (sql_sq (SqL.of m1)) (by refine⟨?_,?_,?_,?_,?_,?_,?_,?_,?_,?_⟩ <;> split <;> lia) fun H2 s2=>?_
  rw [Mth.mx_toNat,Mth.mx_toNat,Mth.mx_toNat,Mth.mx_toNat,Mth.mx_toNat]
  walk_at "w"
  refine rd_mapRow (r:=[a0,a1,a2,a3,a4]) (fun x=>.int (if 0 > -x then 0 else -x)) [] rfl (s2.at (s1.at ha)) (by show 5≤1000;decide) (fun x H' Qc _ s kc=>?_) (fun l2 H3 hl2 s3 m3=>?_)
  ·walk_at "w"
   exact kc _ (Same.refl _)
  walk_at "w"
  refine c_number_of (sql_sq (SqL.of m3)) (by refine⟨?_,?_,?_,?_,?_,?_,?_,?_,?_,?_⟩ <;> split <;> lia) fun H4 s4=>?_
  rw [Mth.mx_toNat,Mth.mx_toNat,Mth.mx_toNat,Mth.mx_toNat,Mth.mx_toNat]
  walk_at "w"
  exact k _ _ (by walk_at "sm") (by assumption)
theorem sc_run_length:FnScope ["text","start","sign","end"] ["text","start","sign"] (defScope s_run_length):=⟨rfl,rfl,rfl,by decide +kernel,rfl,by decide +kernel,by decide +kernel⟩
set_option maxHeartbeats 1000000 in
theorem ok_run_length (D:Def K mg "run_length" s_run_length ["text","start","sign"]) (T:Txt P w K mg G):Ok P w K mg base 1 "run_length" ["text","start","sign"] (sp_run_length K):=by
 have S:=sc_run_length
 refine D.ok S (fun vs H Q E h=>?_) (fun f cdv A outer s H vs Q E hr h=>?_)
 ·obtain ⟨z,st,c,rfl,hz,k⟩:=h;rfl
 ·obtain ⟨z,st,c,rfl,hz,k⟩:=h
  have hu:=hu_of hr
  have q_ONE:=T.q_ONE
  have q_PRIMES:=T.q_PRIMES
  have q_BOUNDS:=T.q_BOUNDS
  refine⟨_,(pss_cons (ps_set (i:=3) S.nd rfl (Or.inl rfl) (pv 1)) (pss_cons (ps_while PassesOwn.never (PW.pt (pw_and (pt_cmpR op_lt (pv 3) (pe_callB callN_lenS rfl T.b_len PySem.boot_len (pa_cons (pv 0) pa_nil)) (nomark _)) (pw_and1 (pt_cmpR op_eq (pe_ix ix_str (pv 0) (pv 3) (fun _ _=>rfl)) (pv 2) (nomark _))))) (pss_one (ps_set (i:=3) S.nd rfl (Or.inl rfl) (pe_op op_add (pv 3) pe_int)))) (pss_one (ps_ret (pe_op op_sub (pv 3) (pv 1)))))),?_⟩
  have hcl:z.cps.toList.length=z.length:=Array.length_toList
  have hra:=Nam.runs_at (z.cps.toList.drop st) c
  have hrl:=Nam.runs_le (z.cps.toList.drop st) c
  rw [List.length_drop] at hrl
  generalize Nam.runs (z.cps.toList.drop st) c=R at *
  walk_at "w"
  refine join (fun σ' H'=>σ'=[some (.str z),some (.int st),some (.str ⟨#[c]⟩),some (.int ((st+R:Nat):Int))]∧H'=H) (fun nx hnx=>?_) (fun σ' H' hP=>?_)
  ·refine f_while (fun mm σ' H'=>H'=H∧∃ j:Nat,j≤R∧mm=R - j∧σ'=[some (.str z),some (.int st),some (.str ⟨#[c]⟩),some (.int ((st+j:Nat):Int))]) R ⟨rfl,0,Nat.zero_le _,rfl,rfl⟩ (fun mm σ' H' hw=>?_)
   obtain ⟨rfl,j,hj,rfl,rfl⟩:=hw
   have hd:=hra j hj
   rw [List.getElem?_drop] at hd
   walk_at "w"
   by_cases hlt:st+j<z.length
   ·rw [if_pos (decide_eq_true (by lia))]
    walk_at "w"
    obtain ⟨d,hde⟩:∃ d,z.cps.toList[st+j]?=some d:=⟨_,List.getElem?_eq_getElem (by lia)⟩
    refine r_ixS (small2000 (by lia)) (atI_nat hde) ?_
    walk_at "w"
    by_cases hc:d=c
    ·subst hc
     have hjR:=hd.mp hde
     rw [if_pos (decide_eq_true rfl)]
     refine w_go ?_
     walk_at "w"
     exact⟨R - (j+1),by lia,rfl,j+1,hjR,rfl,by rw [show ((st+(j+1):Nat):Int)=((st+j:Nat):Int)+1 by lia] <;> rfl⟩
    ·rw [if_neg (by rw [decide_eq_false (fun e=>hc (Sgn.one_iff.mp e))];decide)]
     have hjR:j=R:=by
      apply Nat.le_antisymm hj
      apply Nat.not_lt.mp
      intro h
      have:=hd.mpr h
      rw [hde] at this
      exact hc (Option.some.inj this)
     subst hjR
     exact hnx _ _ ⟨rfl,rfl⟩
   ·rw [if_neg (by rw [decide_eq_false (by lia)];decide)]
    have hjR:j=R:=by
     apply Nat.le_antisymm hj
     apply Nat.not_lt.mp
     intro h
     have:=hd.mpr h
     rw [List.getElem?_eq_none (by lia)] at this
     cases this
    subst hjR
    rw [if_neg (show ¬ false=true by decide)]
    exact hnx _ _ ⟨rfl,rfl⟩
  obtain ⟨rfl,rfl⟩:=hP
  walk_at "w"
  rw [show ((st+R:Nat):Int) - (st:Int)=(R:Int) by lia]
  exact k
theorem sc_count_read:FnScope ["text","start","mark"] ["text","start","mark"] (defScope s_count_read):=⟨rfl,rfl,rfl,by decide +kernel,rfl,by decide +kernel,by decide +kernel⟩
structure Os_count_read (P:Program) (w:World) (K:PySem.W.Frag) (mg:Str→Option Value) (base:Heap) (G:Adr):Prop where
 run_length:Ok P w K mg base 1 "run_length" ["text","start","sign"] (sp_run_length K)
theorem ok_count_read (D:Def K mg "count_read" s_count_read ["text","start","mark"]) (T:Txt P w K mg G) (O:Os_count_read P w K mg base G):Ok P w K mg base 2 "count_read" ["text","start","mark"] (sp_count_read K):=by
 have S:=sc_count_read
 refine D.ok S (fun vs H Q E h=>?_) (fun f cdv A outer s H vs Q E hr h=>?_)
 ·obtain ⟨z,st,c,d,m,r,rfl,hz,hm,k⟩:=h;rfl
 ·obtain ⟨z,st,c,d,m,r,rfl,hz,hm,k⟩:=h
  have hu:=hu_of hr
  have q_ONE:=T.q_ONE
  have q_PRIMES:=T.q_PRIMES
  have q_BOUNDS:=T.q_BOUNDS
  refine⟨_,(pss_one (ps_ret (pe_op op_sub (pcall O.run_length (hr.mono (by decide)) (pa_cons (pv 0) (pa_cons (pv 1) (pa_cons (pe_ix (kx_seq K rfl) (pv 2) pe_int (fun _ _=>rfl)) pa_nil)))) (pcall O.run_length (hr.mono (by decide)) (pa_cons (pv 0) (pa_cons (pv 1) (pa_cons (pe_ix (kx_seq K rfl) (pv 2) pe_int (fun _ _=>rfl)) pa_nil))))))),?_⟩
  walk_at "w"
  refine c_run_length hz ?_
  walk_at "w"
  refine c_run_length hz ?_
  walk_at "w"
  exact k
theorem sc_count_text:FnScope ["mark","count"] ["mark","count"] (defScope s_count_text):=⟨rfl,rfl,rfl,by decide +kernel,rfl,by decide +kernel,by decide +kernel⟩
theorem ok_count_text (D:Def K mg "count_text" s_count_text ["mark","count"]) (T:Txt P w K mg G):Ok P w K mg base 1 "count_text" ["mark","count"] (sp_count_text K):=by
 have S:=sc_count_text
 refine D.ok S (fun vs H Q E h=>?_) (fun f cdv A outer s H vs Q E hr h=>?_)
 ·obtain ⟨m,c,d,r,n,rfl,hm,hn,k⟩:=h;rfl
 ·obtain ⟨m,c,d,r,n,rfl,hm,hn,k⟩:=h
  have hu:=hu_of hr
  have q_ONE:=T.q_ONE
  have q_PRIMES:=T.q_PRIMES
  have q_BOUNDS:=T.q_BOUNDS
  refine⟨_,(pss_one (ps_ret (pe_ifExp (pt_cmpR op_gt (pv 1) pe_int (nomark _)) (pe_op op_mul1 (pe_ix (kx_seq K rfl) (pv 0) pe_int (fun _ _=>rfl)) (pv 1)) (pe_op op_mul1 (pe_ix (kx_seq K rfl) (pv 0) pe_int (fun _ _=>rfl)) (pe_un un_neg (pv 1)))))),?_⟩
  walk_at "w"
  refine if_both (fun h1=>?_) (fun h1=>?_)
  ·have h1':=of_decide_eq_true h1
   walk_at "w"
   refine r_mul1 hn ?_
   have e:reps c n.toNat=⟨(Nam.seg c d n).toArray⟩:=Nam.str_ext (by rw [Nam.one_toArray];unfold Nam.seg reps;rw [show (-n).toNat=0 by lia];simp)
   rw [e]
   exact k
  ·have h1':=of_decide_eq_false h1
   walk_at "w"
   refine r_mul1 (by lia) ?_
   have e:reps d (-n).toNat=⟨(Nam.seg c d n).toArray⟩:=Nam.str_ext (by rw [Nam.one_toArray];unfold Nam.seg reps;rw [show n.toNat=0 by lia];simp)
   rw [e]
   exact k
theorem sc_octave_read:FnScope ["text"] ["text"] (defScope s_octave_read):=⟨rfl,rfl,rfl,by decide +kernel,rfl,by decide +kernel,by decide +kernel⟩
structure Os_octave_read (P:Program) (w:World) (K:PySem.W.Frag) (mg:Str→Option Value) (base:Heap) (G:Adr):Prop where
 is_signed:Ok P w K mg base 2 "is_signed" ["text","most"] (sp_is_signed K)
theorem ok_octave_read (D:Def K mg "octave_read" s_octave_read ["text"]) (T:Txt P w K mg G) (O:Os_octave_read P w K mg base G):OkX P w K mg base 3 "octave_read" ["text"] (sp_octave_read K):=by
 have S:=sc_octave_read
 refine D.okX S (fun vs H Q E h=>?_) (fun f cdv A outer s H vs Q E hr h=>?_)
 ·obtain ⟨y,rfl,hy,k1,k2⟩:=h;rfl
 ·obtain ⟨y,rfl,hy,k1,k2⟩:=h
  have hu:=hu_of hr
  have q_ONE:=T.q_ONE
  have q_PRIMES:=T.q_PRIMES
  have q_BOUNDS:=T.q_BOUNDS
  refine⟨_,(pss_cons (ps_if (pt_not (pt_val (pcall O.is_signed (hr.mono (by decide)) (pa_cons (pv 0) (pa_cons (pe_glob (v:=V.int 4) rfl T.g_OCTAVE_FIGURES ⟨_,rfl⟩) pa_nil))))) (pss_one (ps_raise T.i_NoName PySem.F.excBase_ValueError (by decide +kernel) PySem.F.excBase_ValueError rfl (fun _ _ z=>z) rfl rfl T.g_NoName (pa_cons pe_str pa_nil))) pss_nil) (pss_one (ps_ret (pe_callTy call_intS rfl T.b_int PyProof.Rows.boot_int (pa_cons (pv 0) pa_nil))))),?_⟩
  walk_at "w"
  refine c_is_signed hy fun H1 s1=>?_
  walk_at "w"
  cases ho:Nam.sgd y 4 with
  | none =>
   rw [if_pos (by rfl)]
   walk_at "w"
   exact⟨by decide,k1 ho _ _ T.m_NoName s1⟩
  | some o =>
   rw [if_neg (show ¬ (!(some o).isSome)=true from Bool.noConfusion)]
   walk_at "w"
   have h:=Nam.sgd_int (by decide) ho
   exact r_intS h.1 (by lia) (k2 o ho _ s1)
theorem sc_named:FnScope ["text","row","place","mark","count"] ["text"] (defScope s_named):=⟨rfl,rfl,rfl,by decide +kernel,rfl,by decide +kernel,by decide +kernel⟩
structure Os_named (P:Program) (w:World) (K:PySem.W.Frag) (mg:Str→Option Value) (base:Heap) (G:Adr):Prop where
 tone_of:OkX P w K mg base 4 "tone_of" ["row"] (sp_tone_of K)
 times:Ok P w K mg base 1 "times" ["one","other"] (sp_times K)
 power:Ok P w K mg base 1 "power" ["row","n"] (sp_power K)
 count_read:Ok P w K mg base 2 "count_read" ["text","start","mark"] (sp_count_read K)
 octave_read:OkX P w K mg base 3 "octave_read" ["text"] (sp_octave_read K)
set_option maxHeartbeats 4000000 in
theorem ok_named (D:Def K mg "named" s_named ["text"]) (T:Txt P w K mg G) (O:Os_named P w K mg base G):OkX P w K mg base 5 "named" ["text"] (sp_named K):=by
 have S:=sc_named
 refine D.okP S (fun vs H Q E h=>?_) (fun f cdv A outer s H vs Q E hr h=>?_)
 ·obtain ⟨z,rfl,hz,k1,k2,k3⟩:=h;rfl
 ·obtain ⟨z,rfl,hz,k1,k2,k3⟩:=h
  have hu:=hu_of hr
  have q_ONE:=T.q_ONE
  have q_PRIMES:=T.q_PRIMES
  have q_BOUNDS:=T.q_BOUNDS
  have q_LETTERS_0:=T.q_LETTERS_0
  have q_LETTERS_1:=T.q_LETTERS_1
  have q_LETTERS_2:=T.q_LETTERS_2
  have q_LETTERS_3:=T.q_LETTERS_3
  have q_LETTERS_4:=T.q_LETTERS_4
  have q_LETTERS_5:=T.q_LETTERS_5
  have q_LETTERS_6:=T.q_LETTERS_6
  have q_MARKS:=T.q_MARKS
  have q_MARKS_0:=T.q_MARKS_0
  have q_MARKS_0_2:=T.q_MARKS_0_2
  have q_MARKS_1:=T.q_MARKS_1
  have q_MARKS_1_2:=T.q_MARKS_1_2
  have q_MARKS_2:=T.q_MARKS_2
  have q_MARKS_2_2:=T.q_MARKS_2_2
  have q_MARKS_3:=T.q_MARKS_3
  have q_MARKS_3_2:=T.q_MARKS_3_2
  refine⟨_,(pss_cons (ps_if (pt_cmpR op_gt (pe_callB callN_lenS rfl T.b_len PySem.boot_len (pa_cons (pv 0) pa_nil)) (pe_glob (v:=V.int 300) rfl T.g_LONGEST ⟨_,rfl⟩) (nomark _)) (pss_one (ps_raise T.i_NoName PySem.F.excBase_ValueError (by decide +kernel) PySem.F.excBase_ValueError rfl (fun _ _ z=>.inl z) rfl rfl T.g_NoName (pa_cons pe_str pa_nil))) pss_nil) (pss_cons (ps_if (pt_cmpR (op_notInF T.d_LETTERS) (pe_slice sl_str (pv 0) po_none (po_some pe_int)) (pe_glob (v:=V.ref G.a_LETTERS) rfl T.g_LETTERS rfl) (by with_unfolding_all rfl)) (pss_one (ps_raise T.i_NoName PySem.F.excBase_ValueError (by decide +kernel) PySem.F.excBase_ValueError rfl (fun _ _ z=>.inl z) rfl rfl T.g_NoName (pa_cons pe_str pa_nil))) pss_nil) (pss_cons (ps_set (i:=1) S.nd rfl (Or.inl rfl) (pe_ix (ix_dictF T.d_LETTERS) (pe_glob (v:=V.ref G.a_LETTERS) rfl T.g_LETTERS rfl) (pe_ix ix_str (pv 0) pe_int (fun _ _=>rfl)) (fun _ _=>rfl))) (pss_cons (ps_set (i:=2) S.nd rfl (Or.inl rfl) pe_int) (pss_cons (ps_for (passes_XP rfl rfl rfl) rfl (kpi_tup K rfl (pe_glob (v:=V.ref G.a_MARKS) rfl T.g_MARKS rfl)) (pg_name (i:=3) S.nd rfl (Or.inl rfl)) (pss_cons (ps_set (i:=4) S.nd rfl (Or.inl rfl) (pcall O.count_read (hr.mono (by decide)) (pa_cons (pv 0) (pa_cons (pv 2) (pa_cons (pv 3) pa_nil))))) (pss_cons (ps_set (i:=1) S.nd rfl (Or.inl rfl) (pcall O.times (hr.mono (by decide)) (pa_cons (pv 1) (pa_cons (pcall O.power (hr.mono (by decide)) (pa_cons (pe_ix (kx_seq K rfl) (pv 3) pe_int (fun _ _=>rfl)) (pa_cons (pv 4) pa_nil))) pa_nil)))) (pss_one (ps_set (i:=2) S.nd rfl (Or.inl rfl) (pe_op op_add (pv 2) (pe_callB callN_abs rfl T.b_abs PyProof.Rows.boot_abs (pa_cons (pv 4) pa_nil)))))))) (pss_cons (ps_if (pt_cmpR op_ne (pe_slice sl_str (pv 0) (po_some (pv 2)) (po_some (pe_op op_add (pv 2) pe_int))) pe_str (nomark _)) (pss_one (ps_raise T.i_NoName PySem.F.excBase_ValueError (by decide +kernel) PySem.F.excBase_ValueError rfl (fun _ _ z=>.inl z) rfl rfl T.g_NoName (pa_cons pe_str pa_nil))) pss_nil) (pss_one (ps_ret (pcallX O.tone_of (hr.mono (by decide)) (fun _ _ z=>.inl z) rfl (pa_cons (pcall O.times (hr.mono (by decide)) (@pa_cons _ _ _ _ _ (pv 1) (@pa_cons _ _ _ _ _ (@pe_tup _ _ _ _ _ (pa_cons (pcallX O.octave_read (hr.mono (by decide)) (fun _ _ z=>.inl z) rfl (pa_cons (pe_slice sl_str (pv 0) (po_some (pe_op op_add (pv 2) pe_int)) po_none) pa_nil)) (pa_cons pe_int (pa_cons pe_int (pa_cons pe_int (pa_cons pe_int pa_nil)))))) pa_nil (by rfl)) (by rfl))) pa_nil)))))))))),?_⟩
  have hcl:z.cps.toList.length=z.length:=Array.length_toList
  walk_at "w"
  refine if_both (fun h1=>?_) (fun h1=>?_)
  ·walk_at "w"
   have h1':=of_decide_eq_true h1
   refine⟨by decide,k1 ?_ _ _ T.m_NoName (Same.refl _)⟩
   unfold Nam.nmd
   rw [if_pos (by lia)]
  have h1':=of_decide_eq_false h1
  have h3:¬ 300<z.length:=by lia
  walk_at "w"
  refine r_notInF ?_
  match hcs:z.cps.toList with
  | [] =>
   have e1:PySem.Txt.slice z none (some 1)=PySem.Str.ofString "":=Nam.str_ext ((Nam.cut_to (z:=z) (j:=1)).trans (by rw [hcs];rfl))
   rw [e1,letr_nil]
   walk_at "w"
   rw [if_pos (by rfl)]
   walk_at "w"
   refine⟨by decide,k1 ?_ _ _ T.m_NoName (Same.refl _)⟩
   unfold Nam.nmd
   rw [if_neg h3,hcs]
  | c::tl =>
  rw [Nam.head_one hcs,letr_val]
  match hlr:Nam.letr c with
  | none =>
   rw [letr_none hlr]
   walk_at "w"
   rw [if_pos (by rfl)]
   walk_at "w"
   refine⟨by decide,k1 ?_ _ _ T.m_NoName (Same.refl _)⟩
   unfold Nam.nmd
   rw [if_neg h3,hcs]
   show (match Nam.letr c with|none=>none|some r0=>_)=none
   rw [hlr]
  | some r0 =>
  obtain ⟨A,x0,x1,x2,x3,x4,rfl,hA,qA⟩:∃ (A:Addr) (x0 x1 x2 x3 x4:Int),r0=[x0,x1,x2,x3,x4]∧pickA G.a_LETTERS_0 G.a_LETTERS_1 G.a_LETTERS_2 G.a_LETTERS_3 G.a_LETTERS_4 G.a_LETTERS_5 G.a_LETTERS_6 c=some (.ref A)∧Fixed K A [.int x0,.int x1,.int x2,.int x3,.int x4]:=by
   unfold Nam.letr at hlr
   unfold pickA
   split at hlr
   ·cases hlr;rw [if_pos (by assumption)];exact⟨_,_,_,_,_,_,rfl,rfl,q_LETTERS_0⟩
   split at hlr
   ·cases hlr;rw [if_neg (by assumption),if_pos (by assumption)];exact⟨_,_,_,_,_,_,rfl,rfl,q_LETTERS_1⟩
   split at hlr
   ·cases hlr;rw [if_neg (by assumption),if_neg (by assumption),if_pos (by assumption)];exact⟨_,_,_,_,_,_,rfl,rfl,q_LETTERS_2⟩
   split at hlr
   ·cases hlr;rw [if_neg (by assumption),if_neg (by assumption),if_neg (by assumption),if_pos (by assumption)];exact⟨_,_,_,_,_,_,rfl,rfl,q_LETTERS_3⟩
   split at hlr
   ·cases hlr;rw [if_neg (by assumption),if_neg (by assumption),if_neg (by assumption),if_neg (by assumption),if_pos (by assumption)];exact⟨_,_,_,_,_,_,rfl,rfl,q_LETTERS_4⟩
   split at hlr
   ·cases hlr;rw [if_neg (by assumption),if_neg (by assumption),if_neg (by assumption),if_neg (by assumption),if_neg (by assumption),if_pos (by assumption)];exact⟨_,_,_,_,_,_,rfl,rfl,q_LETTERS_5⟩
   split at hlr
   ·cases hlr;rw [if_neg (by assumption),if_neg (by assumption),if_neg (by assumption),if_neg (by assumption),if_neg (by assumption),if_neg (by assumption),if_pos (by assumption)];exact⟨_,_,_,_,_,_,rfl,rfl,q_LETTERS_6⟩
   ·cases hlr
  rw [hA]
  walk_at "w"
  rw [if_neg (show ¬ (!(some (V.ref A)).isSome)=true from Bool.noConfusion)]
  walk_at "w"
  refine r_ixS (small2000 (by lia)) (atI_nat (j:=0) (by rw [hcs];rfl)) ?_
  refine r_ixF ((letr_val c).trans hA) ?_
  walk_at "w"
  refine f_tup (K:=K) (xs:=[V.ref G.a_MARKS_0,V.ref G.a_MARKS_1,V.ref G.a_MARKS_2,V.ref G.a_MARKS_3]) (fun i σ H2=>∃ (o1 o2:Option V) (p:Addr) (pl:Nat) (r0 r1 r2 r3 r4:Int),σ=[some (.str z),some (.ref p),some (.int (pl:Int)),o1,o2]∧Same H H2∧SqT K H2 p [.int r0,.int r1,.int r2,.int r3,.int r4]∧(Nam.marks.take i).foldl (Nam.stp z.cps.toList) (1,[x0,x1,x2,x3,x4])=(pl,[r0,r1,r2,r3,r4])) ⟨_,_,A,1,x0,x1,x2,x3,x4,rfl,Same.refl _,qA.at,rfl⟩ (fun _ _ _ _ _=>q_MARKS.at) (fun i x σ H2 hx hp=>?_) (fun σ H2 hp=>?_)
  ·obtain ⟨o1,o2,p,pl,r0,r1,r2,r3,r4,rfl,s2,hpr,hfold⟩:=hp
   have hi:i<4:=(List.getElem?_eq_some_iff.mp hx).1
   obtain ⟨mA,c1,d1,rA,m0,m1,m2,m3,m4,rfl,hmA,hrA,hmk,hbm⟩:∃ (mA:Addr) (c1 d1:Nat) (rA:Addr) (m0 m1 m2 m3 m4:Int),x=.ref mA∧Fixed K mA [.str ⟨#[c1]⟩,.str ⟨#[d1]⟩,.ref rA]∧Fixed K rA [.int m0,.int m1,.int m2,.int m3,.int m4]∧Nam.marks[i]?=some (c1,d1,[m0,m1,m2,m3,m4])∧∀ y∈[m0,m1,m2,m3,m4],-1000≤y∧y≤1000:=by
    rw [Nam.sgn35,Nam.sgn98] at q_MARKS_0
    rw [Nam.sgn43,Nam.sgn45] at q_MARKS_1
    rw [Nam.sgn62,Nam.sgn60] at q_MARKS_2
    rw [Nam.sgn94,Nam.sgn118] at q_MARKS_3
    match i,hi with
    | 0,_=>cases hx;exact⟨_,35,98,_,_,_,_,_,_,rfl,q_MARKS_0,q_MARKS_0_2,rfl,by decide⟩
    | 1,_=>cases hx;exact⟨_,43,45,_,_,_,_,_,_,rfl,q_MARKS_1,q_MARKS_1_2,rfl,by decide⟩
    | 2,_=>cases hx;exact⟨_,62,60,_,_,_,_,_,_,rfl,q_MARKS_2,q_MARKS_2_2,rfl,by decide⟩
    | 3,_=>cases hx;exact⟨_,94,118,_,_,_,_,_,_,rfl,q_MARKS_3,q_MARKS_3_2,rfl,by decide⟩
   have hstep:(Nam.marks.take (i+1)).foldl (Nam.stp z.cps.toList) (1,[x0,x1,x2,x3,x4])=Nam.stp z.cps.toList (pl,[r0,r1,r2,r3,r4]) (c1,d1,[m0,m1,m2,m3,m4]):=by
    rw [List.take_succ,hmk,List.foldl_append,hfold];rfl
   have rl1:=Nam.runs_le (z.cps.toList.drop pl) c1
   have rl2:=Nam.runs_le (z.cps.toList.drop pl) d1
   rw [List.length_drop] at rl1 rl2
   clear q_MARKS q_MARKS_0 q_MARKS_1 q_MARKS_2 q_MARKS_3 q_MARKS_0_2 q_MARKS_1_2 q_MARKS_2_2 q_MARKS_3_2 q_LETTERS_0 q_LETTERS_1 q_LETTERS_2 q_LETTERS_3 q_LETTERS_4 q_LETTERS_5 q_LETTERS_6
   have qm:=hmA.at (H:=H2)
   walk_at "w"
   refine c_count_read hz qm ?_
   obtain ⟨kc,hkc⟩:∃ kc:Int,(Nam.runs (z.cps.toList.drop pl) c1:Int) - Nam.runs (z.cps.toList.drop pl) d1=kc:=⟨_,rfl⟩
   have hst2:(Nam.marks.take (i+1)).foldl (Nam.stp z.cps.toList) (1,[x0,x1,x2,x3,x4])=(pl+kc.natAbs,List.zipWith (·+·) [r0,r1,r2,r3,r4] ([m0,m1,m2,m3,m4].map (·*kc))):=by rw [hstep,← hkc];rfl
   rw [hkc]
   walk_at "w"
   refine c_power hrA.at ⟨hbm,by lia⟩ fun p3 H3 s3 m3'=>?_
   have hpr3:=s3.at hpr
   walk_at "w"
   rename_i p4 H4 s4 m4'
   exact⟨_,_,p4,pl+kc.natAbs,_,_,_,_,_,by rw [show ((pl+kc.natAbs:Nat):Int)=(pl:Int)+(if kc<0 then -kc else kc) by split <;> lia] <;> rfl,(s2.trans s3).trans s4,SqT.of m4',hst2⟩
  ·obtain ⟨o1,o2,p,pl,r0,r1,r2,r3,r4,rfl,s2,hpr,hfold⟩:=hp
   have hnm:=Nam.nmd_of h3 hcs hlr hfold
   clear q_MARKS q_MARKS_0 q_MARKS_1 q_MARKS_2 q_MARKS_3 q_MARKS_0_2 q_MARKS_1_2 q_MARKS_2_2 q_MARKS_3_2 q_LETTERS_0 q_LETTERS_1 q_LETTERS_2 q_LETTERS_3 q_LETTERS_4 q_LETTERS_5 q_LETTERS_6
   walk_at "w"
   by_cases hdot:z.cps.toList[pl]?=some 46
   ·rw [if_pos hdot] at hnm
    rw [if_neg (by rw [decide_eq_true (Nam.dot_iff.mpr hdot)];decide)]
    walk_at "w"
    rw [Nam.from_eq]
    have hle:(⟨(z.cps.toList.drop (pl+1)).toArray⟩:PySem.Str).length≤1000:=by
     show (z.cps.toList.drop (pl+1)).toArray.size≤1000
     rw [List.size_toArray,List.length_drop];lia
    refine c_octave_read hle ⟨fun hn C H3 hC s3=>?_,fun o ho H3 s3=>?_⟩
    ·rw [hn] at hnm
     exact⟨_,rfl,k1 hnm _ _ hC (s2.trans s3)⟩
    ·rw [ho] at hnm
     have hpr3:=s3.at hpr
     walk_at "w"
     rename_i p4 H4 s4 m4 p5 H5 s5 m5
     have s25:=((s2.trans s3).trans s4).trans s5
     refine c_tone_of (SqT.of m5) (fun hf C H6 hC s6=>⟨_,rfl,k2 _ _ _ _ _ hnm hf _ _ hC (s25.trans s6)⟩) (fun hf H6 s6=>?_)
     exact k3 _ _ _ _ _ hnm hf _ _ (s25.trans s6) (s6 _ _ m5)
   ·rw [if_neg hdot] at hnm
    rw [if_pos (by rw [decide_eq_false (fun e=>hdot (Nam.dot_iff.mp e))];rfl)]
    walk_at "w"
    exact⟨by decide,k1 hnm _ _ T.m_NoName s2⟩
theorem sc_name_of:FnScope ["tone","left","signs","place","mark","count","sharps","letter","octave"] ["tone"] (defScope s_name_of):=⟨rfl,rfl,rfl,by decide +kernel,rfl,by decide +kernel,by decide +kernel⟩
structure Os_name_of (P:Program) (w:World) (K:PySem.W.Frag) (mg:Str→Option Value) (base:Heap) (G:Adr):Prop where
 over:Ok P w K mg base 1 "over" ["one","other"] (sp_over K)
 power:Ok P w K mg base 1 "power" ["row","n"] (sp_power K)
 count_text:Ok P w K mg base 1 "count_text" ["mark","count"] (sp_count_text K)
set_option maxHeartbeats 4000000 in
theorem ok_name_of (D:Def K mg "name_of" s_name_of ["tone"]) (T:Txt P w K mg G) (O:Os_name_of P w K mg base G):Ok P w K mg base 2 "name_of" ["tone"] (sp_name_of K):=by
 have S:=sc_name_of
 refine D.ok S (fun vs H Q E h=>?_) (fun f cdv A outer s H vs Q E hr h=>?_)
 ·obtain ⟨a,t0,t1,t2,t3,t4,rfl,ha,hb,k⟩:=h;rfl
 ·obtain ⟨a,t0,t1,t2,t3,t4,rfl,ha,hb,k⟩:=h
  have hu:=hu_of hr
  have q_ONE:=T.q_ONE
  have q_PRIMES:=T.q_PRIMES
  have q_BOUNDS:=T.q_BOUNDS
  have q_LETTERS_0:=T.q_LETTERS_0
  have q_LETTERS_1:=T.q_LETTERS_1
  have q_LETTERS_2:=T.q_LETTERS_2
  have q_LETTERS_3:=T.q_LETTERS_3
  have q_LETTERS_4:=T.q_LETTERS_4
  have q_LETTERS_5:=T.q_LETTERS_5
  have q_LETTERS_6:=T.q_LETTERS_6
  have q_MARKS:=T.q_MARKS
  have q_MARKS_0:=T.q_MARKS_0
  have q_MARKS_0_2:=T.q_MARKS_0_2
  have q_MARKS_1:=T.q_MARKS_1
  have q_MARKS_1_2:=T.q_MARKS_1_2
  have q_MARKS_2:=T.q_MARKS_2
  have q_MARKS_2_2:=T.q_MARKS_2_2
  have q_MARKS_3:=T.q_MARKS_3
  have q_MARKS_3_2:=T.q_MARKS_3_2
  refine⟨_,(pss_cons (ps_set (i:=1) S.nd rfl (Or.inl rfl) (pv 0)) (pss_cons (ps_set (i:=2) S.nd rfl (Or.inl rfl) pe_str) (pss_cons (ps_for PassesOwn.never rfl (kpi_tup K rfl (pe_tup (pa_cons pe_int (pa_cons pe_int (pa_cons pe_int pa_nil))))) (pg_name (i:=3) S.nd rfl (Or.inl rfl)) (pss_cons (ps_set (i:=4) S.nd rfl (Or.inl rfl) (pe_ix (kx_seq K rfl) (pe_glob (v:=V.ref G.a_MARKS) rfl T.g_MARKS rfl) (pe_op op_sub (pv 3) pe_int) (fun _ _=>rfl))) (pss_cons (ps_set (i:=5) S.nd rfl (Or.inl rfl) (pe_op op_mulB (pe_ix (kx_seq K rfl) (pv 1) (pv 3) (fun _ _=>rfl)) (pe_ix (kx_seq K rfl) (pe_ix (kx_seq K rfl) (pv 4) pe_int (fun _ _=>rfl)) (pv 3) (fun _ _=>rfl)))) (pss_cons (ps_set (i:=1) S.nd rfl (Or.inl rfl) (pcall O.over (hr.mono (by decide)) (pa_cons (pv 1) (pa_cons (pcall O.power (hr.mono (by decide)) (pa_cons (pe_ix (kx_seq K rfl) (pv 4) pe_int (fun _ _=>rfl)) (pa_cons (pv 5) pa_nil))) pa_nil)))) (pss_one (ps_set (i:=2) S.nd rfl (Or.inl rfl) (pe_op op_addS (pcall O.count_text (hr.mono (by decide)) (pa_cons (pv 4) (pa_cons (pv 5) pa_nil))) (pv 2)))))))) (pss_cons (ps_set (i:=6) S.nd rfl (Or.inl rfl) (pe_op op_fdiv (pe_op op_add (pe_ix (kx_seq K rfl) (pv 1) pe_int (fun _ _=>rfl)) pe_int) pe_int)) (pss_cons (ps_set (i:=1) S.nd rfl (Or.inl rfl) (pcall O.over (hr.mono (by decide)) (pa_cons (pv 1) (pa_cons (pcall O.power (hr.mono (by decide)) (pa_cons (pe_ix (kx_seq K rfl) (pe_ix (kx_seq K rfl) (pe_glob (v:=V.ref G.a_MARKS) rfl T.g_MARKS rfl) pe_int (fun _ _=>rfl)) pe_int (fun _ _=>rfl)) (pa_cons (pv 6) pa_nil))) pa_nil)))) (pss_cons (ps_set (i:=2) S.nd rfl (Or.inl rfl) (pe_op op_addS (pcall O.count_text (hr.mono (by decide)) (pa_cons (pe_ix (kx_seq K rfl) (pe_glob (v:=V.ref G.a_MARKS) rfl T.g_MARKS rfl) pe_int (fun _ _=>rfl)) (pa_cons (pv 6) pa_nil))) (pv 2))) (pss_cons (ps_set (i:=7) S.nd rfl (Or.inl rfl) (pe_ix (kx_seq K rfl) (pe_callTy (call_listF (ks:=["F","C","G","D","A","E","B"]) T.d_LETTERS rfl rfl) rfl T.b_list PyProof.Rows.boot_list (pa_cons (pe_glob (v:=V.ref G.a_LETTERS) rfl T.g_LETTERS rfl) pa_nil)) (pe_op op_add (pe_ix (kx_seq K rfl) (pv 1) pe_int (fun _ _=>rfl)) pe_int) (fun _ _=>rfl))) (pss_cons (ps_set (i:=8) S.nd rfl (Or.inl rfl) (pe_ix (kx_seq K rfl) (pcall O.over (hr.mono (by decide)) (pa_cons (pv 1) (pa_cons (pe_ix (ix_dictF T.d_LETTERS) (pe_glob (v:=V.ref G.a_LETTERS) rfl T.g_LETTERS rfl) (pv 7) (fun _ _=>rfl)) pa_nil))) pe_int (fun _ _=>rfl))) (pss_one (ps_ret (pe_join (pf_cons (pe_fv (pv 7)) (pf_cons (pe_fv (pv 2)) (pf_cons pe_str (pf_cons (pe_fv (pv 8)) pf_nil))))))))))))))),?_⟩
  rw [Nam.sgn35,Nam.sgn98] at q_MARKS_0
  rw [Nam.sgn43,Nam.sgn45] at q_MARKS_1
  rw [Nam.sgn62,Nam.sgn60] at q_MARKS_2
  rw [Nam.sgn94,Nam.sgn118] at q_MARKS_3
  walk_at "w"
  rename_i pt Ht st mt
  have hat:=st.at ha
  refine f_tup (K:=K) (xs:=[V.int 4,V.int 3,V.int 2]) (fun i σ Hn=>∃ (o1 o2 o3:Option V) (p:Addr) (S':PySem.Str) (r:List Int) (ds:List Nat),σ=[some (.ref a),some (.ref p),some (.str S'),o1,o2,o3,none,none,none]∧Same Ht Hn∧SqT K Hn p (r.map V.int)∧S'.cps.toList=ds∧S'.length≤60*i∧([[t0,t1,t2,t3,t4],[t0+5*t4,t1 - t4,t2,t3,0],[t0+5*t4+6*t3,t1 - t4 - 2*t3,t2,0,0],[t0+5*t4+6*t3 - 4*t2,t1 - t4 - 2*t3+4*t2,0,0,0]]:List (List Int))[i]?=some r∧([[],Nam.seg 94 118 t4++[],Nam.seg 62 60 (-t3)++(Nam.seg 94 118 t4++[]),Nam.seg 43 45 (-t2)++(Nam.seg 62 60 (-t3)++(Nam.seg 94 118 t4++[]))]:List (List Nat))[i]?=some ds) ⟨_,_,_,a,PySem.Str.ofString "",[t0,t1,t2,t3,t4],[],rfl,Same.refl _,hat,rfl,by decide,rfl,rfl⟩ (fun i σ Hn _ hp=>by obtain ⟨_,_,_,_,_,_,_,_,sn,_⟩:=hp;exact sn.at (SqT.of mt)) (fun i x σ Hn hx hp=>?_) (fun σ Hn hp=>?_)
  ·obtain ⟨o1,o2,o3,p,S',r,ds,rfl,sn,hpr,hS',lS',hr,hds⟩:=hp
   have hi:i<3:=(List.getElem?_eq_some_iff.mp hx).1
   obtain ⟨pl,mA,c,d,rA,m0,m1,m2,m3,m4,mv,l0,l1,l2,l3,l4,lv,kk,r',rfl,rfl,hatm,hmA,hrA,hatv,hatl,hkk,hkb,hlb,hmvb,hbm,hr',hr'e,hds'⟩:∃ (pl:Int) (mA:Addr) (c d:Nat) (rA:Addr) (m0 m1 m2 m3 m4 mv l0 l1 l2 l3 l4 lv kk:Int) (r':List Int),x=.int pl∧r=[l0,l1,l2,l3,l4]∧atI [V.ref G.a_MARKS_0,V.ref G.a_MARKS_1,V.ref G.a_MARKS_2,V.ref G.a_MARKS_3] (pl - 1)=some (.ref mA)∧Fixed K mA [.str ⟨#[c]⟩,.str ⟨#[d]⟩,.ref rA]∧Fixed K rA [.int m0,.int m1,.int m2,.int m3,.int m4]∧atI [V.int m0,V.int m1,V.int m2,V.int m3,V.int m4] pl=some (.int mv)∧atI [V.int l0,V.int l1,V.int l2,V.int l3,V.int l4] pl=some (.int lv)∧lv*mv=kk∧(-60≤kk∧kk≤60)∧(-1000≤lv∧lv≤1000)∧(-1000≤mv∧mv≤1000)∧(∀ y∈[m0,m1,m2,m3,m4],-1000≤y∧y≤1000)∧([[t0,t1,t2,t3,t4],[t0+5*t4,t1 - t4,t2,t3,0],[t0+5*t4+6*t3,t1 - t4 - 2*t3,t2,0,0],[t0+5*t4+6*t3 - 4*t2,t1 - t4 - 2*t3+4*t2,0,0,0]]:List (List Int))[i+1]?=some r'∧r'=[l0 - m0*kk,l1 - m1*kk,l2 - m2*kk,l3 - m3*kk,l4 - m4*kk]∧([[],Nam.seg 94 118 t4++[],Nam.seg 62 60 (-t3)++(Nam.seg 94 118 t4++[]),Nam.seg 43 45 (-t2)++(Nam.seg 62 60 (-t3)++(Nam.seg 94 118 t4++[]))]:List (List Nat))[i+1]?=some (Nam.seg c d kk++ds):=by
    match i,hi with
    | 0,_=>cases hx;cases hr;cases hds;exact⟨4,_,94,118,_,-5,1,0,0,1,1,_,_,_,_,_,t4,t4,_,rfl,rfl,rfl,q_MARKS_3,q_MARKS_3_2,rfl,rfl,by lia,by lia,by lia,by decide,by decide,rfl,by simp only [List.cons.injEq,and_true];lia,rfl⟩
    | 1,_=>cases hx;cases hr;cases hds;exact⟨3,_,62,60,_,6,-2,0,-1,0,-1,_,_,_,_,_,t3,-t3,_,rfl,rfl,rfl,q_MARKS_2,q_MARKS_2_2,rfl,rfl,by lia,by lia,by lia,by decide,by decide,rfl,by simp only [List.cons.injEq,and_true];lia,rfl⟩
    | 2,_=>cases hx;cases hr;cases hds;exact⟨2,_,43,45,_,-4,4,-1,0,0,-1,_,_,_,_,_,t2,-t2,_,rfl,rfl,rfl,q_MARKS_1,q_MARKS_1_2,rfl,rfl,by lia,by lia,by lia,by decide,by decide,rfl,by simp only [List.cons.injEq,and_true];lia,rfl⟩
   subst hr'e
   have hq:=q_MARKS.at (H:=Hn)
   have qm:=hmA.at (H:=Hn)
   have hpr1:SqT K Hn p [.int l0,.int l1,.int l2,.int l3,.int l4]:=hpr
   clear q_MARKS_0 q_MARKS_1 q_MARKS_2 q_MARKS_3 q_MARKS_0_2 q_MARKS_1_2 q_MARKS_2_2 q_MARKS_3_2 q_LETTERS_0 q_LETTERS_1 q_LETTERS_2 q_LETTERS_3 q_LETTERS_4 q_LETTERS_5 q_LETTERS_6
   clear q_MARKS hr hds hpr hx
   walk_at "w"
   refine r_ixT hq hatm ?_
   clear hq
   walk_at "v"
   refine r_ixT hpr1 hatl ?_
   walk_at "w"
   refine r_ixT hrA.at hatv ?_
   refine r_I (mulS hlb hmvb) ?_
   rw [hkk]
   walk_at "w"
   refine c_power hrA.at ⟨hbm,by lia⟩ fun p3 H3 s3 m3'=>?_
   have hpr3:=s3.at hpr1
   walk_at "w"
   rename_i p4 H4 s4 m4'
   refine c_count_text hmA.at (by lia) ?_
   have lsg:(⟨(Nam.seg c d kk).toArray⟩:PySem.Str).length=kk.natAbs:=by
    show (Nam.seg c d kk).toArray.size=_
    rw [List.size_toArray,Nam.seg_len]
   walk_at "w"
   refine⟨_,_,_,p4,_,[l0 - m0*kk,l1 - m1*kk,l2 - m2*kk,l3 - m3*kk,l4 - m4*kk],_,rfl,(sn.trans s3).trans s4,SqT.of m4',?_,?_,hr',hds'⟩
   ·rw [Nam.app_list,Nam.one_toArray,hS']
   ·rw [PySem.strLen_append,lsg];lia
  ·obtain ⟨o1,o2,o3,p,S',r,ds,rfl,sn,hpr,hS',lS',hr,hds⟩:=hp
   cases hr
   cases hds
   obtain ⟨l0,hl0⟩:∃ l0,t0+5*t4+6*t3 - 4*t2=l0:=⟨_,rfl⟩
   obtain ⟨l1,hl1⟩:∃ l1,t1 - t4 - 2*t3+4*t2=l1:=⟨_,rfl⟩
   rw [hl0,hl1] at hpr
   have hpr1:SqT K Hn p [.int l0,.int l1,.int 0,.int 0,.int 0]:=hpr
   obtain ⟨k0,hk0⟩:∃ k0,(l1+1) / 7=k0:=⟨_,rfl⟩
   have hk0b:-69≤k0∧k0≤69:=by lia
   obtain ⟨j,hj⟩:∃ j:Nat,l1 - 7*k0+1=(j:Int):=⟨(l1 - 7*k0+1).toNat,by lia⟩
   have hj7:j<7:=by lia
   obtain ⟨L,A,r0,hLg,hrg,hLat,hval,hA,hlr,hr0b⟩:∃ (L:Nat) (A:Addr) (r0:Int),([70,67,71,68,65,69,66]:List Nat).getD j 0=L∧([2,0,-1,-3,-4,-6,-7]:List Int).getD j 0=r0∧atI ((["F","C","G","D","A","E","B"]:List PySem.Str).map V.str) (j:Int)=some (.str ⟨#[L]⟩)∧valV [(.inr "F",.ref G.a_LETTERS_0),(.inr "C",.ref G.a_LETTERS_1),(.inr "G",.ref G.a_LETTERS_2),(.inr "D",.ref G.a_LETTERS_3),(.inr "A",.ref G.a_LETTERS_4),(.inr "E",.ref G.a_LETTERS_5),(.inr "B",.ref G.a_LETTERS_6)] ((.inr ⟨#[L]⟩):Key)=some (.ref A)∧Fixed K A [.int r0,.int ((j:Int) - 1),.int 0,.int 0,.int 0]∧Nam.letr L=some [r0,(j:Int) - 1,0,0,0]∧(-7≤r0∧r0≤2):=by
    match j,hj7 with
    | 0,_=>exact⟨70,_,2,rfl,rfl,by show some (V.str (PySem.Str.ofString "F"))=_;rw [show PySem.Str.ofString "F"=⟨#[70]⟩ by decide],(letr_val 70).trans rfl,q_LETTERS_0,rfl,by decide⟩
    | 1,_=>exact⟨67,_,0,rfl,rfl,by show some (V.str (PySem.Str.ofString "C"))=_;rw [show PySem.Str.ofString "C"=⟨#[67]⟩ by decide],(letr_val 67).trans rfl,q_LETTERS_1,rfl,by decide⟩
    | 2,_=>exact⟨71,_,-1,rfl,rfl,by show some (V.str (PySem.Str.ofString "G"))=_;rw [show PySem.Str.ofString "G"=⟨#[71]⟩ by decide],(letr_val 71).trans rfl,q_LETTERS_2,rfl,by decide⟩
    | 3,_=>exact⟨68,_,-3,rfl,rfl,by show some (V.str (PySem.Str.ofString "D"))=_;rw [show PySem.Str.ofString "D"=⟨#[68]⟩ by decide],(letr_val 68).trans rfl,q_LETTERS_3,rfl,by decide⟩
    | 4,_=>exact⟨65,_,-4,rfl,rfl,by show some (V.str (PySem.Str.ofString "A"))=_;rw [show PySem.Str.ofString "A"=⟨#[65]⟩ by decide],(letr_val 65).trans rfl,q_LETTERS_4,rfl,by decide⟩
    | 5,_=>exact⟨69,_,-6,rfl,rfl,by show some (V.str (PySem.Str.ofString "E"))=_;rw [show PySem.Str.ofString "E"=⟨#[69]⟩ by decide],(letr_val 69).trans rfl,q_LETTERS_5,rfl,by decide⟩
    | 6,_=>exact⟨66,_,-7,rfl,rfl,by show some (V.str (PySem.Str.ofString "B"))=_;rw [show PySem.Str.ofString "B"=⟨#[66]⟩ by decide],(letr_val 66).trans rfl,q_LETTERS_6,rfl,by decide⟩
   have lS2:S'.length≤180:=lS'
   clear q_MARKS_1 q_MARKS_2 q_MARKS_3 q_MARKS_1_2 q_MARKS_2_2 q_MARKS_3_2 q_LETTERS_0 q_LETTERS_1 q_LETTERS_2 q_LETTERS_3 q_LETTERS_4 q_LETTERS_5 q_LETTERS_6 hpr
   walk_at "w"
   rw [hk0]
   refine c_power q_MARKS_0_2.at ⟨by decide,by lia⟩ fun p3 H3 s3 m3'=>?_
   have hpr3:=s3.at hpr1
   walk_at "w"
   rename_i p4 H4 s4 m4'
   refine c_count_text q_MARKS_0.at (by lia) ?_
   have lsg:(⟨(Nam.seg 35 98 k0).toArray⟩:PySem.Str).length=k0.natAbs:=by
    show (Nam.seg 35 98 k0).toArray.size=_
    rw [List.size_toArray,Nam.seg_len]
   walk_at "w"
   refine r_listF (by decide) fun lk Hk nk sk mk=>?_
   have m4k:=sk _ _ m4'
   walk_at "v"
   refine r_ixT (SqT.of m4k) rfl ?_
   walk_at "v"
   rw [hj]
   refine r_ixL (SqL.of mk) hLat ?_
   have qA:=hA.at (H:=Hk)
   have lsig:((⟨(Nam.seg 35 98 k0).toArray⟩:PySem.Str)++S').length≤300:=by rw [PySem.strLen_append,lsg];lia
   generalize hsg:(⟨(Nam.seg 35 98 k0).toArray⟩:PySem.Str)++S'=sg at lsig ⊢
   walk_at "w"
   refine r_ixF hval ?_
   walk_at "w"
   rename_i p5 H5 s5 m5
   obtain ⟨o,ho⟩:∃ o,l0 - -11*k0 - r0=o:=⟨_,rfl⟩
   have hob:-9999≤o∧o≤9999:=by lia
   have hoo:=Nam.oct_of hob.1 hob.2
   rw [ho]
   refine r_showS (small2000 (show 1≤2000 by decide)) ?_
   refine r_piece (by rw [Sgn.empty_app];exact small2000 (show 1≤2000 by decide)) ?_
   rw [Sgn.empty_app]
   walk_at "w"
   refine r_piece (small2000 (by rw [PySem.strLen_append];show 1+_≤2000;lia)) ?_
   walk_at "w"
   refine r_piece (small2000 (by rw [PySem.strLen_append,PySem.strLen_append];show 1+_+1≤2000;lia)) ?_
   walk_at "w"
   refine r_showI (Sgn.log_bd (Nat.lt_of_le_of_lt (show o.natAbs≤9999 by lia) (by decide +kernel))) ?_
   have lT:((⟨#[L]⟩:PySem.Str)++sg++PySem.Str.ofString "."++PySem.Str.ofString (toString o)).length≤2000:=by
    rw [PySem.strLen_append,PySem.strLen_append,PySem.strLen_append];show 1+_+1+_≤2000;lia
   refine r_piece (small2000 lT) ?_
   refine r_fnil (small2000 lT) ?_
   have e46:(PySem.Str.ofString ".").cps.toList=[46]:=by decide
   have hT:((⟨#[L]⟩:PySem.Str)++sg++PySem.Str.ofString "."++PySem.Str.ofString (toString o)).cps.toList=L::(Nam.seg 35 98 k0++(Nam.seg 43 45 (-t2)++(Nam.seg 62 60 (-t3)++(Nam.seg 94 118 t4++(46::(PySem.Str.ofString (toString o)).cps.toList))))):=by
    rw [Nam.app_list,Nam.app_list,Nam.app_list,← hsg,Nam.app_list,Nam.one_toArray,hS',e46]
    simp [List.append_assoc]
   have hmade:=Nam.made hT hlr hob.1 hob.2 (by lia)
   refine k _ _ (((((st.trans sn).trans s3).trans s4).trans sk).trans s5) (hT.trans ?_) (hmade.1.trans ?_) hmade.2
   ·unfold nameL
    rw [hl1,hk0,show ((l1+1) % 7).toNat=j by lia,hLg,hrg,show t0+5*t4+6*t3 - 4*t2+11*k0 - r0=o by lia]
   ·congr 1
    simp only [List.cons.injEq,and_true]
    lia
theorem sc_measure:FnScope ["tone","fraction"] ["tone"] (defScope s_measure):=⟨rfl,rfl,rfl,by decide +kernel,rfl,by decide +kernel,by decide +kernel⟩
structure Os_measure (P:Program) (w:World) (K:PySem.W.Frag) (mg:Str→Option Value) (base:Heap) (G:Adr):Prop where
 number_of:Ok P w K mg base 2 "number_of" ["row"] (sp_number_of K)
 fraction_of:Ok P w K mg base 3 "fraction_of" ["tone"] (sp_fraction_of K)
theorem ok_measure (D:Def K mg "measure" s_measure ["tone"]) (T:Txt P w K mg G) (O:Os_measure P w K mg base G):Ok P w K mg base 4 "measure" ["tone"] (sp_measure K):=by
 have S:=sc_measure
 refine D.ok S (fun vs H Q E h=>?_) (fun f cdv A outer s H vs Q E hr h=>?_)
 ·obtain ⟨a,a0,a1,a2,a3,a4,rfl,ha,hb,k⟩:=h;rfl
 ·obtain ⟨a,a0,a1,a2,a3,a4,rfl,ha,hb,k⟩:=h
  have hu:=hu_of hr
  have q_ONE:=T.q_ONE
  have q_PRIMES:=T.q_PRIMES
  have q_BOUNDS:=T.q_BOUNDS
  refine⟨_,(pss_cons (ps_set (i:=1) S.nd rfl (Or.inl rfl) (pcall O.fraction_of (hr.mono (by decide)) (pa_cons (pv 0) pa_nil))) (pss_one (ps_ret (pe_op op_fdivB (pe_op op_mulB (pe_ix (kx_seq K rfl) (pv 1) pe_int (fun _ _=>rfl)) (pcall O.number_of (hr.mono (by decide)) (pa_cons (pe_glob (v:=V.ref G.a_BOUNDS) rfl T.g_BOUNDS rfl) pa_nil))) (pe_ix (kx_seq K rfl) (pv 1) pe_int (fun _ _=>rfl)))))),?_⟩
  obtain ⟨⟨h1,h2⟩,⟨h3,h4⟩,⟨h5,h6⟩,⟨h7,h8⟩,⟨h9,h10⟩⟩:=hb
  have bd:Mth.Bd a0 a1 a2 a3 a4:=by unfold Mth.Bd;lia
  have t1:=Mth.bl_le (Mth.top5_lt bd)
  have n1:=Mth.bl_le (Mth.prod5_lt (a:=700) (b:=60) (c:=60) (d:=60) (e:=60) (by decide) (by decide) (by decide) (by decide) (by decide))
  have b2:=Mth.bot5_pos a0 a1 a2 a3 a4
  have b3:=Mth.log2_of (Mth.bot5_lt bd) (by lia)
  walk_at "w"
  refine c_number_of (kk:=true) (sqt_sq (q_BOUNDS _)) (by decide) fun H2 s2=>?_
  walk_at "w"
  refine r_I ?_ ?_
  ·show L2.bitsI _+L2.bitsI _≤1000000
   rw [Mth.bits_bl,Mth.bits_bl]
   exact Nat.le_trans (Nat.add_le_add t1 n1) (by decide)
  walk_at "w"
  have q:∀ H',Same H H'→Q (.int (Mth.top5 a0 a1 a2 a3 a4*Mth.prod5 700 60 60 60 60 / Mth.bot5 a0 a1 a2 a3 a4)) H':=fun H' s=>by rw [Mth.meas h1 h3 h5 h7 h9];exact k H' s
  exact q _ (by walk_at "sm")
theorem sc_rising:FnScope ["tones"] ["tones"] (defScope s_rising):=⟨rfl,rfl,rfl,by decide +kernel,rfl,by decide +kernel,by decide +kernel⟩
structure Os_rising (P:Program) (w:World) (K:PySem.W.Frag) (mg:Str→Option Value) (base:Heap) (G:Adr):Prop where
 measure:Ok P w K mg base 4 "measure" ["tone"] (sp_measure K)
theorem ok_rising (D:Def K mg "rising" s_rising ["tones"]) (T:Txt P w K mg G) (O:Os_rising P w K mg base G):Ok P w K mg base 7 "rising" ["tones"] (sp_rising K):=by
 have S:=sc_rising
 refine D.ok S (fun vs H Q E h=>?_) (fun f cdv A outer s H vs Q E hr h=>?_)
 ·obtain ⟨l,xs,rs,rfl,hs,hra,hb,h64,k⟩:=h;rfl
 ·obtain ⟨l,xs,rs,rfl,hs,hra,hb,h64,k⟩:=h
  have hu:=hu_of hr
  have q_ONE:=T.q_ONE
  have q_PRIMES:=T.q_PRIMES
  have q_BOUNDS:=T.q_BOUNDS
  refine⟨_,(pss_one (ps_ret (kpe_sortK rfl O.measure (hr.mono (by decide)) (pv 0) rfl T.b_sorted PyProof.Rows.boot_sorted))),?_⟩
  walk_at "w"
  refine rd_sortK (rs.map msr) hs (by rw [List.length_map,hra.length]) h64 (fun i x n hx hn H' s=>?_) (fun p H' ys s m so=>?_)
  ·obtain ⟨a,r,rfl,ha,hr1⟩:=hra.get hx
   have en:msr r=n:=by rw [List.getElem?_map,hr1] at hn;exact Option.some.inj hn
   subst en
   obtain ⟨a0,a1,a2,a3,a4,rfl,b⟩:=hb r (List.mem_of_getElem? hr1)
   exact c_measure (s.at ha) b fun H'' s2=>⟨rfl,s2⟩
  ·obtain ⟨qs,h1,h2,h3⟩:=sorted_rows msr hra so s
   walk_at "w"
   exact k _ ys qs _ s m h1 h2 h3
theorem sc_octaves:FnScope ["tone","fraction","shift","whole"] ["tone"] (defScope s_octaves):=⟨rfl,rfl,rfl,by decide +kernel,rfl,by decide +kernel,by decide +kernel⟩
structure Os_octaves (P:Program) (w:World) (K:PySem.W.Frag) (mg:Str→Option Value) (base:Heap) (G:Adr):Prop where
 fraction_of:Ok P w K mg base 3 "fraction_of" ["tone"] (sp_fraction_of K)
theorem ok_octaves (D:Def K mg "octaves" s_octaves ["tone"]) (T:Txt P w K mg G) (O:Os_octaves P w K mg base G):Ok P w K mg base 4 "octaves" ["tone"] (sp_octaves K):=by
 have S:=sc_octaves
 refine D.ok S (fun vs H Q E h=>?_) (fun f cdv A outer s H vs Q E hr h=>?_)
 ·obtain ⟨a,a0,a1,a2,a3,a4,rfl,ha,hb,k⟩:=h;rfl
 ·obtain ⟨a,a0,a1,a2,a3,a4,rfl,ha,hb,k⟩:=h
  have hu:=hu_of hr
  have q_ONE:=T.q_ONE
  have q_PRIMES:=T.q_PRIMES
  have q_BOUNDS:=T.q_BOUNDS
  refine⟨_,(pss_cons (ps_set (i:=1) S.nd rfl (Or.inl rfl) (pcall O.fraction_of (hr.mono (by decide)) (pa_cons (pv 0) pa_nil))) (pss_cons (ps_set (i:=2) S.nd rfl (Or.inl rfl) (pe_bm0 PySem.F.plainAttrs_int PySem.F.slot_int_bit_length PySem.F.type_int_bit_length mtN_bitlen (pe_ix (kx_seq K rfl) (pv 1) pe_int (fun _ _=>rfl)))) (pss_cons (ps_set (i:=3) S.nd rfl (Or.inl rfl) (pe_op op_fdivB (pe_op op_shlB (pe_ix (kx_seq K rfl) (pv 1) pe_int (fun _ _=>rfl)) (pv 2)) (pe_ix (kx_seq K rfl) (pv 1) pe_int (fun _ _=>rfl)))) (pss_one (ps_ret (pe_op op_sub (pe_op op_sub (pe_bm0 PySem.F.plainAttrs_int PySem.F.slot_int_bit_length PySem.F.type_int_bit_length mtN_bitlen (pv 3)) pe_int) (pv 2))))))),?_⟩
  have t1:=Mth.bl_le (Mth.top5_lt hb)
  have b1:=Mth.bl_le (Mth.bot5_lt hb)
  have b2:=Mth.bot5_pos a0 a1 a2 a3 a4
  have b3:=Mth.log2_of (Mth.bot5_lt hb) (by lia)
  walk_at "w"
  refine r_I ?_ ?_
  ·exact⟨Int.natCast_nonneg _,by rw [Mth.bits_bl,Mth.bits_bl];lia⟩
  walk_at "w"
  exact k _ (by walk_at "sm")
theorem sc_folded:FnScope ["tone"] ["tone"] (defScope s_folded):=⟨rfl,rfl,rfl,by decide +kernel,rfl,by decide +kernel,by decide +kernel⟩
structure Os_folded (P:Program) (w:World) (K:PySem.W.Frag) (mg:Str→Option Value) (base:Heap) (G:Adr):Prop where
 over:Ok P w K mg base 1 "over" ["one","other"] (sp_over K)
 octaves:Ok P w K mg base 4 "octaves" ["tone"] (sp_octaves K)
theorem ok_folded (D:Def K mg "folded" s_folded ["tone"]) (T:Txt P w K mg G) (O:Os_folded P w K mg base G):Ok P w K mg base 5 "folded" ["tone"] (sp_folded K):=by
 have S:=sc_folded
 refine D.ok S (fun vs H Q E h=>?_) (fun f cdv A outer s H vs Q E hr h=>?_)
 ·obtain ⟨a,a0,a1,a2,a3,a4,rfl,ha,hb,k⟩:=h;rfl
 ·obtain ⟨a,a0,a1,a2,a3,a4,rfl,ha,hb,k⟩:=h
  have hu:=hu_of hr
  have q_ONE:=T.q_ONE
  have q_PRIMES:=T.q_PRIMES
  have q_BOUNDS:=T.q_BOUNDS
  refine⟨_,(pss_one (ps_ret (pcall O.over (hr.mono (by decide)) (@pa_cons _ _ _ _ _ (pv 0) (@pa_cons _ _ _ _ _ (@pe_tup _ _ _ _ _ (pa_cons (pcall O.octaves (hr.mono (by decide)) (pa_cons (pv 0) pa_nil)) (pa_cons pe_int (pa_cons pe_int (pa_cons pe_int (pa_cons pe_int pa_nil)))))) pa_nil (by rfl)) (by rfl))))),?_⟩
  walk_at "w"
  rename_i pz Hz sz mz
  simp only [Int.sub_zero] at mz
  exact k _ _ (by walk_at "sm") mz
theorem sc_scale_tone:FnScope ["tone"] ["tone"] (defScope s_scale_tone):=⟨rfl,rfl,rfl,by decide +kernel,rfl,by decide +kernel,by decide +kernel⟩
structure Os_scale_tone (P:Program) (w:World) (K:PySem.W.Frag) (mg:Str→Option Value) (base:Heap) (G:Adr):Prop where
 folded:Ok P w K mg base 5 "folded" ["tone"] (sp_folded K)
theorem ok_scale_tone (D:Def K mg "scale_tone" s_scale_tone ["tone"]) (T:Txt P w K mg G) (O:Os_scale_tone P w K mg base G):OkX P w K mg base 6 "scale_tone" ["tone"] (sp_scale_tone K):=by
 have S:=sc_scale_tone
 refine D.okX S (fun vs H Q E h=>?_) (fun f cdv A outer s H vs Q E hr h=>?_)
 ·obtain ⟨a,r,rfl,ha,hb,ke,kq⟩:=h;rfl
 ·obtain ⟨a,r,rfl,ha,hb,ke,kq⟩:=h
  have hu:=hu_of hr
  have q_ONE:=T.q_ONE
  have q_PRIMES:=T.q_PRIMES
  have q_BOUNDS:=T.q_BOUNDS
  refine⟨_,(pss_cons (ps_if (pt_cmpR op_gt (pe_callB (kN_maxL K rfl rfl) rfl T.b_max PyProof.Rows.boot_max (pa_cons (pe_comp (N:=["number"]) (ix:=[none]) rfl (kpi_tup K rfl (pe_slice (ksl_tup K rfl) (pv 0) (po_some pe_int) po_none)) (fun _ _ _ _ _=>(pg_name (i:=0) (show List.Nodup (["number"]:List Str) by decide +kernel) rfl (Or.inl rfl))) (fun _ _ _ _ _=>rfl) (fun _ _ _ _ _=>(pe_callB callN_abs rfl T.b_abs PyProof.Rows.boot_abs (pa_cons (pv 0) pa_nil))) rfl (by decide +kernel) (by decide +kernel) rfl True.intro) pa_nil)) (pe_glob (v:=V.int 30) rfl T.g_FARTHEST ⟨_,rfl⟩) (nomark _)) (pss_one (ps_raise T.i_TooFar PySem.F.excBase_ValueError (by decide +kernel) PySem.F.excBase_ValueError rfl (fun _ _ z=>z) rfl rfl T.g_TooFar (pa_cons pe_str pa_nil))) pss_nil) (pss_one (ps_ret (pcall O.folded (hr.mono (by decide)) (pa_cons (pv 0) pa_nil))))),?_⟩
  obtain ⟨x0,x1,x2,x3,x4,rfl,b0,b1,b2,b3,b4⟩:=hb
  have ha':SqT K H a [.int x0,.int x1,.int x2,.int x3,.int x4]:=ha
  walk_at "w"
  refine rd_mapRow (r:=[x1,x2,x3,x4]) (fun x=>.int (if x<0 then -x else x)) [] rfl (by walk_at "hf") (Nat.le_of_ble_eq_true rfl) (fun x H' Qc _ s kc=>?_) (fun l H2 hl s2 m2=>?_)
  ·walk_at "w"
   exact kc _ (Same.refl _)
  walk_at "w"
  refine r_maxL (ns:=[if x1<0 then -x1 else x1,if x2<0 then -x2 else x2,if x3<0 then -x3 else x3,if x4<0 then -x4 else x4]) (SqL.of m2) (List.cons_ne_nil _ _) fun m hm1 hm2=>?_
  have e:decide (m≤30)=ok30 [x0,x1,x2,x3,x4]:=ok30_max hm1 hm2
  walk_at "w"
  refine if_both (fun hc=>?_) (fun hc=>?_)
  ·walk_at "w"
   exact⟨by decide,ke (by rw [← e];exact decide_eq_false (by have:=of_decide_eq_true hc;lia)) _ _ T.m_TooFar (by walk_at "sm")⟩
  ·walk_at "w"
   rename_i p9 H9 s9 m9
   exact kq (by rw [← e];exact decide_eq_true (by have:=of_decide_eq_false hc;lia)) _ _ (by walk_at "sm") m9
theorem sc_scale_of:FnScope ["tones","found","tone"] ["tones"] (defScope s_scale_of):=⟨rfl,rfl,rfl,by decide +kernel,rfl,by decide +kernel,by decide +kernel⟩
structure Os_scale_of (P:Program) (w:World) (K:PySem.W.Frag) (mg:Str→Option Value) (base:Heap) (G:Adr):Prop where
 rising:Ok P w K mg base 7 "rising" ["tones"] (sp_rising K)
 scale_tone:OkX P w K mg base 6 "scale_tone" ["tone"] (sp_scale_tone K)
set_option maxHeartbeats 4000000 in
theorem ok_scale_of (D:Def K mg "scale_of" s_scale_of ["tones"]) (T:Txt P w K mg G) (O:Os_scale_of P w K mg base G):OkX P w K mg base 8 "scale_of" ["tones"] (sp_scale_of K):=by
 have S:=sc_scale_of
 refine D.okP S (fun vs H Q E h=>?_) (fun f cdv A outer s H vs Q E hr h=>?_)
 ·obtain ⟨a,xs,rs,rfl,ha,hra,hb,hn,ke,kq⟩:=h;rfl
 ·obtain ⟨a,xs,rs,rfl,ha,hra,hb,hn,ke,kq⟩:=h
  have hu:=hu_of hr
  have q_ONE:=T.q_ONE
  have q_PRIMES:=T.q_PRIMES
  have q_BOUNDS:=T.q_BOUNDS
  refine⟨_,(pss_cons (ps_set (i:=1) S.nd rfl (Or.inl rfl) pe_dnewT) (pss_cons (ps_for (passes_XP rfl rfl rfl) rfl (kpi_list K rfl (pv 0)) (pg_name (i:=2) S.nd rfl (Or.inl rfl)) (pss_one (ps_dput hu (pv 1) (pcallX O.scale_tone (hr.mono (by decide)) (fun _ _ z=>.inl z) rfl (pa_cons (pv 2) pa_nil)) pe_bl rfl))) (pss_one (ps_ret (pcall O.rising (hr.mono (by decide)) (pa_cons (pe_callTy (call_listD rfl) rfl T.b_list PyProof.Rows.boot_list (pa_cons (pv 1) pa_nil)) pa_nil)))))),?_⟩
  have hlx:=hra.length
  walk_at "w"
  rename_i d H1 n1 s1 m1
  refine f_invL (xs:=xs) (fun i σ H2=>∃ (o:Option V) (kvs:List (List Key×V)) (qs:List (List Int)),σ=[some (.ref a),some (.ref d),o]∧Same H H2∧H2 d=some (.dT kvs)∧kvs.map Prod.fst=qs.map rk∧qs.Nodup∧(∀ q,q∈qs↔∃ r∈rs.take i,q=foldR r)∧(∀ r∈rs.take i,ok30 r=true)∧qs.length≤i) ⟨_,[],[],rfl,s1,m1,rfl,.nil,(by simp),(by simp),Nat.le_refl _⟩ (fun i σ H2 hp=>?_) (fun i x σ H2 hx hp=>?_) (fun σ H2 hp=>?_)
  ·obtain ⟨_,_,_,_,s2,_⟩:=hp
   exact s2.seq ha
  ·obtain ⟨o,kvs,qs,rfl,s2,m2,hk2,hnd,hmem,hok,hle⟩:=hp
   have hi:i<xs.length:=(List.getElem?_eq_some_iff.mp hx).1
   obtain ⟨b,r,rfl,hbr,hri⟩:=(hra.same s2).get hx
   have hrm:r∈rs:=List.mem_of_getElem? hri
   have hkl:kvs.length=qs.length:=by have:=congrArg List.length hk2;simpa using this
   have htk:rs.take (i+1)=rs.take i++[r]:=by rw [List.take_add_one,hri];rfl
   walk_at "w"
   refine c_scale_tone hbr (hb r hrm) (fun hff C H9 hC s9=>?_) (fun hff p H9 s9 m9=>?_)
   ·exact⟨C,rfl,ke ⟨r,hrm,hff⟩ C H9 hC (s2.trans s9)⟩
   walk_at "w"
   refine r_dputT (k:=rk (foldR r)) (s9 _ _ m2) (by rw [rk_kV];exact m9) (by lia) ?_
   refine⟨_,_,if foldR r∈qs then qs else qs++[foldR r],rfl,(s2.trans s9).upd_old n1,upd_same,?_,?_,fun q=>?_,fun q hq=>?_,?_⟩
   ·rw [putK_keys,hk2]
    have e:(rk (foldR r)∈qs.map rk)↔foldR r∈qs:=⟨fun z=>by obtain ⟨q,hq,e⟩:=List.mem_map.mp z;exact (rk_inj e) ▸ hq,fun z=>List.mem_map.mpr ⟨_,z,rfl⟩⟩
    by_cases z:foldR r∈qs
    ·rw [if_pos z,if_pos (e.mpr z)]
    ·rw [if_neg z,if_neg (fun w=>z (e.mp w)),List.map_append];rfl
   ·by_cases z:foldR r∈qs
    ·rw [if_pos z];exact hnd
    ·rw [if_neg z]
     exact List.nodup_append.mpr ⟨hnd,by simp,fun x hx y hy=>by rw [List.mem_singleton.mp hy];exact fun w=>z (w ▸ hx)⟩
   ·rw [htk]
    have h1:(∃ t∈rs.take i++[r],q=foldR t)↔(q∈qs∨q=foldR r):=by
     rw [hmem q]
     constructor
     ·rintro ⟨t,ht,e⟩
      rcases List.mem_append.mp ht with z|z
      ·exact .inl ⟨t,z,e⟩
      ·rw [List.mem_singleton.mp z] at e;exact .inr e
     ·rintro (⟨t,ht,e⟩|e)
      ·exact⟨t,List.mem_append_left _ ht,e⟩
      ·exact⟨r,by simp,e⟩
    rw [h1]
    by_cases z:foldR r∈qs
    ·rw [if_pos z]
     exact⟨.inl,fun w=>w.elim id fun e=>e ▸ z⟩
    ·rw [if_neg z,List.mem_append,List.mem_singleton]
   ·rw [htk] at hq
    rcases List.mem_append.mp hq with z|z
    ·exact hok q z
    ·rw [List.mem_singleton.mp z];exact hff
   ·by_cases z:foldR r∈qs
    ·rw [if_pos z];lia
    ·rw [if_neg z,List.length_append,List.length_singleton];lia
  ·obtain ⟨o,kvs,qs,rfl,s2,m2,hk2,hnd,hmem,hok,hle⟩:=hp
   rw [List.take_of_length_le (by lia)] at hmem hok
   have hkl:kvs.length=qs.length:=by have:=congrArg List.length hk2;simpa using this
   walk_at "w"
   refine r_listD m2 fun l bs H3 s3 hl3 m3 hn3 hb3=>?_
   have hrows:RowsL K H3 (bs.map V.ref) qs:=rows_of_get (by rw [List.length_map];lia) fun i q hq=>by
    obtain ⟨p,hp⟩:∃ p,kvs[i]?=some p:=⟨_,List.getElem?_eq_getElem (by have:=(List.getElem?_eq_some_iff.mp hq).1;lia)⟩
    obtain ⟨b,h1,h2⟩:=hb3 i p hp
    have e:p.1=rk q:=by
     have z:=congrArg (fun l=>l[i]?) hk2
     simp only [List.getElem?_map,hp,hq,Option.map_some,Option.some.injEq] at z
     exact z
    rw [e,rk_kV] at h2
    exact⟨b,by rw [List.getElem?_map,h1];rfl,SqT.of (s3 _ _ h2)⟩
   have hqb:∀ q∈qs,RB 400 30 q:=fun q hq=>by
    obtain ⟨r,hr,rfl⟩:=(hmem q).mp hq
    exact foldR_rb (hb r hr) (hok r hr)
   walk_at "w"
   refine c_rising (SqL.of m3) hrows (fun q hq=>(hqb q hq).mono (by decide) (by decide)) (by rw [List.length_map];lia) fun p ys zs H4 s4 m4 r4 pz sz=>?_
   refine kq hok _ ys zs _ ((s2.trans s3).trans s4) m4 r4 ?_ fun q=>?_
   ·exact strict_of (hnd.perm pz.symm) (fun q hq=>hqb q (pz.mem_iff.mp hq)) sz
   ·rw [pz.mem_iff,hmem q]
theorem sc_scale_text:FnScope ["scale"] ["scale"] (defScope s_scale_text):=⟨rfl,rfl,rfl,by decide +kernel,rfl,by decide +kernel,by decide +kernel⟩
structure Os_scale_text (P:Program) (w:World) (K:PySem.W.Frag) (mg:Str→Option Value) (base:Heap) (G:Adr):Prop where
 name_of:Ok P w K mg base 2 "name_of" ["tone"] (sp_name_of K)
set_option maxHeartbeats 4000000 in
theorem ok_scale_text (D:Def K mg "scale_text" s_scale_text ["scale"]) (T:Txt P w K mg G) (O:Os_scale_text P w K mg base G):Ok P w K mg base 3 "scale_text" ["scale"] (sp_scale_text K):=by
 have S:=sc_scale_text
 refine D.ok S (fun vs H Q E h=>?_) (fun f cdv A outer s H vs Q E hr h=>?_)
 ·obtain ⟨a,xs,rs,rfl,ha,hra,hb,hn,k⟩:=h;rfl
 ·obtain ⟨a,xs,rs,rfl,ha,hra,hb,hn,k⟩:=h
  have hu:=hu_of hr
  have q_ONE:=T.q_ONE
  have q_PRIMES:=T.q_PRIMES
  have q_BOUNDS:=T.q_BOUNDS
  refine⟨_,(pss_one (ps_ret (pe_bm PySem.F.plainAttrs_str PySem.F.slot_str_join PySem.F.type_str_join mt_joinL pe_str (pa_cons (pe_comp (N:=["tone"]) (ix:=[none]) rfl (kpi_list K rfl (pv 0)) (fun _ _ _ _ _=>(pg_name (i:=0) (show List.Nodup (["tone"]:List Str) by decide +kernel) rfl (Or.inl rfl))) (fun _ _ _ _ _=>rfl) (fun _ _ _ _ _=>(pcall O.name_of (hr.mono (by decide)) (pa_cons (pv 0) pa_nil))) rfl (by decide +kernel) (by decide +kernel) rfl True.intro) pa_nil)))),?_⟩
  have lx:=hra.length
  walk_at "w"
  refine comp_gen 1 [] rs.length (fun l i ys H'=>ys=((rs.take i).map nmZ).map V.str∧(((rs.take i).map nmZ).map (·.length)).sum≤300*i) rfl (fun l H' _ _ _=>⟨rfl,by simp⟩) (fun l i ys H' h=>by rw [h.1];simp;lia) (fun H' s=>⟨_,s.seq ha,by lia⟩) (fun i H' hi s=>⟨_,_,s.seq ha,List.getElem?_eq_getElem (by lia)⟩) (fun l' i x H' H2 own ys ho hi hl0 s9 hl' hp hy Qy Qn ky kn=>?_) (fun l2 H2 ys n2 s2 m2 hp=>?_)
  ·obtain ⟨o1,rfl⟩:∃ o1,own=[o1]:=by match own,ho with|[o1],_=>exact⟨o1,rfl⟩
   obtain ⟨rfl,e⟩:=hy
   have hx:=e _ (s9.seq ha)
   obtain ⟨c,r,rfl,hc,hri⟩:=(hra.same s9).get hx
   obtain ⟨a0,a1,a2,a3,a4,rfl,b0,b1,b2,b3,b4⟩:=hb r (List.mem_of_getElem? hri)
   have et:rs.take (i+1)=rs.take i++[[a0,a1,a2,a3,a4]]:=by rw [List.take_add_one,hri];rfl
   walk_at "w"
   refine iteT ?_
   walk_at "w"
   refine c_name_of hc ⟨b0,b1,b2,b3,b4⟩ fun T1 H9 s99 hT hnm hl=>?_
   obtain rfl:T1=nmZ [a0,a1,a2,a3,a4]:=Nam.str_ext hT
   refine ky [some (.ref c)] _ H9 rfl s99 ⟨?_,?_⟩
   ·rw [et,hp.1,List.map_append,List.map_append];rfl
   ·rw [et,List.map_append,List.map_append,List.sum_append]
    have h2:=hp.2
    have e1:(List.map (·.length) (List.map nmZ [[a0,a1,a2,a3,a4]])).sum=(nmZ [a0,a1,a2,a3,a4]).length:=Nat.add_zero _
    lia
  rw [List.take_length] at hp
  obtain ⟨rfl,hs⟩:=hp
  walk_at "w"
  refine r_joinL m2 (by decide) (by rw [List.length_map];lia) ?_
  rw [sp32]
  exact k _ s2
theorem sc_scale_read:FnScope ["text","words"] ["text"] (defScope s_scale_read):=⟨rfl,rfl,rfl,by decide +kernel,rfl,by decide +kernel,by decide +kernel⟩
structure Os_scale_read (P:Program) (w:World) (K:PySem.W.Frag) (mg:Str→Option Value) (base:Heap) (G:Adr):Prop where
 named:OkX P w K mg base 5 "named" ["text"] (sp_named K)
 scale_of:OkX P w K mg base 8 "scale_of" ["tones"] (sp_scale_of K)
set_option maxHeartbeats 4000000 in
theorem ok_scale_read (D:Def K mg "scale_read" s_scale_read ["text"]) (T:Txt P w K mg G) (O:Os_scale_read P w K mg base G):OkX P w K mg base 9 "scale_read" ["text"] (sp_scale_read K):=by
 have S:=sc_scale_read
 refine D.okP S (fun vs H Q E h=>?_) (fun f cdv A outer s H vs Q E hr h=>?_)
 ·obtain ⟨zs,rfl,h60,hw,ke,kq⟩:=h;rfl
 ·obtain ⟨zs,rfl,h60,hw,ke,kq⟩:=h
  have hu:=hu_of hr
  have q_ONE:=T.q_ONE
  have q_PRIMES:=T.q_PRIMES
  have q_BOUNDS:=T.q_BOUNDS
  refine⟨_,(pss_cons (ps_if (pt_cmpR op_eq (pv 0) pe_str (nomark _)) (pss_one (ps_ret (pe_lst pa_nil))) pss_nil) (pss_cons (ps_set (i:=1) S.nd rfl (Or.inl rfl) (pe_bm PySem.F.plainAttrs_str PySem.F.slot_str_split PySem.F.type_str_split mt_split (pv 0) (pa_cons pe_str pa_nil))) (pss_cons (ps_if (pt_cmpR op_gt (pe_callB (kN_len K rfl) rfl T.b_len PySem.boot_len (pa_cons (pv 1) pa_nil)) (pe_glob (v:=V.int 60) rfl T.g_MOST_WORDS ⟨_,rfl⟩) (nomark _)) (pss_one (ps_raise T.i_NoScale PySem.F.excBase_ValueError (by decide +kernel) PySem.F.excBase_ValueError rfl (fun _ _ z=>.inl z) rfl rfl T.g_NoScale (pa_cons pe_str pa_nil))) pss_nil) (pss_one (ps_ret (pcallX O.scale_of (hr.mono (by decide)) (fun _ _ z=>.inl z) rfl (pa_cons (pe_compX (N:=["word"]) (ix:=[none]) rfl rfl rfl (fun _ _ z=>.inr z) rfl (kpi_list K rfl (pv 1)) (fun _ _ _ _ _=>(pg_name (i:=0) (show List.Nodup (["word"]:List Str) by decide +kernel) rfl (Or.inl rfl))) (fun _ _ _ _ _=>rfl) (fun _ _ _ _ _ _ hz=>(pcallXc O.named (hr.mono (by decide)) (fun _ _ z=>z) (fun b hb=>(hz b hb).imp fun _ z=>List.mem_append_right _ z) (pa_cons (pv 0) pa_nil))) rfl (by decide +kernel) (by decide +kernel) rfl True.intro) pa_nil))))))),?_⟩
  by_cases hne:zs=[]
  ·subst hne
   walk_at "w"
   refine if_tt (decide_eq_true (by decide)) ?_
   walk_at "w"
   rename_i l1 H1 n1 s1 m1
   exact kq (by simp) l1 [] [] H1 s1 m1 .nil .nil (by simp)
  have hsp:=Nam.split_join (c:=32) hne fun z hz=>(hw z hz).2.1
  have hz0:=join_pos hne hw
  have hzl:=join_len hw h60
  generalize PySem.Str.join ⟨#[32]⟩ zs=z at *
  walk_at "w"
  refine if_ff (decide_eq_false (fun e=>by rw [e] at hz0;exact absurd hz0 (by decide))) ?_
  walk_at "w"
  refine r_split (by decide) hzl (by rw [sp32,hsp];lia) fun p1 H1 n1 s1 m1=>?_
  rw [sp32,hsp] at m1
  walk_at "w"
  refine if_ff (decide_eq_false (by simp;lia)) ?_
  walk_at "w"
  refine r_compX ?_
  walk_at "w"
  refine comp_gen 1 [] zs.length (fun l i ys H'=>RowsL K H' ys ((zs.take i).map rowZ)∧∀ z∈zs.take i,RB 700 60 (rowZ z)) rfl (fun l H' _ _ _=>⟨.nil,by simp⟩) (fun l i ys H' h=>by have:=h.1.length;rw [List.length_map,List.length_take] at this;lia) (fun H' s=>⟨_,s.seq (SqL.of (K:=K) m1),by simp⟩) (fun i H' hi s=>⟨_,_,s.seq (SqL.of (K:=K) m1),List.getElem?_eq_getElem (by simp;lia)⟩) (fun l' i x H' H2 own ys ho hi hl0 s9 hl' hp hy Qy Qn ky kn=>?_) (fun l2 H2 ys n2 s2 m2 hp=>?_)
  ·obtain ⟨o1,rfl⟩:∃ o1,own=[o1]:=by match own,ho with|[o1],_=>exact⟨o1,rfl⟩
   obtain ⟨rfl,e⟩:=hy
   have hx:=e _ (s9.seq (SqL.of (K:=K) m1))
   rw [List.getElem?_map] at hx
   obtain ⟨w,hwi⟩:∃ w,zs[i]?=some w:=⟨_,List.getElem?_eq_getElem hi⟩
   rw [hwi] at hx
   cases hx
   have hwm:=List.mem_of_getElem? hwi
   have et:zs.take (i+1)=zs.take i++[w]:=by rw [List.take_add_one,hwi];rfl
   obtain ⟨c1,c2,c3,y0,y1,y2,y3,y4,hy,hfit⟩:=hw w hwm
   obtain ⟨hr,hrb⟩:=hp
   walk_at "w"
   refine iteT ?_
   walk_at "w"
   refine c_named (Nat.le_trans c1 (by decide)) ⟨fun hn=>(by rw [hn] at hy;cases hy),fun x0 x1 x2 x3 x4 hx hf2=>(by rw [hx] at hy;cases hy;rw [hf2] at hfit;cases hfit),fun x0 x1 x2 x3 x4 hx hf2 p H9 s99 m9=>?_⟩
   have er:rowZ w=[x0,x1,x2,x3,x4]:=by unfold rowZ;rw [hx];rfl
   refine ky [some (.str w)] _ H9 rfl s99 ⟨?_,?_⟩
   ·rw [et,List.map_append]
    refine ((hr.same s99).off (s99 _ _ hl')).snoc (upd_sqT (SqT.of ?_) (s99 _ _ hl'))
    show H9 p=some (.tup ((rowZ w).map V.int))
    rw [er];exact m9
   ·intro v hv
    rw [et] at hv
    rcases List.mem_append.mp hv with z|z
    ·exact hrb v z
    ·rw [List.mem_singleton.mp z,er];exact fits_RB hf2
  obtain ⟨h1,h3⟩:=hp
  rw [List.take_length] at h1 h3
  walk_at "w"
  refine c_scale_of (SqL.of m2) h1 (fun q hq=>?_) (by rw [List.length_map];exact h60) (fun hex C H9 hC s9=>?_) (fun hall p ys9 qs H9 s9 m9 r9 so9 me9=>?_)
  ·obtain ⟨w,hwm,rfl⟩:=List.mem_map.mp hq
   exact h3 w hwm
  ·obtain ⟨q,hq,hf⟩:=hex
   obtain ⟨w,hwm,rfl⟩:=List.mem_map.mp hq
   exact⟨C,rfl,ke ⟨w,hwm,hf⟩ _ _ hC ((s1.trans s2).trans s9)⟩
  ·refine kq (fun z hz=>hall _ (List.mem_map.mpr ⟨z,hz,rfl⟩)) p ys9 qs H9 ((s1.trans s2).trans s9) m9 r9 so9 fun q=>?_
   rw [me9 q]
   constructor
   ·rintro ⟨z,hz,e⟩
    obtain ⟨w,hwm,rfl⟩:=List.mem_map.mp hz
    exact⟨w,hwm,e⟩
   ·rintro ⟨w,hwm,e⟩
    exact⟨_,List.mem_map.mpr ⟨w,hwm,rfl⟩,e⟩
theorem sc_law_cell:FnScope ["_law_script","_law_k"] ["_law_script","_law_k"] (defScope s_law_cell):=⟨rfl,rfl,rfl,by decide +kernel,rfl,by decide +kernel,by decide +kernel⟩
theorem ok_law_cell (D:Def K mg "_law_cell" s_law_cell ["_law_script","_law_k"]) (T:Txt P w K mg G):Ok P w K mg base 1 "_law_cell" ["_law_script","_law_k"] (sp_law_cell K):=by
 have S:=sc_law_cell
 refine D.ok S (fun vs H Q E h=>?_) (fun f cdv A outer s H vs Q E hr h=>?_)
 ·obtain ⟨a,ns,k,rfl,hs,h0,hQ⟩:=h;rfl
 ·obtain ⟨a,ns,k,rfl,hs,h0,hQ⟩:=h
  have hu:=hu_of hr
  have q_ONE:=T.q_ONE
  have q_PRIMES:=T.q_PRIMES
  have q_BOUNDS:=T.q_BOUNDS
  refine⟨_,(pss_cons (ps_if (pt_cmpR op_lt (pv 1) (pe_callB (kN_len K rfl) rfl T.b_len PySem.boot_len (pa_cons (pv 0) pa_nil)) (nomark _)) (pss_one (ps_ret (pe_ix (kx_seq K rfl) (pv 0) (pv 1) (fun _ _=>rfl)))) pss_nil) (pss_one (ps_ret pe_int))),?_⟩
  walk_at "w"
  refine if_both (fun hc=>?_) (fun hc=>?_)
  ·have hlt:k.toNat<ns.length:=by simp at hc;lia
   obtain ⟨j,rfl⟩:=Int.eq_ofNat_of_zero_le h0
   repeat walk_at "r"
   exact r_ixL hs (atI_nat (int_at (by simpa using hlt))) hQ
  ·have hge:ns.length≤k.toNat:=by simp at hc;lia
   have e:ns.getD k.toNat 0=0:=by rw [List.getD,List.getElem?_eq_none hge];rfl
   rw [e] at hQ
   walk_at "w"
   exact hQ
theorem sc_law_part:FnScope ["_law_cell_here","_law_k","_law_many","_law_prime"] ["_law_cell_here","_law_k","_law_many"] (defScope s_law_part):=⟨rfl,rfl,rfl,by decide +kernel,rfl,by decide +kernel,by decide +kernel⟩
theorem ok_law_part (D:Def K mg "_law_part" s_law_part ["_law_cell_here","_law_k","_law_many"]) (T:Txt P w K mg G):Ok P w K mg base 1 "_law_part" ["_law_cell_here","_law_k","_law_many"] (sp_law_part K):=by
 have S:=sc_law_part
 refine D.ok S (fun vs H Q E h=>?_) (fun f cdv A outer s H vs Q E hr h=>?_)
 ·obtain ⟨c,j,m,rfl,hj,hm,k⟩:=h;rfl
 ·obtain ⟨c,j,m,rfl,hj,hm,k⟩:=h
  have hu:=hu_of hr
  have q_ONE:=T.q_ONE
  have q_PRIMES:=T.q_PRIMES
  have q_BOUNDS:=T.q_BOUNDS
  refine⟨_,(@pss_cons _ _ _ _ _ (@ps_set _ _ 3 _ _ _ _ S.nd rfl (Or.inl rfl) (pe_ix (kx_seq K rfl) (@pe_lstC _ _ _ _ (by rfl)) (pe_op op_mod (pv 1) pe_int) (fun _ _=>rfl)) (by rfl) (by first|exact .inl rfl|exact .inr rfl|assumption)) (pss_one (ps_ret (pe_op op_mod (pe_op op_mod (pe_op op_mul (pe_op op_mod (pv 0) pe_int) (pe_op op_add pe_int (pe_op op_mul pe_int (pv 1)))) (pv 3)) (pv 2))))),?_⟩
  obtain ⟨pr,hpr,hp0⟩:∃ pr:Int,atI [V.int 1000033,V.int 1000037,V.int 1000039,V.int 1000081,V.int 1000099,V.int 1000117] (j % 6)=some (.int pr)∧0<pr:=by
   have hz:j % 6=0∨j % 6=1∨j % 6=2∨j % 6=3∨j % 6=4∨j % 6=5:=by lia
   generalize j % 6=z at hz
   rcases hz with rfl|rfl|rfl|rfl|rfl|rfl <;> exact⟨_,rfl,by decide⟩
  walk_at "w"
  refine r_ixL (by walk_at "hf") hpr ?_
  walk_at "w"
  refine k _ _ (by walk_at "sm") ⟨Int.emod_nonneg _ (by lia),Int.emod_lt_of_pos _ hm⟩
theorem sc_law_signed:FnScope ["_law_cell_here","_law_k","_law_half"] ["_law_cell_here","_law_k","_law_half"] (defScope s_law_signed):=⟨rfl,rfl,rfl,by decide +kernel,rfl,by decide +kernel,by decide +kernel⟩
structure Os_law_signed (P:Program) (w:World) (K:PySem.W.Frag) (mg:Str→Option Value) (base:Heap) (G:Adr):Prop where
 law_part:Ok P w K mg base 1 "_law_part" ["_law_cell_here","_law_k","_law_many"] (sp_law_part K)
theorem ok_law_signed (D:Def K mg "_law_signed" s_law_signed ["_law_cell_here","_law_k","_law_half"]) (T:Txt P w K mg G) (O:Os_law_signed P w K mg base G):Ok P w K mg base 2 "_law_signed" ["_law_cell_here","_law_k","_law_half"] (sp_law_signed K):=by
 have S:=sc_law_signed
 refine D.ok S (fun vs H Q E h=>?_) (fun f cdv A outer s H vs Q E hr h=>?_)
 ·obtain ⟨c,j,h,rfl,hj,hh,k⟩:=h;rfl
 ·obtain ⟨c,j,h,rfl,hj,hh,k⟩:=h
  have hu:=hu_of hr
  have q_ONE:=T.q_ONE
  have q_PRIMES:=T.q_PRIMES
  have q_BOUNDS:=T.q_BOUNDS
  refine⟨_,(pss_one (ps_ret (pe_op op_sub (pe_op op_mod (pe_op op_add (pcall O.law_part (hr.mono (by decide)) (pa_cons (pv 0) (pa_cons (pv 1) (pa_cons (pe_op op_add (pe_op op_mul pe_int (pv 2)) pe_int) pa_nil)))) (pv 2)) (pe_op op_add (pe_op op_mul pe_int (pv 2)) pe_int)) (pv 2)))),?_⟩
  walk_at "w"
  refine c_law_part hj (by lia) fun r H1 s1 hr=>?_
  walk_at "w"
  exact k _ _ s1 (by have:=Int.emod_nonneg (r+h) (show 2*h+1≠0 by lia);have:=Int.emod_lt_of_pos (r+h) (show 0<2*h+1 by lia);lia)
theorem sc_law_fraction:FnScope ["_law_row","_law_top","_law_bottom","_law_prime","_law_count","_law_turn"] ["_law_row"] (defScope s_law_fraction):=⟨rfl,rfl,rfl,by decide +kernel,rfl,by decide +kernel,by decide +kernel⟩
set_option maxHeartbeats 4000000 in
theorem ok_law_fraction (D:Def K mg "_law_fraction" s_law_fraction ["_law_row"]) (T:Txt P w K mg G):Ok P w K mg base 1 "_law_fraction" ["_law_row"] (sp_law_fraction K):=by
 have S:=sc_law_fraction
 refine D.ok S (fun vs H Q E h=>?_) (fun f cdv A outer s H vs Q E hr h=>?_)
 ·obtain ⟨a,e0,e1,e2,e3,e4,rfl,ha,hb,k⟩:=h;rfl
 ·obtain ⟨a,e0,e1,e2,e3,e4,rfl,ha,hb,k⟩:=h
  have hu:=hu_of hr
  have q_ONE:=T.q_ONE
  have q_PRIMES:=T.q_PRIMES
  have q_BOUNDS:=T.q_BOUNDS
  refine⟨_,(@pss_cons _ _ _ _ _ (ps_set (i:=1) S.nd rfl (Or.inl rfl) pe_int) (@pss_cons _ _ _ _ _ (ps_set (i:=2) S.nd rfl (Or.inl rfl) pe_int) (@pss_cons _ _ _ _ _ (ps_for PassesOwn.never rfl (kpi_zip2 K rfl false true rfl T.b_zip (@pa_cons _ _ _ _ _ (@pe_lstC _ _ _ _ (by rfl)) (@pa_cons _ _ _ _ _ (pv 0) pa_nil (by rfl)) (by rfl))) (kpg_tup (n:=2) K rfl rfl (pgs_cons (pg_name (i:=3) S.nd rfl (Or.inl rfl)) (pgs_cons (pg_name (i:=4) S.nd rfl (Or.inl rfl)) pgs_nil))) (pss_one (ps_for PassesOwn.never rfl (pi_range1 rfl T.b_range (pa_cons (pe_callB callN_abs rfl T.b_abs PyProof.Rows.boot_abs (pa_cons (pv 4) pa_nil)) pa_nil)) (pg_name (i:=5) S.nd rfl (Or.inl rfl)) (pss_one (ps_if (pt_cmpR op_gt (pv 4) pe_int (nomark _)) (pss_one (ps_set (i:=1) S.nd rfl (Or.inl rfl) (pe_op op_mul (pv 1) (pv 3)))) (pss_one (ps_set (i:=2) S.nd rfl (Or.inl rfl) (pe_op op_mul (pv 2) (pv 3))))))))) (pss_one (ps_ret (pe_tup (pa_cons (pv 1) (pa_cons (pv 2) pa_nil)))))))),?_⟩
  obtain ⟨⟨h1,h2⟩,⟨h3,h4⟩,⟨h5,h6⟩,⟨h7,h8⟩,⟨h9,h10⟩⟩:=hb
  walk_at "w"
  refine f_zip (by walk_at "hf") (by walk_at "hf") (by rfl) (fun i σ=>∃ o1 o2 o3,σ=[some (.ref a),some (.int (Mth.PPn e0 e1 e2 e3 e4 i)),some (.int (Mth.PPn (0 - e0) (0 - e1) (0 - e2) (0 - e3) (0 - e4) i)),o1,o2,o3]) ⟨_,_,_,rfl⟩ (fun i x y σ H2 hx hy hp s=>?_) (fun σ H2 hp s=>?_)
  ·obtain ⟨o1,o2,o3,rfl⟩:=hp
   have hi:i<5:=by have:=(List.getElem?_eq_some_iff.mp hx).1;simpa using this
   obtain ⟨p,e,rfl,rfl,hp,he,q1,q2⟩:∃ p e:Int,x=.int p∧y=.int e∧(-16<p∧p<16)∧(-4000≤e∧e≤4000)∧Mth.PPn e0 e1 e2 e3 e4 (i+1)=Mth.PPn e0 e1 e2 e3 e4 i*p ^ e.toNat∧Mth.PPn (0 - e0) (0 - e1) (0 - e2) (0 - e3) (0 - e4) (i+1)=Mth.PPn (0 - e0) (0 - e1) (0 - e2) (0 - e3) (0 - e4) i*p ^ (0 - e).toNat:=by
    match i,hi with
    | 0,_|1,_|2,_|3,_|4,_ =>
     cases hx
     cases hy
     exact⟨_,_,rfl,rfl,⟨by decide,by decide⟩,⟨by lia,by lia⟩,rfl,rfl⟩
   walk_at "w"
   refine f_rngE (fun j σ=>∃ o4,σ=[some (.ref a),some (.int (Mth.PPn e0 e1 e2 e3 e4 i*p ^ (if 0<e then j else 0))),some (.int (Mth.PPn (0 - e0) (0 - e1) (0 - e2) (0 - e3) (0 - e4) i*p ^ (if 0<e then 0 else j))),some (.int p),some (.int e),o4]) ⟨o3,by split <;> simp <;> rfl⟩ (fun j σ hj hp=>?_) (fun σ hp=>?_)
   ·obtain ⟨o4,rfl⟩:=hp
    walk_at "w"
    refine if_both (fun hc=>?_) (fun hc=>?_)
    ·have hc':0<e:=of_decide_eq_true hc
     simp only [hc',if_true]
     walk_at "w"
     exact⟨⟨_,by rw [Int.pow_succ,← Int.mul_assoc] <;> rfl⟩,rfl⟩
    ·have hc':¬ 0<e:=of_decide_eq_false hc
     simp only [hc',if_false]
     walk_at "w"
     exact⟨⟨_,by rw [Int.pow_succ,← Int.mul_assoc] <;> rfl⟩,rfl⟩
   obtain ⟨o4,rfl⟩:=hp
   rw [q1,q2]
   by_cases hc:0<e
   ·have t1:(if e<0 then -e else e).toNat=e.toNat:=by split <;> lia
    have t2:(0 - e).toNat=0:=by lia
    simp only [hc,if_true,t1,t2]
    exact⟨⟨_,_,_,rfl⟩,by walk_at "sm"⟩
   ·have t1:(if e<0 then -e else e).toNat=(0 - e).toNat:=by split <;> lia
    have t2:e.toNat=0:=by lia
    simp only [hc,if_false,t1,t2]
    exact⟨⟨_,_,_,rfl⟩,by walk_at "sm"⟩
  ·obtain ⟨o1,o2,o3,rfl⟩:=hp
   have k2:∀ p H',Same H H'→H' p=some (.tup [.int (Mth.PPn e0 e1 e2 e3 e4 5),.int (Mth.PPn (0 - e0) (0 - e1) (0 - e2) (0 - e3) (0 - e4) 5)])→Q (.ref p) H':=fun p H' s m=>k p H' s (by rw [Mth.PPn_top,Mth.PPn_bot] at m;exact m)
   walk_at "w"
   rename_i p9 H9 s9 m9
   exact k2 _ _ (by walk_at "sm") m9
theorem sc_law_folded:FnScope ["_law_row","_law_pair","_law_top","_law_bottom","_law_first"] ["_law_row"] (defScope s_law_folded):=⟨rfl,rfl,rfl,by decide +kernel,rfl,by decide +kernel,by decide +kernel⟩
structure Os_law_folded (P:Program) (w:World) (K:PySem.W.Frag) (mg:Str→Option Value) (base:Heap) (G:Adr):Prop where
 law_fraction:Ok P w K mg base 1 "_law_fraction" ["_law_row"] (sp_law_fraction K)
set_option maxHeartbeats 4000000 in
theorem ok_law_folded (D:Def K mg "_law_folded" s_law_folded ["_law_row"]) (T:Txt P w K mg G) (O:Os_law_folded P w K mg base G):Ok P w K mg base 2 "_law_folded" ["_law_row"] (sp_law_folded K):=by
 have S:=sc_law_folded
 refine D.ok S (fun vs H Q E h=>?_) (fun f cdv A outer s H vs Q E hr h=>?_)
 ·obtain ⟨a,r,rfl,ha,hb,k⟩:=h;rfl
 ·obtain ⟨a,r,rfl,ha,hb,k⟩:=h
  have hu:=hu_of hr
  have q_ONE:=T.q_ONE
  have q_PRIMES:=T.q_PRIMES
  have q_BOUNDS:=T.q_BOUNDS
  refine⟨_,(pss_cons (ps_set (i:=1) S.nd rfl (Or.inl rfl) (pcall O.law_fraction (hr.mono (by decide)) (pa_cons (pe_op (kop_catT K rfl) (pe_tup (pa_cons pe_int pa_nil)) (pe_slice (ksl_tup K rfl) (pv 0) (po_some pe_int) po_none)) pa_nil))) (pss_cons (ps_set (i:=2) S.nd rfl (Or.inl rfl) (pe_ix (kx_seq K rfl) (pv 1) pe_int (fun _ _=>rfl))) (pss_cons (ps_set (i:=3) S.nd rfl (Or.inl rfl) (pe_ix (kx_seq K rfl) (pv 1) pe_int (fun _ _=>rfl))) (pss_cons (ps_set (i:=4) S.nd rfl (Or.inl rfl) pe_int) (pss_cons (ps_while PassesOwn.never (pt_cmpR op_lt (pv 2) (pv 3) (nomark _)) (pss_cons (ps_set (i:=2) S.nd rfl (Or.inl rfl) (pe_op op_mul (pv 2) pe_int)) (pss_one (ps_set (i:=4) S.nd rfl (Or.inl rfl) (pe_op op_add (pv 4) pe_int))))) (pss_cons (ps_while PassesOwn.never (pt_cmpR op_ge (pv 2) (pe_op op_mul pe_int (pv 3)) (nomark _)) (pss_cons (ps_set (i:=3) S.nd rfl (Or.inl rfl) (pe_op op_mul (pv 3) pe_int)) (pss_one (ps_set (i:=4) S.nd rfl (Or.inl rfl) (pe_op op_sub (pv 4) pe_int))))) (pss_one (ps_ret (pe_op (kop_catT K rfl) (pe_tup (pa_cons (pv 4) pa_nil)) (pe_slice (ksl_tup K rfl) (pv 0) (po_some pe_int) po_none)))))))))),?_⟩
  obtain ⟨e0,e1,e2,e3,e4,rfl,b0,b1,b2,b3,b4⟩:=hb
  have ha':SqT K H a [.int e0,.int e1,.int e2,.int e3,.int e4]:=ha
  walk_at "w"
  refine c_law_fraction (e0:=0) (e1:=e1) (e2:=e2) (e3:=e3) (e4:=e4) (by walk_at "hf") (by unfold Mth.Bd;lia) fun p1 H1 s1 m1=>?_
  rw [Mth.top5_0,Mth.bot5_0] at m1
  have tb:=Mth.rt_lt (b:=e1) (c:=e2) (d:=e3) (e:=e4) (by lia) (by lia) (by lia) (by lia)
  have bb:=Mth.rb_lt (b:=e1) (c:=e2) (d:=e3) (e:=e4) (by lia) (by lia) (by lia) (by lia)
  have tp:=Mth.rt_pos e1 e2 e3 e4
  have bp:=Mth.rb_pos e1 e2 e3 e4
  have fij:=fun i j=>Mth.fold_ij (b:=e1) (c:=e2) (d:=e3) (e:=e4) (i:=i) (j:=j)
  generalize Mth.rt e1 e2 e3 e4=t at *
  generalize Mth.rb e1 e2 e3 e4=u at *
  have p2:∀ n:Nat,(0:Int)<2 ^ n:=Mth.pow2_pos
  repeat (first|with_reducible refine r_gname ?_|with_reducible refine r_seq ?_|with_reducible refine r_asg ?_|(with_reducible refine r_op ?_)|((with_reducible apply r_var);(exact rfl))|(with_reducible refine r_c ?_)|((with_reducible apply r_ixT);(walk_at "hf");(exact rfl)))
  refine join (fun σ' H'=>∃ i:Nat,σ'=[some (.ref a),some (.ref p1),some (.int (2 ^ i*t)),some (.int u),some (.int i)]∧H1=H'∧i≤400∧u≤2 ^ i*t) (fun nx kn=>?_) (fun σ' H' hp=>?_)
  ·refine f_while (fun m σ' H'=>∃ i:Nat,σ'=[some (.ref a),some (.ref p1),some (.int (2 ^ i*t)),some (.int u),some (.int i)]∧H1=H'∧i≤400∧m=400 - i) 400 ⟨0,by rw [Int.pow_zero,Int.one_mul] <;> rfl,rfl,by decide,rfl⟩ (fun m σ' H' hw=>?_)
   obtain ⟨i,rfl,rfl,hi,rfl⟩:=hw
   walk_at "w"
   refine if_both (fun hc=>?_) (fun hc=>?_)
   ·have hc':=of_decide_eq_true hc
    have hi2:i<400:=by
     refine Mth.pow2_lt (x:=2 ^ i*t) ?_ (by lia)
     have:=Int.mul_le_mul_of_nonneg_left tp (Int.le_of_lt (p2 i))
     lia
    refine w_go ?_
    walk_at "w"
    refine⟨_,by lia,i+1,?_,rfl,by lia,rfl⟩
    rw [Int.pow_succ,Int.mul_right_comm]
    rfl
   ·exact kn _ _ ⟨i,rfl,rfl,hi,Int.not_lt.mp (of_decide_eq_false hc)⟩
  obtain ⟨i,rfl,rfl,hi,hui⟩:=hp
  have hti:2 ^ i*t<2 ^ 801:=by
   have h1:(2:Int) ^ i≤2 ^ 400:=Mth.pow2_mono hi
   have h2:2 ^ i*t≤2 ^ 400*t:=Int.mul_le_mul_of_nonneg_right h1 (by lia)
   have h3:(2:Int) ^ 400*t<2 ^ 400*2 ^ 400:=Int.mul_lt_mul_of_pos_left tb (p2 400)
   have h4:(2:Int) ^ 400*2 ^ 400<2 ^ 801:=by decide
   lia
  with_reducible refine r_seq ?_
  refine join (fun σ' H'=>∃ j:Nat,σ'=[some (.ref a),some (.ref p1),some (.int (2 ^ i*t)),some (.int (2 ^ j*u)),some (.int ((i:Int) - j))]∧H1=H'∧j≤801∧2 ^ j*u≤2 ^ i*t∧2 ^ i*t<2*(2 ^ j*u)) (fun nx kn=>?_) (fun σ' H' hp=>?_)
  ·refine f_while (fun m σ' H'=>∃ j:Nat,σ'=[some (.ref a),some (.ref p1),some (.int (2 ^ i*t)),some (.int (2 ^ j*u)),some (.int ((i:Int) - j))]∧H1=H'∧j≤801∧2 ^ j*u≤2 ^ i*t∧m=801 - j) 801 ⟨0,by rw [Int.pow_zero,Int.one_mul,show (i:Int) - ((0:Nat):Int)=i by lia] <;> rfl,rfl,by decide,by simpa using hui,rfl⟩ (fun m σ' H' hw=>?_)
   obtain ⟨j,rfl,rfl,hj,hju,rfl⟩:=hw
   walk_at "w"
   refine if_both (fun hc=>?_) (fun hc=>?_)
   ·have hc':=of_decide_eq_true hc
    have hj2:j<801:=by
     refine Mth.pow2_lt (x:=2 ^ i*t) ?_ hti
     have:=Int.mul_le_mul_of_nonneg_left bp (Int.le_of_lt (p2 j))
     lia
    refine w_go ?_
    walk_at "w"
    refine⟨_,by lia,j+1,?_,rfl,by lia,?_,rfl⟩
    ·rw [Int.pow_succ,Int.mul_right_comm,show (i:Int) - ((j+1:Nat):Int)=(i:Int) - j - 1 by lia]
     rfl
    ·rw [Int.pow_succ,Int.mul_right_comm];lia
   ·exact kn _ _ ⟨j,rfl,rfl,hj,hju,Int.not_le.mp (of_decide_eq_false hc)⟩
  obtain ⟨j,rfl,rfl,hj,hj1,hj2⟩:=hp
  walk_at "w"
  rename_i p9 H9 s9 m9
  have fo:=Mth.fold_oct e0 e1 e2 e3 e4
  have fb:=Mth.fold_bd b1 b2 b3 b4 fo
  have en:(i:Int) - j=e0 - Mth.octR (Mth.top5 e0 e1 e2 e3 e4) (Mth.bot5 e0 e1 e2 e3 e4):=Mth.fold_uniq (by unfold Mth.Bd;lia) (by unfold Mth.Bd;lia) (fij i j hj1 hj2) fo
  rw [en] at m9
  exact k _ _ (by walk_at "sm") m9
theorem sc_law_plus:FnScope ["_law_one","_law_other"] ["_law_one","_law_other"] (defScope s_law_plus):=⟨rfl,rfl,rfl,by decide +kernel,rfl,by decide +kernel,by decide +kernel⟩
theorem ok_law_plus (D:Def K mg "_law_plus" s_law_plus ["_law_one","_law_other"]) (T:Txt P w K mg G):Ok P w K mg base 1 "_law_plus" ["_law_one","_law_other"] (sp_law_plus K):=by
 have S:=sc_law_plus
 refine D.ok S (fun vs H Q E h=>?_) (fun f cdv A outer s H vs Q E hr h=>?_)
 ·obtain ⟨a,b,a0,a1,a2,a3,a4,b0,b1,b2,b3,b4,rfl,ha,hb,k⟩:=h;rfl
 ·obtain ⟨a,b,a0,a1,a2,a3,a4,b0,b1,b2,b3,b4,rfl,ha,hb,k⟩:=h
  have hu:=hu_of hr
  have q_ONE:=T.q_ONE
  have q_PRIMES:=T.q_PRIMES
  have q_BOUNDS:=T.q_BOUNDS
  refine⟨_,(pss_one (ps_ret (pe_callTy (kN_tuple K rfl) rfl T.b_tuple PyProof.Rows.boot_tuple (pa_cons (pe_comp (N:=["_law_x","_law_y"]) (ix:=[none,none]) rfl (kpi_zip2 K rfl true true rfl T.b_zip (pa_cons (pv 0) (pa_cons (pv 1) pa_nil))) (fun _ _ _ _ _=>(kpg_tup (n:=2) K rfl rfl (pgs_cons (pg_name (i:=0) (show List.Nodup (["_law_x","_law_y"]:List Str) by decide +kernel) rfl (Or.inl rfl)) (pgs_cons (pg_name (i:=1) (show List.Nodup (["_law_x","_law_y"]:List Str) by decide +kernel) rfl (Or.inl rfl)) pgs_nil)))) (fun _ _ _ _ _=>rfl) (fun _ _ _ _ _=>(pe_op op_add (pv 0) (pv 1))) rfl (by decide +kernel) (by decide +kernel) rfl True.intro) pa_nil)))),?_⟩
  refine⟨_,rfl,_,rfl,a,b,rfl,⟨_,ha⟩,⟨_,hb⟩,rd_zipRows (r:=[a0,a1,a2,a3,a4]) (q:=[b0,b1,b2,b3,b4]) (·+·) rfl ha hb rfl (by show 5≤1000;decide) fun l H' hl hs hl'=>?_⟩
  exact r_tupleL (SqL.of hl') fun p H2 s2 m=>k p H2 (hs.trans s2) m
theorem sc_law_less:FnScope ["_law_one","_law_other"] ["_law_one","_law_other"] (defScope s_law_less):=⟨rfl,rfl,rfl,by decide +kernel,rfl,by decide +kernel,by decide +kernel⟩
theorem ok_law_less (D:Def K mg "_law_less" s_law_less ["_law_one","_law_other"]) (T:Txt P w K mg G):Ok P w K mg base 1 "_law_less" ["_law_one","_law_other"] (sp_law_less K):=by
 have S:=sc_law_less
 refine D.ok S (fun vs H Q E h=>?_) (fun f cdv A outer s H vs Q E hr h=>?_)
 ·obtain ⟨a,b,a0,a1,a2,a3,a4,b0,b1,b2,b3,b4,rfl,ha,hb,k⟩:=h;rfl
 ·obtain ⟨a,b,a0,a1,a2,a3,a4,b0,b1,b2,b3,b4,rfl,ha,hb,k⟩:=h
  have hu:=hu_of hr
  have q_ONE:=T.q_ONE
  have q_PRIMES:=T.q_PRIMES
  have q_BOUNDS:=T.q_BOUNDS
  refine⟨_,(pss_one (ps_ret (pe_callTy (kN_tuple K rfl) rfl T.b_tuple PyProof.Rows.boot_tuple (pa_cons (pe_comp (N:=["_law_x","_law_y"]) (ix:=[none,none]) rfl (kpi_zip2 K rfl true true rfl T.b_zip (pa_cons (pv 0) (pa_cons (pv 1) pa_nil))) (fun _ _ _ _ _=>(kpg_tup (n:=2) K rfl rfl (pgs_cons (pg_name (i:=0) (show List.Nodup (["_law_x","_law_y"]:List Str) by decide +kernel) rfl (Or.inl rfl)) (pgs_cons (pg_name (i:=1) (show List.Nodup (["_law_x","_law_y"]:List Str) by decide +kernel) rfl (Or.inl rfl)) pgs_nil)))) (fun _ _ _ _ _=>rfl) (fun _ _ _ _ _=>(pe_op op_sub (pv 0) (pv 1))) rfl (by decide +kernel) (by decide +kernel) rfl True.intro) pa_nil)))),?_⟩
  refine⟨_,rfl,_,rfl,a,b,rfl,⟨_,ha⟩,⟨_,hb⟩,rd_zipRows (r:=[a0,a1,a2,a3,a4]) (q:=[b0,b1,b2,b3,b4]) (· - ·) rfl ha hb rfl (by show 5≤1000;decide) fun l H' hl hs hl'=>?_⟩
  exact r_tupleL (SqL.of hl') fun p H2 s2 m=>k p H2 (hs.trans s2) m
theorem sc_law_lower:FnScope ["_law_one","_law_other","_law_pair"] ["_law_one","_law_other"] (defScope s_law_lower):=⟨rfl,rfl,rfl,by decide +kernel,rfl,by decide +kernel,by decide +kernel⟩
structure Os_law_lower (P:Program) (w:World) (K:PySem.W.Frag) (mg:Str→Option Value) (base:Heap) (G:Adr):Prop where
 law_fraction:Ok P w K mg base 1 "_law_fraction" ["_law_row"] (sp_law_fraction K)
 law_less:Ok P w K mg base 1 "_law_less" ["_law_one","_law_other"] (sp_law_less K)
theorem ok_law_lower (D:Def K mg "_law_lower" s_law_lower ["_law_one","_law_other"]) (T:Txt P w K mg G) (O:Os_law_lower P w K mg base G):Ok P w K mg base 2 "_law_lower" ["_law_one","_law_other"] (sp_law_lower K):=by
 have S:=sc_law_lower
 refine D.ok S (fun vs H Q E h=>?_) (fun f cdv A outer s H vs Q E hr h=>?_)
 ·obtain ⟨a,b,r,q,rfl,ha,hb,h1,h2,k⟩:=h;rfl
 ·obtain ⟨a,b,r,q,rfl,ha,hb,h1,h2,k⟩:=h
  have hu:=hu_of hr
  have q_ONE:=T.q_ONE
  have q_PRIMES:=T.q_PRIMES
  have q_BOUNDS:=T.q_BOUNDS
  refine⟨_,(pss_cons (ps_set (i:=2) S.nd rfl (Or.inl rfl) (pcall O.law_fraction (hr.mono (by decide)) (pa_cons (pcall O.law_less (hr.mono (by decide)) (pa_cons (pv 0) (pa_cons (pv 1) pa_nil))) pa_nil))) (pss_one (ps_ret (pe_cmpR op_lt (pe_ix (kx_seq K rfl) (pv 2) pe_int (fun _ _=>rfl)) (pe_ix (kx_seq K rfl) (pv 2) pe_int (fun _ _=>rfl)) (nomark _))))),?_⟩
  have d1:=h1.bd (by decide) (by decide)
  have d2:=h2.bd (by decide) (by decide)
  obtain ⟨a0,a1,a2,a3,a4,rfl,_⟩:=h1
  obtain ⟨c0,c1,c2,c3,c4,rfl,_⟩:=h2
  have ha':SqT K H a [.int a0,.int a1,.int a2,.int a3,.int a4]:=ha
  have hb':SqT K H b [.int c0,.int c1,.int c2,.int c3,.int c4]:=hb
  walk_at "w"
  refine c_law_fraction (by walk_at "hf") (by unfold Mth.Bd;lia) fun p1 H1 s1 m1=>?_
  walk_at "w"
  have e:decide (Mth.top5 (a0 - c0) (a1 - c1) (a2 - c2) (a3 - c3) (a4 - c4)<Mth.bot5 (a0 - c0) (a1 - c1) (a2 - c2) (a3 - c3) (a4 - c4))=decide (nsr [a0,a1,a2,a3,a4]<nsr [c0,c1,c2,c3,c4]):=decide_eq_decide.mpr (Mth.lt_NS d1 d2)
  rw [e]
  exact k _ (by walk_at "sm")
theorem sc_law_scale:FnScope ["_law_rows_here","_law_scale_here","_law_row","_law_at"] ["_law_rows_here"] (defScope s_law_scale):=⟨rfl,rfl,rfl,by decide +kernel,rfl,by decide +kernel,by decide +kernel⟩
structure Os_law_scale (P:Program) (w:World) (K:PySem.W.Frag) (mg:Str→Option Value) (base:Heap) (G:Adr):Prop where
 law_lower:Ok P w K mg base 2 "_law_lower" ["_law_one","_law_other"] (sp_law_lower K)
set_option maxHeartbeats 4000000 in
theorem ok_law_scale (D:Def K mg "_law_scale" s_law_scale ["_law_rows_here"]) (T:Txt P w K mg G) (O:Os_law_scale P w K mg base G):Ok P w K mg base 3 "_law_scale" ["_law_rows_here"] (sp_law_scale K):=by
 have S:=sc_law_scale
 refine D.ok S (fun vs H Q E h=>?_) (fun f cdv A outer s H vs Q E hr h=>?_)
 ·obtain ⟨a,xs,rs,rfl,ha,hra,hb,hn,k⟩:=h;rfl
 ·obtain ⟨a,xs,rs,rfl,ha,hra,hb,hn,k⟩:=h
  have hu:=hu_of hr
  have q_ONE:=T.q_ONE
  have q_PRIMES:=T.q_PRIMES
  have q_BOUNDS:=T.q_BOUNDS
  refine⟨_,(pss_cons (ps_set (i:=1) S.nd rfl (Or.inl rfl) (pe_lst pa_nil)) (pss_cons (ps_for PassesOwn.never rfl (kpi_list K rfl (pv 0)) (pg_name (i:=2) S.nd rfl (Or.inl rfl)) (pss_one (ps_if (pt_cmpR (kop_notInD K rfl hr.units) (pv 2) (pv 1) (by with_unfolding_all rfl)) (pss_cons (ps_set (i:=3) S.nd rfl (Or.inl rfl) pe_int) (pss_cons (ps_while PassesOwn.never (PW.pt (pw_and (pt_cmpR op_lt (pv 3) (pe_callB (kN_len K rfl) rfl T.b_len PySem.boot_len (pa_cons (pv 1) pa_nil)) (nomark _)) (pw_and1 (pt_val (pcall O.law_lower (hr.mono (by decide)) (pa_cons (pe_ix (kx_seq K rfl) (pv 1) (pv 3) (fun _ _=>rfl)) (pa_cons (pv 2) pa_nil))))))) (pss_one (ps_set (i:=3) S.nd rfl (Or.inl rfl) (pe_op op_add (pv 3) pe_int)))) (pss_one (ps_expr (pe_bm PySem.F.plainAttrs_list PySem.F.slot_list_insert PySem.F.type_list_insert mt_insert (pv 1) (pa_cons (pv 3) (pa_cons (pv 2) pa_nil))))))) pss_nil))) (pss_one (ps_ret (pv 1))))),?_⟩
  walk_at "w"
  rename_i l H1 n1 s1 m1
  refine f_invL (xs:=xs) (fun i σ H2=>∃ (o1 o2:Option V) (ys:List V) (qs:List (List Int)),σ=[some (.ref a),some (.ref l),o1,o2]∧Same H H2∧H2 l=some (.lst ys)∧RowsL K H2 ys qs∧(qs.Pairwise fun x y=>nsr x<nsr y)∧(∀ q,q∈qs↔q∈rs.take i)∧qs.length≤i) ⟨_,_,[],[],rfl,s1,m1,.nil,.nil,(by simp),Nat.le_refl _⟩ (fun i σ H2 hp=>?_) (fun i x σ H2 hx hp=>?_) (fun σ H2 hp=>?_)
  ·obtain ⟨_,_,_,_,_,s2,_⟩:=hp
   exact s2.seq ha
  ·obtain ⟨o1,o2,ys,qs,rfl,s2,m2,hr2,hso,hqi,hle⟩:=hp
   have hqr:∀ q∈qs,q∈rs:=fun q hq=>List.mem_of_mem_take ((hqi q).mp hq)
   have hi:i<xs.length:=(List.getElem?_eq_some_iff.mp hx).1
   have hlx:=hra.length
   obtain ⟨b,r,rfl,hbr,hri⟩:=(hra.same s2).get hx
   have hrm:r∈rs:=List.mem_of_getElem? hri
   have htk:rs.take (i+1)=rs.take i++[r]:=by rw [List.take_add_one,hri];rfl
   have hly:=hr2.length
   walk_at "w"
   refine r_notInD (SqL.of m2) hr2.tells (Tell.row hbr) (lay_rows _) (lay_row _) (Nat.le_trans (deep_row r) (by decide)) ?_
   rw [any_rows]
   walk_at "w"
   refine if_both (fun hc=>?_) (fun hc=>?_)
   ·have hc':r∉qs:=by simpa using hc
    repeat (first|with_reducible refine r_gname ?_|with_reducible refine r_seq ?_|with_reducible refine r_asg ?_|(with_reducible refine r_c ?_))
    refine join (fun σ' H'=>∃ n:Nat,σ'=[some (.ref a),some (.ref l),some (.ref b),some (.int n)]∧Same H2 H'∧n≤qs.length∧(∀ j q,j<n→qs[j]?=some q→nsr q<nsr r)∧∀ q,qs[n]?=some q→¬ nsr q<nsr r) (fun nx kn=>?_) (fun σ' H3 hp=>?_)
    ·refine f_while (fun m σ' H'=>∃ n:Nat,σ'=[some (.ref a),some (.ref l),some (.ref b),some (.int n)]∧Same H2 H'∧n≤qs.length∧(∀ j q,j<n→qs[j]?=some q→nsr q<nsr r)∧m=qs.length - n) qs.length ⟨0,rfl,Same.refl _,Nat.zero_le _,(fun j q h=>absurd h (Nat.not_lt_zero _)),rfl⟩ (fun m σ' H3 hw=>?_)
     obtain ⟨n,rfl,s3,hn1,hn2,rfl⟩:=hw
     have m3:=s3 _ _ m2
     walk_at "w"
     refine if_both (fun hc1=>?_) (fun hc1=>?_)
     ·have hlt:n<qs.length:=by have:=of_decide_eq_true hc1;lia
      obtain ⟨b2,hx2,hb2⟩:=(hr2.same s3).row (List.getElem?_eq_getElem hlt)
      walk_at "w"
      refine r_ixL (SqL.of m3) (atI_nat hx2) ?_
      walk_at "w"
      refine c_law_lower hb2 (s3.at hbr) (hb _ (hqr _ (List.getElem_mem hlt))).1 (hb r hrm).1 fun H4 s4=>?_
      walk_at "w"
      refine if_both (fun hc2=>?_) (fun hc2=>?_)
      ·have hc2':=of_decide_eq_true hc2
       refine w_go ?_
       walk_at "w"
       refine⟨_,by lia,n+1,rfl,s3.trans s4,hlt,fun j q hj hq=>?_,rfl⟩
       rcases Nat.lt_succ_iff_lt_or_eq.mp hj with z|rfl
       ·exact hn2 j q z hq
       ·rw [List.getElem?_eq_getElem hlt] at hq
        cases hq
        exact hc2'
      ·refine kn _ _ ⟨n,rfl,s3.trans s4,hn1,hn2,fun q hq=>?_⟩
       rw [List.getElem?_eq_getElem hlt] at hq
       cases hq
       exact of_decide_eq_false hc2
     ·refine iteF ?_
      refine kn _ _ ⟨n,rfl,s3,hn1,hn2,fun q hq=>?_⟩
      have:=(List.getElem?_eq_some_iff.mp hq).1
      have:=of_decide_eq_false hc1
      lia
    obtain ⟨n,rfl,s3,hn1,hn2,hn3⟩:=hp
    have m3:=s3 _ _ m2
    walk_at "w"
    refine r_insert m3 (by lia) (by lia) ?_
    refine⟨_,_,_,qs.take n++r::qs.drop n,rfl,(s2.trans s3).upd_old n1,upd_same,?_,?_,fun q=>?_,?_⟩
    ·have hr3:=hr2.same s3
     exact ((hr3.take n).append (.cons (s3.at hbr) (hr3.drop n))).off m3
    ·refine Mth.pw_ins nsr hso hn2 fun q hq=>?_
     have h1:=hn3 q hq
     have h2:nsr q≠nsr r:=fun z=>by
      have e:=nsr_inj (hb q (hqr q (List.mem_of_getElem? hq))).1 (hb r hrm).1 (by decide) (by decide) z
      rw [e] at hq
      exact hc' (List.mem_of_getElem? hq)
     lia
    ·have e1:(q∈rs.take (i+1))↔(q∈qs∨q=r):=by rw [htk,List.mem_append,List.mem_singleton,← hqi q]
     rw [e1,List.mem_append,List.mem_cons]
     have hsp:q∈qs↔(q∈qs.take n∨q∈qs.drop n):=by rw [← List.mem_append,List.take_append_drop]
     rw [hsp]
     constructor
     ·rintro (z|rfl|z)
      ·exact .inl (.inl z)
      ·exact .inr rfl
      ·exact .inl (.inr z)
     ·rintro ((z|z)|rfl)
      ·exact .inl z
      ·exact .inr (.inr z)
      ·exact .inr (.inl rfl)
    ·simp only [List.length_append,List.length_cons,List.length_take,List.length_drop]
     lia
   ·walk_at "w"
    refine⟨_,_,ys,qs,rfl,s2,m2,hr2,hso,fun q=>?_,by lia⟩
    have hc':r∈qs:=by simpa using hc
    have e1:(q∈rs.take (i+1))↔(q∈qs∨q=r):=by rw [htk,List.mem_append,List.mem_singleton,← hqi q]
    rw [e1]
    exact⟨.inl,fun w=>w.elim id fun e=>e ▸ hc'⟩
  ·obtain ⟨o1,o2,ys,qs,rfl,s2,m2,hr2,hso,hqi,hle⟩:=hp
   have hlx:=hra.length
   rw [List.take_of_length_le (by lia)] at hqi
   walk_at "w"
   exact k _ ys qs _ s2 m2 hr2 hso hqi (by lia)
theorem sc_law_within:FnScope ["_law_row","_law_first","_law_half"] ["_law_row","_law_first","_law_half"] (defScope s_law_within):=⟨rfl,rfl,rfl,by decide +kernel,rfl,by decide +kernel,by decide +kernel⟩
theorem ok_law_within (D:Def K mg "_law_within" s_law_within ["_law_row","_law_first","_law_half"]) (T:Txt P w K mg G):Ok P w K mg base 1 "_law_within" ["_law_row","_law_first","_law_half"] (sp_law_within K):=by
 have S:=sc_law_within
 refine D.ok S (fun vs H Q E h=>?_) (fun f cdv A outer s H vs Q E hr h=>?_)
 ·obtain ⟨a,r,rfl,ha,hb,k⟩:=h;rfl
 ·obtain ⟨a,r,rfl,ha,hb,k⟩:=h
  have hu:=hu_of hr
  have q_ONE:=T.q_ONE
  have q_PRIMES:=T.q_PRIMES
  have q_BOUNDS:=T.q_BOUNDS
  refine⟨_,(pss_one (ps_ret (pe_and (pe_cmpR op_le (pe_callB callN_abs rfl T.b_abs PyProof.Rows.boot_abs (pa_cons (pe_ix (kx_seq K rfl) (pv 0) pe_int (fun _ _=>rfl)) pa_nil)) (pv 1) (nomark _)) (pe_one (pe_cmpR op_le (pe_callB (kN_maxL K rfl rfl) rfl T.b_max PyProof.Rows.boot_max (pa_cons (pe_comp (N:=["_law_number"]) (ix:=[none]) rfl (kpi_tup K rfl (pe_slice (ksl_tup K rfl) (pv 0) (po_some pe_int) po_none)) (fun _ _ _ _ _=>(pg_name (i:=0) (show List.Nodup (["_law_number"]:List Str) by decide +kernel) rfl (Or.inl rfl))) (fun _ _ _ _ _=>rfl) (fun _ _ _ _ _=>(pe_callB callN_abs rfl T.b_abs PyProof.Rows.boot_abs (pa_cons (pv 0) pa_nil))) rfl (by decide +kernel) (by decide +kernel) rfl True.intro) pa_nil)) (pv 2) (nomark _)))))),?_⟩
  obtain ⟨x0,x1,x2,x3,x4,rfl,b0,b1,b2,b3,b4⟩:=hb
  have ha':SqT K H a [.int x0,.int x1,.int x2,.int x3,.int x4]:=ha
  walk_at "w"
  refine if_tt (decide_eq_true (by split <;> lia)) ?_
  walk_at "w"
  refine rd_mapRow (r:=[x1,x2,x3,x4]) (fun x=>.int (if x<0 then -x else x)) [] rfl (by walk_at "hf") (Nat.le_of_ble_eq_true rfl) (fun x H' Qc _ s kc=>?_) (fun l H2 hl s2 m2=>?_)
  ·walk_at "w"
   exact kc _ (Same.refl _)
  walk_at "w"
  refine r_maxL (ns:=[if x1<0 then -x1 else x1,if x2<0 then -x2 else x2,if x3<0 then -x3 else x3,if x4<0 then -x4 else x4]) (SqL.of m2) (List.cons_ne_nil _ _) fun m hm1 hm2=>?_
  have e:decide (m≤30)=ok30 [x0,x1,x2,x3,x4]:=ok30_max hm1 hm2
  walk_at "w"
  rw [e]
  exact k _ (by walk_at "sm")
theorem sc_law_is_row:FnScope ["_law_found"] ["_law_found"] (defScope s_law_is_row):=⟨rfl,rfl,rfl,by decide +kernel,rfl,by decide +kernel,by decide +kernel⟩
theorem ok_law_is_row (D:Def K mg "_law_is_row" s_law_is_row ["_law_found"]) (T:Txt P w K mg G):Ok P w K mg base 1 "_law_is_row" ["_law_found"] (sp_law_is_row K):=by
 have S:=sc_law_is_row
 refine D.ok S (fun vs H Q E h=>?_) (fun f cdv A outer s H vs Q E hr h=>?_)
 ·obtain ⟨a,e0,e1,e2,e3,e4,rfl,ha,k⟩:=h;rfl
 ·obtain ⟨a,e0,e1,e2,e3,e4,rfl,ha,k⟩:=h
  have hu:=hu_of hr
  have q_ONE:=T.q_ONE
  have q_PRIMES:=T.q_PRIMES
  have q_BOUNDS:=T.q_BOUNDS
  refine⟨_,(pss_cons (ps_if (PW.pt (pw_or (pt_not (pt_val (pe_callB (kN_isinst K rfl) rfl T.b_isinstance PyProof.Rows.boot_isinstance (pa_cons (pv 0) (pa_cons (pe_bltn (v:=V.ty "tuple") rfl T.b_tuple PyProof.Rows.boot_tuple rfl) pa_nil))))) (pw_or1 (pt_cmpR op_ne (pe_callB (kN_len K rfl) rfl T.b_len PySem.boot_len (pa_cons (pv 0) pa_nil)) pe_int (nomark _))))) (pss_one (ps_ret pe_bl)) pss_nil) (pss_one (ps_ret (pe_callB (kN_all K rfl rfl) rfl T.b_all PyProof.Rows.boot_all (pa_cons (pe_comp (N:=["_law_number"]) (ix:=[none]) rfl (kpi_tup K rfl (pv 0)) (fun _ _ _ _ _=>(pg_name (i:=0) (show List.Nodup (["_law_number"]:List Str) by decide +kernel) rfl (Or.inl rfl))) (fun _ _ _ _ _=>rfl) (fun _ _ _ _ _=>(pe_and (pe_callB (kN_isinst K rfl) rfl T.b_isinstance PyProof.Rows.boot_isinstance (pa_cons (pv 0) (pa_cons (pe_bltn (v:=V.ty "int") rfl T.b_int PyProof.Rows.boot_int rfl) pa_nil))) (pe_one (pe_not (pe_callB (kN_isinst K rfl) rfl T.b_isinstance PyProof.Rows.boot_isinstance (pa_cons (pv 0) (pa_cons (pe_bltn (v:=V.ty "bool") rfl T.b_bool PyProof.Rows.boot_bool rfl) pa_nil))))))) rfl (by decide +kernel) (by decide +kernel) rfl True.intro) pa_nil))))),?_⟩
  walk_at "w"
  refine if_ff rfl ?_
  walk_at "w"
  refine if_ff rfl ?_
  walk_at "w"
  refine rd_row5 (fun _=>.bl true) [] rfl ha (fun x H' Qc s kc=>?_) (fun l H1 hl s1 m1=>?_)
  ·walk_at "w"
   refine iteT ?_
   walk_at "w"
   exact kc _ (Same.refl _)
  walk_at "w"
  refine r_all (bs:=[true,true,true,true,true]) (SqL.of m1) ?_
  exact k _ s1
theorem sc_law_rows:FnScope ["_law_found","_law_due","_law_k"] ["_law_found","_law_due"] (defScope s_law_rows):=⟨rfl,rfl,rfl,by decide +kernel,rfl,by decide +kernel,by decide +kernel⟩
structure Os_law_rows (P:Program) (w:World) (K:PySem.W.Frag) (mg:Str→Option Value) (base:Heap) (G:Adr):Prop where
 law_is_row:Ok P w K mg base 1 "_law_is_row" ["_law_found"] (sp_law_is_row K)
theorem ok_law_rows (D:Def K mg "_law_rows" s_law_rows ["_law_found","_law_due"]) (T:Txt P w K mg G) (O:Os_law_rows P w K mg base G):Ok P w K mg base 2 "_law_rows" ["_law_found","_law_due"] (sp_law_rows K):=by
 have S:=sc_law_rows
 refine D.ok S (fun vs H Q E h=>?_) (fun f cdv A outer s H vs Q E hr h=>?_)
 ·obtain ⟨l,m,xs,ys,rs,rfl,h1,h2,h3,h4,hb,hn,k⟩:=h;rfl
 ·obtain ⟨l,m,xs,ys,rs,rfl,h1,h2,h3,h4,hb,hn,k⟩:=h
  have hu:=hu_of hr
  have q_ONE:=T.q_ONE
  have q_PRIMES:=T.q_PRIMES
  have q_BOUNDS:=T.q_BOUNDS
  refine⟨_,(pss_cons (ps_if (PW.pt (pw_or (pt_not (pt_val (pe_callB (kN_isinst K rfl) rfl T.b_isinstance PyProof.Rows.boot_isinstance (pa_cons (pv 0) (pa_cons (pe_bltn (v:=V.ty "list") rfl T.b_list PyProof.Rows.boot_list rfl) pa_nil))))) (pw_or1 (pt_cmpR op_ne (pe_callB (kN_len K rfl) rfl T.b_len PySem.boot_len (pa_cons (pv 0) pa_nil)) (pe_callB (kN_len K rfl) rfl T.b_len PySem.boot_len (pa_cons (pv 1) pa_nil)) (nomark _))))) (pss_one (ps_ret pe_bl)) pss_nil) (pss_cons (ps_for PassesOwn.never rfl (pi_range1 rfl T.b_range (pa_cons (pe_callB (kN_len K rfl) rfl T.b_len PySem.boot_len (pa_cons (pv 1) pa_nil)) pa_nil)) (pg_name (i:=2) S.nd rfl (Or.inl rfl)) (pss_one (ps_if (PW.pt (pw_or (pt_not (pt_val (pcall O.law_is_row (hr.mono (by decide)) (pa_cons (pe_ix (kx_seq K rfl) (pv 0) (pv 2) (fun _ _=>rfl)) pa_nil)))) (pw_or1 (pt_cmpR (kop_neD K rfl hr.units) (pe_ix (kx_seq K rfl) (pv 0) (pv 2) (fun _ _=>rfl)) (pe_ix (kx_seq K rfl) (pv 1) (pv 2) (fun _ _=>rfl)) (nomark _))))) (pss_one (ps_ret pe_bl)) pss_nil))) (pss_one (ps_ret pe_bl)))),?_⟩
  have l3:=h3.length
  have l4:=h4.length
  walk_at "w"
  refine if_ff rfl ?_
  walk_at "w"
  refine if_ff (by simp;lia) ?_
  walk_at "w"
  refine f_rng (fun i σ=>∃ o,σ=[some (.ref l),some (.ref m),o]) ⟨_,rfl⟩ (fun i σ H2 hi hp s=>?_) (fun σ H2 hp s=>?_)
  ·obtain ⟨o,rfl⟩:=hp
   have hi':i<rs.length:=by simp at hi;lia
   obtain ⟨b,hxb,hb1⟩:=(h3.same s).row (List.getElem?_eq_getElem hi')
   obtain ⟨c,hyc,hc1⟩:=(h4.same s).row (List.getElem?_eq_getElem hi')
   rw [show (0:Int)+(i:Int)=(i:Int) by lia]
   have rbi:=hb _ (List.getElem_mem hi')
   generalize rs[i]=r at *
   obtain ⟨a0,a1,a2,a3,a4,rfl⟩:=rbi
   have hb2:SqT K H2 b [.int a0,.int a1,.int a2,.int a3,.int a4]:=hb1
   walk_at "w"
   refine r_ixL (s.seq h1) (atI_nat hxb) ?_
   walk_at "w"
   rename_i H3 s3
   refine iteF ?_
   walk_at "w"
   refine r_ixL (by walk_at "hf") (atI_nat hxb) ?_
   walk_at "w"
   refine r_ixL (by walk_at "hf") (atI_nat hyc) ?_
   refine r_neD (Tell.row (s3.at hb1)) (Tell.row (s3.at hc1)) (shaped_row _) (shaped_row _) ?_
   rw [eqv_row,decide_eq_true rfl]
   walk_at "w"
   refine iteF ?_
   walk_at "w"
   exact⟨⟨_,rfl⟩,by walk_at "sm"⟩
  ·obtain ⟨o,rfl⟩:=hp
   walk_at "w"
   exact k _ s
theorem sc_law_word:FnScope ["_law_cell_here","_law_letter","_law_row","_law_name","_law_half","_law_pairs","_law_steps","_law_k","_law_count","_law_turn","_law_octave"] ["_law_cell_here"] (defScope s_law_word):=⟨rfl,rfl,rfl,by decide +kernel,rfl,by decide +kernel,by decide +kernel⟩
structure Os_law_word (P:Program) (w:World) (K:PySem.W.Frag) (mg:Str→Option Value) (base:Heap) (G:Adr):Prop where
 law_part:Ok P w K mg base 1 "_law_part" ["_law_cell_here","_law_k","_law_many"] (sp_law_part K)
 law_signed:Ok P w K mg base 2 "_law_signed" ["_law_cell_here","_law_k","_law_half"] (sp_law_signed K)
 law_plus:Ok P w K mg base 1 "_law_plus" ["_law_one","_law_other"] (sp_law_plus K)
 law_less:Ok P w K mg base 1 "_law_less" ["_law_one","_law_other"] (sp_law_less K)
set_option maxHeartbeats 4000000 in
theorem ok_law_word (D:Def K mg "_law_word" s_law_word ["_law_cell_here"]) (T:Txt P w K mg G) (O:Os_law_word P w K mg base G):Ok P w K mg base 3 "_law_word" ["_law_cell_here"] (sp_law_word K):=by
 have S:=sc_law_word
 refine D.ok S (fun vs H Q E h=>?_) (fun f cdv A outer s H vs Q E hr h=>?_)
 ·obtain ⟨c,rfl,k⟩:=h;rfl
 ·obtain ⟨c,rfl,k⟩:=h
  have hu:=hu_of hr
  have q_ONE:=T.q_ONE
  have q_PRIMES:=T.q_PRIMES
  have q_BOUNDS:=T.q_BOUNDS
  refine⟨_,(@pss_cons _ _ _ _ _ (ps_set (i:=1) S.nd rfl (Or.inl rfl) (pcall O.law_part (hr.mono (by decide)) (pa_cons (pv 0) (pa_cons pe_int (pa_cons pe_int pa_nil))))) (@pss_cons _ _ _ _ _ (@ps_set _ _ 2 _ _ _ _ S.nd rfl (Or.inl rfl) (@pe_op _ _ _ _ _ _ _ _ (kop_catT K rfl) (pe_ix (kx_seq K rfl) (@pe_lst _ _ _ _ (@pa_cons _ _ _ _ _ (@pe_tup _ _ _ _ _ (pa_cons pe_int (pa_cons pe_int pa_nil))) (@pa_cons _ _ _ _ _ (@pe_tup _ _ _ _ _ (pa_cons (pe_un un_neg pe_int) (pa_cons pe_int pa_nil))) (@pa_cons _ _ _ _ _ (@pe_tup _ _ _ _ _ (pa_cons (pe_un un_neg pe_int) (pa_cons pe_int pa_nil))) (@pa_cons _ _ _ _ _ (@pe_tup _ _ _ _ _ (pa_cons pe_int (pa_cons (pe_un un_neg pe_int) pa_nil))) (@pa_cons _ _ _ _ _ (@pe_tup _ _ _ _ _ (pa_cons (pe_un un_neg pe_int) (pa_cons pe_int pa_nil))) (@pa_cons _ _ _ _ _ (@pe_tup _ _ _ _ _ (pa_cons (pe_un un_neg pe_int) (pa_cons pe_int pa_nil))) (@pa_cons _ _ _ _ _ (@pe_tup _ _ _ _ _ (pa_cons (pe_un un_neg pe_int) (pa_cons pe_int pa_nil))) pa_nil (by rfl)) (by rfl)) (by rfl)) (by rfl)) (by rfl)) (by rfl)) (by rfl))) (pv 1) (fun _ _=>rfl)) (pe_tup (pa_cons pe_int (pa_cons pe_int (pa_cons pe_int pa_nil))))) (by rfl) (by first|exact .inl rfl|exact .inr rfl|assumption)) (@pss_cons _ _ _ _ _ (ps_set (i:=3) S.nd rfl (Or.inl rfl) (pe_ix ix_str pe_str (pv 1) (fun _ _=>rfl))) (@pss_cons _ _ _ _ _ (ps_set (i:=4) S.nd rfl (Or.inl rfl) (pe_ix (kx_seq K rfl) (pe_lst (pa_cons pe_int (pa_cons pe_int (pa_cons pe_int (pa_cons pe_int pa_nil))))) (pe_op op_mod (pv 0) pe_int) (fun _ _=>rfl))) (@pss_cons _ _ _ _ _ (ps_set (i:=5) S.nd rfl (Or.inl rfl) (pe_lst (pa_cons pe_str (pa_cons pe_str (pa_cons pe_str (pa_cons pe_str pa_nil)))))) (@pss_cons _ _ _ _ _ (@ps_set _ _ 6 _ _ _ _ S.nd rfl (Or.inl rfl) (@pe_lst _ _ _ _ (@pa_cons _ _ _ _ _ (@pe_tup _ _ _ _ _ (pa_cons (pe_un un_neg pe_int) (pa_cons pe_int (pa_cons pe_int (pa_cons pe_int (pa_cons pe_int pa_nil)))))) (@pa_cons _ _ _ _ _ (@pe_tup _ _ _ _ _ (pa_cons (pe_un un_neg pe_int) (pa_cons pe_int (pa_cons (pe_un un_neg pe_int) (pa_cons pe_int (pa_cons pe_int pa_nil)))))) (@pa_cons _ _ _ _ _ (@pe_tup _ _ _ _ _ (pa_cons pe_int (pa_cons (pe_un un_neg pe_int) (pa_cons pe_int (pa_cons (pe_un un_neg pe_int) (pa_cons pe_int pa_nil)))))) (@pa_cons _ _ _ _ _ (@pe_tup _ _ _ _ _ (pa_cons (pe_un un_neg pe_int) (pa_cons pe_int (pa_cons pe_int (pa_cons pe_int (pa_cons pe_int pa_nil)))))) pa_nil (by rfl)) (by rfl)) (by rfl)) (by rfl))) (by rfl) (by first|exact .inl rfl|exact .inr rfl|assumption)) (pss_cons (ps_for PassesOwn.never rfl (pi_range1 rfl T.b_range (pa_cons pe_int pa_nil)) (pg_name (i:=7) S.nd rfl (Or.inl rfl)) (pss_cons (ps_set (i:=8) S.nd rfl (Or.inl rfl) (pcall O.law_signed (hr.mono (by decide)) (pa_cons (pv 0) (pa_cons (pe_op op_add (pv 7) pe_int) (pa_cons (pv 4) pa_nil))))) (pss_cons (ps_for PassesOwn.never rfl (pi_range1 rfl T.b_range (pa_cons (pe_callB callN_abs rfl T.b_abs PyProof.Rows.boot_abs (pa_cons (pv 8) pa_nil)) pa_nil)) (pg_name (i:=9) S.nd rfl (Or.inl rfl)) (pss_one (ps_if (pt_cmpR op_gt (pv 8) pe_int (nomark _)) (pss_one (ps_set (i:=2) S.nd rfl (Or.inl rfl) (pcall O.law_plus (hr.mono (by decide)) (pa_cons (pv 2) (pa_cons (pe_ix (kx_seq K rfl) (pv 6) (pv 7) (fun _ _=>rfl)) pa_nil))))) (pss_one (ps_set (i:=2) S.nd rfl (Or.inl rfl) (pcall O.law_less (hr.mono (by decide)) (pa_cons (pv 2) (pa_cons (pe_ix (kx_seq K rfl) (pv 6) (pv 7) (fun _ _=>rfl)) pa_nil)))))))) (pss_one (ps_set (i:=3) S.nd rfl (Or.inl rfl) (pe_op op_addS (pv 3) (pe_op op_mul1 (pe_ix ix_str (pe_ix (kx_seq K rfl) (pv 5) (pv 7) (fun _ _=>rfl)) (pe_callTy callN_int rfl T.b_int PyProof.Rows.boot_int (pa_cons (pe_cmpR op_lt (pv 8) pe_int (nomark _)) pa_nil)) (fun _ _=>rfl)) (pe_callB callN_abs rfl T.b_abs PyProof.Rows.boot_abs (pa_cons (pv 8) pa_nil))))))))) (pss_cons (ps_set (i:=10) S.nd rfl (Or.inl rfl) (pcall O.law_signed (hr.mono (by decide)) (pa_cons (pe_op op_fdiv (pv 0) pe_int) (pa_cons pe_int (pa_cons pe_int pa_nil))))) (pss_one (ps_ret (pe_tup (pa_cons (pv 3) (pa_cons (pv 10) (pa_cons (pe_op (kop_catT K rfl) (pe_tup (pa_cons (pe_op op_add (pe_ix (kx_seq K rfl) (pv 2) pe_int (fun _ _=>rfl)) (pv 10)) pa_nil)) (pe_slice (ksl_tup K rfl) (pv 2) (po_some pe_int) po_none)) pa_nil)))))))))))))),?_⟩
  walk_at "w"
  refine c_law_part (by decide) (by decide) fun r H1 s1 hr=>?_
  walk_at "w"
  rename_i p0 G0 t0 e0 p1 G1 t1 e1 p2 G2 t2 e2 p3 G3 t3 e3 p4 G4 t4 e4 p5 G5 t5 e5 p6 G6 t6 e6 pl Gl nl tl el
  obtain ⟨jc,rfl⟩:=Int.eq_ofNat_of_zero_le hr.1
  have hjc:jc<7:=by lia
  have sl:Same H Gl:=s1.trans (t0.trans (t1.trans (t2.trans (t3.trans (t4.trans (t5.trans (t6.trans tl)))))))
  obtain ⟨A,b0,b1,j,L,hat,hA,hL,hj,hLg,hbg,hlr,hb1⟩:∃ (A:Addr) (b0 b1:Int) (j L:Nat),[V.ref p0,V.ref p1,V.ref p2,V.ref p3,V.ref p4,V.ref p5,V.ref p6][jc]?=some (.ref A)∧SqT K Gl A [.int b0,.int b1]∧(PySem.Str.ofString "CDEFGAB").cps.toList[jc]?=some L∧j<7∧([70,67,71,68,65,69,66]:List Nat).getD j 0=L∧([2,0,-1,-3,-4,-6,-7]:List Int).getD j 0=b0∧Nam.letr L=some [b0,(j:Int) - 1,0,0,0]∧b1=(j:Int) - 1:=by
   match jc,hjc with
   | 0,_=>exact⟨p0,0,0,1,67,rfl,SqT.of ((t1.trans (t2.trans (t3.trans (t4.trans (t5.trans (t6.trans tl)))))) _ _ e0),by decide,by decide,rfl,rfl,rfl,rfl⟩
   | 1,_=>exact⟨p1,-3,2,3,68,rfl,SqT.of ((t2.trans (t3.trans (t4.trans (t5.trans (t6.trans tl))))) _ _ e1),by decide,by decide,rfl,rfl,rfl,rfl⟩
   | 2,_=>exact⟨p2,-6,4,5,69,rfl,SqT.of ((t3.trans (t4.trans (t5.trans (t6.trans tl)))) _ _ e2),by decide,by decide,rfl,rfl,rfl,rfl⟩
   | 3,_=>exact⟨p3,2,-1,0,70,rfl,SqT.of ((t4.trans (t5.trans (t6.trans tl))) _ _ e3),by decide,by decide,rfl,rfl,rfl,rfl⟩
   | 4,_=>exact⟨p4,-1,1,2,71,rfl,SqT.of ((t5.trans (t6.trans tl)) _ _ e4),by decide,by decide,rfl,rfl,rfl,rfl⟩
   | 5,_=>exact⟨p5,-4,3,4,65,rfl,SqT.of ((t6.trans tl) _ _ e5),by decide,by decide,rfl,rfl,rfl,rfl⟩
   | 6,_=>exact⟨p6,-7,5,6,66,rfl,SqT.of (tl _ _ e6),by decide,by decide,rfl,rfl,rfl,rfl⟩
  clear e0 e1 e2 e3 e4 e5 e6
  refine r_ixL (SqL.of el) (atI_nat hat) ?_
  walk_at "w"
  rename_i pz Hz sz ez py Hy sy ey
  refine r_ixS (small2000 (by decide)) (atI_nat hL) ?_
  walk_at "w"
  rename_i ph Hh nh sh eh
  obtain ⟨hf,hfat,hfb⟩:=half_at c
  refine r_ixL (SqL.of eh) hfat ?_
  walk_at "w"
  rename_i pp Hp np sp ep q0 I0 u0 w0 q1 I1 u1 w1 q2 I2 u2 w2 q3 I3 u3 w3 ps Is nS uS wS
  have su:Same Hh Is:=sp.trans (u0.trans (u1.trans (u2.trans (u3.trans uS))))
  have hpp:=(u0.trans (u1.trans (u2.trans (u3.trans uS)))) _ _ ep
  have hrow:SqT K Is py [.int b0,.int b1,.int 0,.int 0,.int 0]:=SqT.of ((sh.trans su) _ _ ey)
  have sIs:Same H Is:=(sl.trans sz).trans ((sy.trans sh).trans su)
  have hstep:∀ i:Nat,i<4→∃ (q:Addr) (x0 x1 x2 x3 x4:Int) (ca cb:Nat) (pz:Str),[V.ref q0,V.ref q1,V.ref q2,V.ref q3][i]?=some (.ref q)∧SqT K Is q [.int x0,.int x1,.int x2,.int x3,.int x4]∧stR i=[x0,x1,x2,x3,x4]∧[V.str "#b",V.str "+-",V.str "><",V.str "^v"][i]?=some (.str pz)∧pz.cps.toList=[ca,cb]∧pz.length=2∧cdR i=(ca,cb):=fun i hi=>by
   match i,hi with
   | 0,_=>exact⟨q0,-11,7,0,0,0,35,98,"#b",rfl,SqT.of ((u1.trans (u2.trans (u3.trans uS))) _ _ w0),rfl,rfl,by decide,by decide,rfl⟩
   | 1,_=>exact⟨q1,-4,4,-1,0,0,43,45,"+-",rfl,SqT.of ((u2.trans (u3.trans uS)) _ _ w1),rfl,rfl,by decide,by decide,rfl⟩
   | 2,_=>exact⟨q2,6,-2,0,-1,0,62,60,"><",rfl,SqT.of ((u3.trans uS) _ _ w2),rfl,rfl,by decide,by decide,rfl⟩
   | 3,_=>exact⟨q3,-5,1,0,0,1,94,118,"^v",rfl,SqT.of (uS _ _ w3),rfl,rfl,by decide,by decide,rfl⟩
  clear w0 w1 w2 w3 ep
  refine f_invR (fun i σ Hn=>∃ (o7 o8 o9:Option V) (pr:Addr) (N:Str) (e0 e1 e2 e3 e4:Int),σ=[some (.int c),some (.int jc),some (.ref pr),some (.str N),some (.int hf),some (.ref pp),some (.ref ps),o7,o8,o9,none]∧Same Is Hn∧SqT K Hn pr [.int e0,.int e1,.int e2,.int e3,.int e4]∧WB L b0 b1 i N.cps.toList [e0,e1,e2,e3,e4]∧N.length≤1+2*i) ⟨_,_,_,py,⟨#[L]⟩,b0,b1,0,0,0,rfl,Same.refl _,hrow,.nil,Nat.le_refl _⟩ (fun i σ Hn hi hp=>?_) (fun σ Hn hp=>?_)
  ·obtain ⟨o7,o8,o9,pr,N,e0,e1,e2,e3,e4,rfl,sn,hpr,hwb,hNl⟩:=hp
   have hi4:i<4:=hi
   obtain ⟨q,x0,x1,x2,x3,x4,ca,cb,pz,hq1,hq2,hst,hz1,hz2,hz3,hcd⟩:=hstep i hi4
   walk_at "w"
   refine c_law_signed (by lia) (by lia) fun ct H2 s2 hct=>?_
   have hpr2:=s2.at hpr
   have hq3:=(sn.trans s2).at hq2
   have hw2:=(sn.trans s2) _ _ wS
   have hp2:=(sn.trans s2) _ _ hpp
   obtain ⟨sg,hs1,hs2,hs3⟩:∃ sg:Int,(0<ct→sg=1)∧(¬ 0<ct→sg=-1)∧sg*((if ct<0 then -ct else ct).toNat:Int)=ct:=by
    by_cases h:0<ct
    ·exact⟨1,fun _=>rfl,fun z=>absurd h z,by rw [if_neg (by lia),Int.one_mul];lia⟩
    ·refine⟨-1,fun z=>absurd z h,fun _=>rfl,?_⟩
     by_cases h0:ct<0
     ·rw [if_pos h0];lia
     ·rw [if_neg h0];lia
   have hbt:(if ct<0 then -ct else ct).toNat≤2:=by split <;> lia
   walk_at "w"
   refine f_invR (fun t σ' H'=>∃ (oT:Option V) (pr':Addr),σ'=[some (.int c),some (.int jc),some (.ref pr'),some (.str N),some (.int hf),some (.ref pp),some (.ref ps),some (.int (0+(i:Int))),some (.int ct),oT,none]∧Same H2 H'∧SqT K H' pr' [.int (e0+sg*(t:Int)*x0),.int (e1+sg*(t:Int)*x1),.int (e2+sg*(t:Int)*x2),.int (e3+sg*(t:Int)*x3),.int (e4+sg*(t:Int)*x4)]) ⟨o9,pr,rfl,Same.refl _,by simpa using hpr2⟩ (fun t σ' H' ht hp=>?_) (fun σ' H' hp=>?_)
   ·obtain ⟨oT,pr',rfl,s3,hpr3⟩:=hp
    have hq4:=s3.at hq3
    have hw3:=s3 _ _ hw2
    walk_at "w"
    refine if_both (fun hc=>?_) (fun hc=>?_)
    ·obtain rfl:=hs1 (of_decide_eq_true hc)
     walk_at "v"
     refine r_ixL (SqL.of hw3) (by rw [Int.zero_add];exact atI_nat hq1) ?_
     walk_at "w"
     rename_i p4 H4 s4 m4
     simp only [st_up] at m4
     exact⟨_,p4,rfl,s3.trans s4,SqT.of m4⟩
    ·obtain rfl:=hs2 (of_decide_eq_false hc)
     walk_at "v"
     refine r_ixL (SqL.of hw3) (by rw [Int.zero_add];exact atI_nat hq1) ?_
     walk_at "w"
     rename_i p4 H4 s4 m4
     simp only [st_dn] at m4
     exact⟨_,p4,rfl,s3.trans s4,SqT.of m4⟩
   obtain ⟨oT,pr',rfl,s3,hpr3⟩:=hp
   rw [hs3] at hpr3
   have hp3:=s3 _ _ hp2
   walk_at "v"
   refine r_ixL (SqL.of hp3) (by rw [Int.zero_add];exact atI_nat hz1) ?_
   walk_at "w"
   refine r_ixS (c:=if ct<0 then cb else ca) (small2000 (by lia)) (by rw [hz2];by_cases h:ct<0 <;> simp [h] <;> rfl) ?_
   walk_at "w"
   refine r_mul1 (by split <;> lia) ?_
   have q1:(reps (if ct<0 then cb else ca) (if ct<0 then -ct else ct).toNat).length=(if ct<0 then -ct else ct).toNat:=Array.size_replicate
   refine r_addS (small2000 (by lia)) ?_
   walk_at "w"
   refine⟨_,_,_,pr',_,_,_,_,_,_,rfl,sn.trans (s2.trans s3),hpr3,?_,?_⟩
   ·have z:=WB.snoc ct hwb ⟨by lia,by lia⟩ hst hcd
    rw [seg_is] at z
    rw [Nam.app_list]
    simpa [reps] using z
   ·rw [PySem.strLen_append,q1];lia
  obtain ⟨o7,o8,o9,pr,N,e0,e1,e2,e3,e4,rfl,sn,hpr,hwb,hNl⟩:=hp
  walk_at "w"
  refine c_law_signed (by decide) (by decide) fun oc H2 s2 hoc=>?_
  have hpr2:=s2.at hpr
  walk_at "w"
  rename_i pa Ha sa ma pb Hb sb mb pc Hc sc mc pd Hd sd md
  obtain ⟨k0,k1,k2,k3,h0,h1,h2,h3,hN,z0,z1,z2,z3,z4⟩:=hwb.four
  exact k pd pc N oc e0 e1 e2 e3 e4 Hd (((sIs.trans sn).trans s2).trans ((sa.trans sb).trans (sc.trans sd))) md (sd _ _ mc) (by lia) ⟨j,L,b0,k0,k1,k2,k3,hj,hLg,hbg,hlr,h0,h1,h2,h3,hN,z0,by lia,z2,z3,z4⟩
theorem sc_law_kinds:FnScope ["_law_e","_law_kinds_here"] ["_law_e"] (defScope s_law_kinds):=⟨rfl,rfl,rfl,by decide +kernel,rfl,by decide +kernel,by decide +kernel⟩
theorem ok_law_kinds (D:Def K mg "_law_kinds" s_law_kinds ["_law_e"]) (T:Txt P w K mg G):OkH P w K mg base 1 "_law_kinds" ["_law_e"] (sp_law_kinds K):=by
 have S:=sc_law_kinds
 refine D.okH S (fun vs H Q E h=>?_) (fun f cdv A outer s H vs Q E hr h=>?_)
 ·obtain ⟨a,C,rfl,ha,hc,k⟩:=h;rfl
 ·obtain ⟨a,C,rfl,ha,hc,k⟩:=h
  have hu:=hu_of hr
  have q_ONE:=T.q_ONE
  have q_PRIMES:=T.q_PRIMES
  have q_BOUNDS:=T.q_BOUNDS
  refine⟨_,(pss_cons (ps_set (i:=1) S.nd rfl (Or.inl rfl) (pe_lst pa_nil)) (pss_cons (ps_if (pt_val (pe_callB (kN_isx K rfl) rfl T.b_isinstance PyProof.Rows.boot_isinstance (pa_cons (pv 0) (pa_cons (pe_glob (v:=V.ref G.a_TooFar) rfl T.g_TooFar rfl) pa_nil)))) (pss_one (ps_expr (pe_bm PySem.F.plainAttrs_list PySem.F.slot_list_append PySem.F.type_list_append mt_append (pv 1) (pa_cons pe_str pa_nil)))) pss_nil) (pss_cons (ps_if (pt_val (pe_callB (kN_isx K rfl) rfl T.b_isinstance PyProof.Rows.boot_isinstance (pa_cons (pv 0) (pa_cons (pe_glob (v:=V.ref G.a_NoName) rfl T.g_NoName rfl) pa_nil)))) (pss_one (ps_expr (pe_bm PySem.F.plainAttrs_list PySem.F.slot_list_append PySem.F.type_list_append mt_append (pv 1) (pa_cons pe_str pa_nil)))) pss_nil) (pss_cons (ps_if (pt_val (pe_callB (kN_isx K rfl) rfl T.b_isinstance PyProof.Rows.boot_isinstance (pa_cons (pv 0) (pa_cons (pe_bltn (v:=V.ty "ValueError") rfl T.b_ValueError L2.boot_ValueError rfl) pa_nil)))) (pss_one (ps_expr (pe_bm PySem.F.plainAttrs_list PySem.F.slot_list_append PySem.F.type_list_append mt_append (pv 1) (pa_cons pe_str pa_nil)))) pss_nil) (pss_one (ps_ret (pv 1))))))),?_⟩
  obtain rfl:C=G.a_TooFar:=by rw [T.m_TooFar] at hc;cases hc;rfl
  walk_at "w"
  rename_i l H1 n1 s1 m1
  have hal:a≠l:=fun z=>by rw [z,n1] at ha;cases ha
  refine r_isxR T.x_TooFar (s1 _ _ ha) (kit_same _ _) ?_
  walk_at "w"
  refine iteT ?_
  walk_at "w"
  refine r_append m1 (Nat.le_of_ble_eq_true rfl) ?_
  have mU:upd H1 l (.lst ([]++[V.str "far"])) l=some (.lst [V.str "far"]):=upd_same
  have hU:upd H1 l (.lst ([]++[V.str "far"])) a=some (ExcO a G.a_TooFar):=by rw [upd_ne hal];exact s1 _ _ ha
  have sU:Same H (upd H1 l (.lst ([]++[V.str "far"]))):=s1.upd_old n1
  generalize upd H1 l (.lst ([]++[V.str "far"]))=H2 at mU hU sU
  walk_at "w"
  refine r_isxR T.x_TooFar hU (kit_neg T.h_NoName T.n_TooFar_NoName T.s_TooFar_NoName) ?_
  walk_at "w"
  refine iteF ?_
  walk_at "w"
  refine r_isxT T.x_TooFar hU (kit_ty meta_ValueError T.v_TooFar_ValueError) ?_
  walk_at "w"
  refine iteT ?_
  walk_at "w"
  refine r_append mU (Nat.le_of_ble_eq_true rfl) ?_
  walk_at "w"
  exact k _ _ (sU.upd_old n1) upd_same
theorem sc_law_asked:FnScope ["_law_text_here","_law_kinds_here","_law_found","_law_e"] ["_law_text_here"] (defScope s_law_asked):=⟨rfl,rfl,rfl,by decide +kernel,rfl,by decide +kernel,by decide +kernel⟩
structure Os_law_asked (P:Program) (w:World) (K:PySem.W.Frag) (mg:Str→Option Value) (base:Heap) (G:Adr):Prop where
 scale_read:OkX P w K mg base 9 "scale_read" ["text"] (sp_scale_read K)
 law_kinds:OkH P w K mg base 1 "_law_kinds" ["_law_e"] (sp_law_kinds K)
set_option maxHeartbeats 4000000 in
theorem ok_law_asked (D:Def K mg "_law_asked" s_law_asked ["_law_text_here"]) (T:Txt P w K mg G) (O:Os_law_asked P w K mg base G):Ok P w K mg base 10 "_law_asked" ["_law_text_here"] (sp_law_asked K):=by
 have S:=sc_law_asked
 refine D.ok S (fun vs H Q E h=>?_) (fun f cdv A outer s H vs Q E hr h=>?_)
 ·obtain ⟨zs,rfl,h60,hw,k⟩:=h;rfl
 ·obtain ⟨zs,rfl,h60,hw,k⟩:=h
  have hu:=hu_of hr
  have q_ONE:=T.q_ONE
  have q_PRIMES:=T.q_PRIMES
  have q_BOUNDS:=T.q_BOUNDS
  refine⟨_,(pss_cons (ps_set (i:=1) S.nd rfl (Or.inl rfl) pe_non) (pss_cons (ps_set (i:=2) S.nd rfl (Or.inl rfl) pe_non) (pss_cons (ps_try (i:=3) T.h_YardError rfl rfl rfl S.nd rfl rfl rfl T.g_YardError (fun _ _=>(pss_one (ps_set (i:=2) S.nd rfl (Or.inl rfl) (pcallX O.scale_read (hr.mono (by decide)) (fun _ _ z=>z) rfl (pa_cons (pv 0) pa_nil))))) (fun _=>(pss_one (ps_set (i:=1) S.nd rfl (Or.inl rfl) (pcallH O.law_kinds (Room.toH hr (by decide)) (pa_cons (pv 3) pa_nil)))))) (pss_one (ps_ret (pe_tup (pa_cons (pv 2) (pa_cons (pv 1) pa_nil)))))))),?_⟩
  with_reducible refine r_seq ?_
  with_reducible refine r_asg ?_
  with_reducible refine r_c ?_
  with_reducible refine r_gname ?_
  with_reducible refine r_seq ?_
  with_reducible refine r_asg ?_
  with_reducible refine r_c ?_
  with_reducible refine r_gname ?_
  with_reducible refine r_seq ?_
  refine join (fun σ' H'=>∃ f kk:V,σ'=[some (.str (PySem.Str.join ⟨#[32]⟩ zs)),some kk,some f,none]∧Same H H'∧((∀ z∈zs,ok30 (rowZ z)=true)→kk=.non∧∃ q ys qs,f=.ref q∧H' q=some (.lst ys)∧RowsL K H' ys qs∧(qs.Pairwise fun a b=>nsr a<nsr b)∧∀ q,q∈qs↔∃ z∈zs,q=foldR (rowZ z))∧((∃ z∈zs,ok30 (rowZ z)=false)→∃ q,kk=.ref q∧H' q=some (.lst [.str "far",.str "value"]))) (fun nx kn=>?_) (fun σ' H1 hp=>?_)
  ·walk_at "w"
   refine c_scale_read ⟨h60,hw⟩ (fun hex C H9 hC s9=>?_) (fun hall p ys qs H9 s9 m9 r9 so9 me9=>?_)
   ·refine⟨C,rfl,by rw [T.m_TooFar] at hC;cases hC;exact T.s_TooFar_YardError,fun ae hae=>?_⟩
    walk_at "w"
    refine c_law_kinds upd_same hC fun p H10 s10 m10=>?_
    walk_at "w"
    obtain ⟨r,hr1,hf⟩:=hex
    exact kn _ _ ⟨_,_,rfl,(s9.trans (Same.upd_new hae)).trans s10,(fun hall=>by rw [hall r hr1] at hf;cases hf),fun _=>⟨p,rfl,m10⟩⟩
   ·walk_at "w"
    refine kn _ _ ⟨_,_,rfl,s9,(fun _=>⟨rfl,p,ys,qs,rfl,m9,r9,so9,me9⟩),?_⟩
    rintro ⟨r,hr1,hf⟩
    rw [hall r hr1] at hf;cases hf
  obtain ⟨f,kk,rfl,s1,o1,o2⟩:=hp
  walk_at "w"
  rename_i p9 H9 s9 m9
  refine k p9 f kk H9 (s1.trans s9) m9 (fun ha=>?_) (fun he=>?_)
  ·obtain ⟨e,q,ys,qs,e2,m,r,so,me⟩:=o1 ha
   exact⟨e,q,ys,qs,e2,s9 _ _ m,r.same s9,so,me⟩
  ·obtain ⟨q,e2,m⟩:=o2 he
   exact⟨q,e2,s9 _ _ m⟩
theorem sc_law_names:FnScope ["_law_told","_law_scale_here","_law_names_here","_law_row","_law_name","_law_octave","_law_other"] ["_law_told","_law_scale_here"] (defScope s_law_names):=⟨rfl,rfl,rfl,by decide +kernel,rfl,by decide +kernel,by decide +kernel⟩
set_option maxHeartbeats 4000000 in
theorem ok_law_names (D:Def K mg "_law_names" s_law_names ["_law_told","_law_scale_here"]) (T:Txt P w K mg G):Ok P w K mg base 1 "_law_names" ["_law_told","_law_scale_here"] (sp_law_names K):=by
 have S:=sc_law_names
 refine D.ok S (fun vs H Q E h=>?_) (fun f cdv A outer s H vs Q E hr h=>?_)
 ·obtain ⟨a,b,xs,ys,ws,qs,rfl,ha,hb,hw,hq,ho,hn,hm,hd,hc,k⟩:=h;rfl
 ·obtain ⟨a,b,xs,ys,ws,qs,rfl,ha,hb,hw,hq,ho,hn,hm,hd,hc,k⟩:=h
  have hu:=hu_of hr
  have q_ONE:=T.q_ONE
  have q_PRIMES:=T.q_PRIMES
  have q_BOUNDS:=T.q_BOUNDS
  refine⟨_,(pss_cons (ps_set (i:=2) S.nd rfl (Or.inl rfl) (pe_lst pa_nil)) (pss_cons (ps_for PassesOwn.never rfl (kpi_list K rfl (pv 1)) (pg_name (i:=3) S.nd rfl (Or.inl rfl)) (pss_one (ps_for PassesOwn.never rfl (kpi_list K rfl (pv 0)) (kpg_tup (n:=3) K rfl rfl (pgs_cons (pg_name (i:=4) S.nd rfl (Or.inl rfl)) (pgs_cons (pg_name (i:=5) S.nd rfl (Or.inl rfl)) (pgs_cons (pg_name (i:=6) S.nd rfl (Or.inl rfl)) pgs_nil)))) (pss_one (ps_if (PW.pt (pw_and (pt_cmpR (kop_eqD K rfl hr.units) (pe_slice (ksl_tup K rfl) (pv 6) (po_some pe_int) po_none) (pe_slice (ksl_tup K rfl) (pv 3) (po_some pe_int) po_none) (nomark _)) (pw_and1 (pt_cmpR op_le (pe_callB (kN_len K rfl) rfl T.b_len PySem.boot_len (pa_cons (pv 2) pa_nil)) (pe_bm PySem.F.plainAttrs_list PySem.F.slot_list_index PySem.F.type_list_index (kmt_indexD K rfl hr.units) (pv 1) (pa_cons (pv 3) pa_nil)) (nomark _))))) (pss_one (ps_expr (pe_bm PySem.F.plainAttrs_list PySem.F.slot_list_append PySem.F.type_list_append mt_append (pv 2) (pa_cons (pe_op op_addS (pe_op op_addS (pv 4) pe_str) (pe_callTy callN_str rfl T.b_str PyProof.Rows.boot_str (pa_cons (pe_op op_sub (pe_op op_add (pv 5) (pe_ix (kx_seq K rfl) (pv 3) pe_int (fun _ _=>rfl))) (pe_ix (kx_seq K rfl) (pv 6) pe_int (fun _ _=>rfl))) pa_nil))) pa_nil)))) pss_nil))))) (pss_one (ps_ret (pe_bm PySem.F.plainAttrs_str PySem.F.slot_str_join PySem.F.type_str_join mt_joinL pe_str (pa_cons (pv 2) pa_nil)))))),?_⟩
  have lx:=hw.1
  have ly:=hq.length
  walk_at "w"
  rename_i ln H1 n1 s1 m1
  refine f_invL (xs:=ys) (fun i σ Hn=>∃ o3 o4 o5 o6:Option V,σ=[some (.ref a),some (.ref b),some (.ref ln),o3,o4,o5,o6]∧Same H Hn∧Hn ln=some (.lst (((qs.take i).map nmZ).map V.str))) ⟨_,_,_,_,rfl,s1,m1⟩ (fun i σ Hn hp=>by obtain ⟨_,_,_,_,rfl,sn,_⟩:=hp;exact sn.seq hb) (fun i x σ Hn hx hp=>?_) (fun σ Hn hp=>?_)
  ·obtain ⟨o3,o4,o5,o6,rfl,sn,mn⟩:=hp
   obtain ⟨pq,q,rfl,hpq,hqi⟩:=hq.get hx
   have hqm:=List.mem_of_getElem? hqi
   have hiq:=(List.getElem?_eq_some_iff.mp hqi).1
   obtain ⟨w0,hw0,q0,hq0,eq0⟩:=hc q hqm
   obtain ⟨_,y0,y1,y2,y3,y4,ey,_⟩:=ho w0 hw0
   obtain rfl:q=[q0,y1,y2,y3,y4]:=by rw [eq0,ey];rfl
   have et:qs.take (i+1)=qs.take i++[[q0,y1,y2,y3,y4]]:=by rw [List.take_add_one,hqi];rfl
   walk_at "w"
   refine f_invL (xs:=xs) (fun t σ' H'=>∃ o4 o5 o6:Option V,σ'=[some (.ref a),some (.ref b),some (.ref ln),some (.ref pq),o4,o5,o6]∧Same H H'∧((H' ln=some (.lst (((qs.take i).map nmZ).map V.str))∧∀ (m:Nat) (w:Str×Int×List Int),m<t→ws[m]?=some w→w.2.2.tail≠[y1,y2,y3,y4])∨H' ln=some (.lst (((qs.take (i+1)).map nmZ).map V.str)))) ⟨_,_,_,rfl,sn,.inl ⟨mn,fun _ _ z=>absurd z (Nat.not_lt_zero _)⟩⟩ (fun t σ' H' hp=>by obtain ⟨_,_,_,rfl,s',_⟩:=hp;exact s'.seq ha) (fun t x σ' H' hx' hp=>?_) (fun σ' H' hp=>?_)
   ·obtain ⟨o4,o5,o6,rfl,s',hal⟩:=hp
    obtain ⟨p,r,w,rfl,hwi,hp1,hr1⟩:=hw.2 t x hx'
    obtain ⟨hob,r0,r1,r2,r3,r4,er,hwd⟩:=ho w (List.mem_of_getElem? hwi)
    have hp2:=s'.at hp1
    have hr2:SqT K H' r [.int (r0+w.2.1),.int r1,.int r2,.int r3,.int r4]:=by have z:=s'.at hr1;rw [er] at z;exact z
    have hpq2:SqT K H' pq [.int q0,.int y1,.int y2,.int y3,.int y4]:=s'.at hpq
    refine r_gtup3 hp2 ?_
    walk_at "w"
    rename_i pa Ha sa ma pb Hb sb mb
    have sab:=sa.trans sb
    refine r_eqD (Tell.row (r:=[r1,r2,r3,r4]) (sb.at (SqT.of ma))) (Tell.row (r:=[y1,y2,y3,y4]) (SqT.of mb)) (shaped_row _) (shaped_row _) ?_
    rw [eqv_row]
    walk_at "w"
    by_cases htl:[r1,r2,r3,r4]=[y1,y2,y3,y4]
    ·refine if_tt (decide_eq_true htl) ?_
     cases htl
     have hix:∀ (Q':VK),Q' (.int (i:Int)) Hb→rIndexD K (.ref b) [.ref pq] Hb Q':=fun Q' h=>r_indexD i ((s'.trans sab).seq hb) (hq.same (s'.trans sab)).tells (Tell.row (r:=[q0,y1,y2,y3,y4]) (sab.at hpq2)) (lay_rows _) (lay_row _) (Nat.le_trans (deep_row _) (by decide)) (by lia) ⟨_,by rw [List.getElem?_map,hqi];rfl,by rw [eqv_row];exact decide_eq_true rfl⟩ (fun m z hmi hz=>by
      rw [List.getElem?_map] at hz
      cases hqz:qs[m]? with
      | none=>rw [hqz] at hz;cases hz
      | some r' =>
       rw [hqz] at hz
       cases hz
       rw [eqv_row]
       refine decide_eq_false fun e=>?_
       obtain ⟨hml,em⟩:=List.getElem?_eq_some_iff.mp hqz
       obtain ⟨hil,ei⟩:=List.getElem?_eq_some_iff.mp hqi
       exact (List.pairwise_iff_getElem.mp hd m i hml hil hmi) (by rw [em,ei,e])) h
     rcases hal with ⟨hal,hno⟩|hal
     ·have hal2:=sab _ _ hal
      have hpq3:=sab.at hpq2
      have hr3:=sab.at hr2
      walk_at "w"
      refine hix _ ?_
      walk_at "w"
      refine if_tt (decide_eq_true (by simp;lia)) ?_
      have hlen:=hwd.len
      obtain ⟨z1,z2,z3,z4,z5,zb⟩:=hwd.ok (o:=q0 - r0) (by have:=(hwd.ok (o:=0) (by decide)).2.2.2.2.2;lia)
      obtain ⟨nl,_⟩:=num_len (o:=q0 - r0) (by lia)
      walk_at "w"
      refine r_addS (small2000 (show w.1.length+1≤2000 by lia)) ?_
      walk_at "w"
      rw [show w.2.1+q0 - (r0+w.2.1)=q0 - r0 by lia]
      refine r_str1 (Sgn.log_bd (Nat.lt_of_le_of_lt (show (q0 - r0).natAbs≤9999 by lia) (by decide +kernel))) ?_
      walk_at "w"
      refine r_addS (small2000 (by rw [PySem.strLen_append];show w.1.length+1+_≤2000;lia)) ?_
      walk_at "w"
      refine r_append hal2 (by simp;lia) ?_
      walk_at "w"
      refine⟨_,_,_,rfl,(s'.trans sab).upd_old n1,.inr ?_⟩
      rw [upd_same,et,List.map_append,List.map_append]
      rw [show r0+(q0 - r0)=q0 by lia] at z1
      show some (HO.lst (_++[V.str (wOct w.1 (q0 - r0))]))=_
      rw [z1]
      rfl
     ·have hal2:=sab _ _ hal
      have hpq3:=sab.at hpq2
      walk_at "w"
      refine hix _ ?_
      walk_at "w"
      refine if_ff (decide_eq_false (by simp;lia)) ?_
      walk_at "w"
      exact⟨_,_,_,rfl,s'.trans sab,.inr hal2⟩
    ·refine if_ff (decide_eq_false htl) ?_
     walk_at "w"
     refine⟨_,_,_,rfl,s'.trans sab,?_⟩
     rcases hal with ⟨hal,hno⟩|hal
     ·refine .inl ⟨sab _ _ hal,fun m w' hm hwm=>?_⟩
      rcases Nat.lt_succ_iff_lt_or_eq.mp hm with z|rfl
      ·exact hno m w' z hwm
      ·rw [hwi] at hwm;cases hwm
       rw [er];exact htl
     ·exact .inr (sab _ _ hal)
   ·obtain ⟨o4,o5,o6,rfl,s',hal⟩:=hp
    refine⟨_,_,_,_,rfl,s',?_⟩
    rcases hal with ⟨hal,hno⟩|hal
    ·obtain ⟨m,hm,em⟩:=List.getElem_of_mem hw0
     exact absurd (by rw [ey];rfl) (hno m w0 (by lia) (by rw [List.getElem?_eq_getElem hm,em]))
    ·exact hal
  obtain ⟨o3,o4,o5,o6,rfl,sn,mn⟩:=hp
  rw [← ly,List.take_length] at mn
  have hsm:((qs.map nmZ).map (·.length)).sum≤14*(qs.map nmZ).length:=sum_le fun z hz=>by
   obtain ⟨q,hqm,rfl⟩:=List.mem_map.mp hz
   obtain ⟨w0,hw0,q0,hq0,eq0⟩:=hc q hqm
   obtain ⟨_,y0,y1,y2,y3,y4,ey,hwd⟩:=ho w0 hw0
   obtain ⟨z1,z2,z3,_⟩:=hwd.ok (o:=q0 - y0) (by have:=(hwd.ok (o:=0) (by decide)).2.2.2.2.2;lia)
   rw [eq0,ey]
   rw [show y0+(q0 - y0)=q0 by lia] at z1
   show (nmZ [q0,y1,y2,y3,y4]).length≤14
   rw [← z1]
   exact z3
  rw [List.length_map] at hsm
  walk_at "w"
  refine r_joinL mn (by decide) (by rw [List.length_map];lia) ?_
  rw [sp32]
  exact k _ sn
theorem sc_law_text:FnScope ["_law_told","_law_over_again","_law_words"] ["_law_told","_law_over_again"] (defScope s_law_text):=⟨rfl,rfl,rfl,by decide +kernel,rfl,by decide +kernel,by decide +kernel⟩
set_option maxHeartbeats 4000000 in
theorem ok_law_text (D:Def K mg "_law_text" s_law_text ["_law_told","_law_over_again"]) (T:Txt P w K mg G):Ok P w K mg base 1 "_law_text" ["_law_told","_law_over_again"] (sp_law_text K):=by
 have S:=sc_law_text
 refine D.ok S (fun vs H Q E h=>?_) (fun f cdv A outer s H vs Q E hr h=>?_)
 ·obtain ⟨a,xs,ws,b,rfl,ha,hw,ho,hn,k⟩:=h;rfl
 ·obtain ⟨a,xs,ws,b,rfl,ha,hw,ho,hn,k⟩:=h
  have hu:=hu_of hr
  have q_ONE:=T.q_ONE
  have q_PRIMES:=T.q_PRIMES
  have q_BOUNDS:=T.q_BOUNDS
  refine⟨_,(pss_cons (ps_set (i:=2) S.nd rfl (Or.inr rfl) (pe_comp (N:=["_law_one"]) (ix:=[none]) rfl (kpi_list K rfl (pv 0)) (fun _ _ _ _ _=>(pg_name (i:=0) (show List.Nodup (["_law_one"]:List Str) by decide +kernel) rfl (Or.inl rfl))) (fun _ _ _ _ _=>rfl) (fun _ _ _ _ _=>(pe_op op_addS (pe_op op_addS (pe_ix (kx_seq K rfl) (pv 0) pe_int (fun _ _=>rfl)) pe_str) (pe_callTy callN_str rfl T.b_str PyProof.Rows.boot_str (pa_cons (pe_ix (kx_seq K rfl) (pv 0) pe_int (fun _ _=>rfl)) pa_nil)))) rfl (by decide +kernel) (by decide +kernel) rfl True.intro)) (pss_cons (ps_if (PW.pt (pw_and (pt_val (pv 1)) (pw_and1 (pt_cmpR (kop_neD K rfl hr.units) (pv 2) (pe_lst pa_nil) (nomark _))))) (pss_one (ps_set (i:=2) S.nd rfl (Or.inr rfl) (pe_comp (N:=["_law_k","_law_words"]) (ix:=[none,some 2]) rfl (pi_range1 rfl T.b_range (pa_cons pe_int pa_nil)) (fun _ _ _ _ _=>(pg_name (i:=0) (show List.Nodup (["_law_k","_law_words"]:List Str) by decide +kernel) rfl (Or.inl rfl))) (fun _ _ _ _ _=>rfl) (fun _ _ _ _ _=>(pe_ix (kx_seq K rfl) (pv 1) (pe_op op_mod (pv 0) (pe_callB (kN_len K rfl) rfl T.b_len PySem.boot_len (pa_cons (pv 1) pa_nil))) (fun _ _=>rfl))) rfl (by decide +kernel) (by decide +kernel) rfl ⟨⟨rfl,Or.inr (Or.inl rfl),rfl,rfl⟩,True.intro⟩))) pss_nil) (pss_one (ps_ret (pe_bm PySem.F.plainAttrs_str PySem.F.slot_str_join PySem.F.type_str_join mt_joinL pe_str (pa_cons (pv 2) pa_nil)))))),?_⟩
  have lx:=hw.1
  walk_at "w"
  refine rd_compL (xs:=xs) [] (fun i=>.str (wOct (ws.getD i ("",0,[])).1 (ws.getD i ("",0,[])).2.1)) rfl ha (by lia) (fun i x H' Qc hx s kc=>?_) (fun l5 H5 n5 s5 m5=>?_)
  ·obtain ⟨p,q,w,rfl,hwi,hp,hq⟩:=hw.2 i x hx
   have eg:ws.getD i ("",0,[])=w:=by rw [List.getD,hwi];rfl
   rw [eg] at kc
   obtain ⟨hob,r0,r1,r2,r3,r4,hr,hwd⟩:=ho w (List.mem_of_getElem? hwi)
   have hlen:=hwd.len
   have hp':=s.at hp
   obtain ⟨nl,_⟩:=num_len (o:=w.2.1) (by lia)
   walk_at "w"
   refine r_addS (small2000 (show w.1.length+1≤2000 by lia)) ?_
   walk_at "w"
   refine r_str1 (Sgn.log_bd (Nat.lt_of_le_of_lt (show w.2.1.natAbs≤9999 by lia) (by decide +kernel))) ?_
   walk_at "w"
   refine r_addS (small2000 (by rw [PySem.strLen_append];show w.1.length+1+_≤2000;lia)) ?_
   exact kc _ (Same.refl _)
  have em:(List.range xs.length).map (fun i=>V.str (wOct (ws.getD i ("",0,[])).1 (ws.getD i ("",0,[])).2.1))=(ws.map fun w=>wOct w.1 w.2.1).map V.str:=by
   rw [List.map_map,lx]
   exact range_map ws ("",0,[]) (fun w=>V.str (wOct w.1 w.2.1))
  rw [em] at m5
  have hset0:∀ z,z∈(ws.map fun w=>wOct w.1 w.2.1)↔∃ w∈ws,z=wOct w.1 w.2.1:=fun z=>by
   rw [List.mem_map]
   exact⟨fun ⟨w,h1,h2⟩=>⟨w,h1,h2.symm⟩,fun ⟨w,h1,h2⟩=>⟨w,h1,h2.symm⟩⟩
  have hln:(ws.map fun w=>wOct w.1 w.2.1).length=ws.length:=List.length_map _
  have hlz:∀ z∈(ws.map fun w=>wOct w.1 w.2.1),z.length≤14:=fun z hz=>by
   obtain ⟨w,hwm,rfl⟩:=(hset0 z).mp hz
   obtain ⟨hob,r0,r1,r2,r3,r4,hr,hwd⟩:=ho w hwm
   exact (hwd.ok (o:=w.2.1) (by lia)).2.2.1
  have hok:∀ z∈(ws.map fun w=>wOct w.1 w.2.1),PyData.strOk z=true:=fun z hz=>by
   obtain ⟨w,hwm,rfl⟩:=(hset0 z).mp hz
   obtain ⟨hob,r0,r1,r2,r3,r4,hr,hwd⟩:=ho w hwm
   exact str_ok (hwd.ok (o:=w.2.1) (by lia)).2.2.2.1
  generalize (ws.map fun w=>wOct w.1 w.2.1)=zs0 at m5 hset0 hln hlz hok
  walk_at "j"
  refine join (fun σ' H'=>∃ (l:Addr) (zs:List Str),σ'=[some (.ref a),some (.bl b),some (.ref l)]∧Same H H'∧H' l=some (.lst (zs.map V.str))∧zs.length≤60∧∀ z,z∈zs↔z∈zs0) (fun nx kn=>?_) (fun σ' H6 hp=>?_)
  ·have same5:=kn _ _ ⟨l5,zs0,rfl,s5,m5,by lia,fun _=>Iff.rfl⟩
   walk_at "w"
   cases b with
   | false =>
    refine if_ff rfl ?_
    walk_at "w"
    exact same5
   | true =>
    refine if_tt rfl ?_
    walk_at "w"
    rename_i p6 H6 n6 s6 m6
    refine r_neD (.lst (SqL.of (s6 _ _ m5)) (tells_strs zs0)) (.lst (SqL.of m6) .nil) (shaped_strs hok) rfl ?_
    walk_at "w"
    cases zs0 with
    | nil =>
     refine if_ff (by decide +kernel) ?_
     walk_at "w"
     exact kn _ _ ⟨l5,[],rfl,s5.trans s6,s6 _ _ m5,by simp,fun _=>Iff.rfl⟩
    | cons z0 zr =>
     refine if_tt (by rw [eqv_strs];rfl) ?_
     have m56:=s6 _ _ m5
     have hl0:(0:Int)<((z0::zr).map V.str).length:=by simp
     walk_at "w"
     refine rd_range (n:=60) (fun x=>.str ((z0::zr).getD (x.toNat % (z0::zr).length) "")) [some (.ref l5)] rfl (by decide) (fun i H' Qc hi s kc=>?_) (fun l7 H7 n7 s7 m7=>?_)
     ·have m57:=s _ _ m56
      have hll:(((z0::zr).map V.str).length:Int)=((z0::zr).length:Nat):=by simp
      walk_at "w"
      refine r_ixL (SqL.of m57) (v:=.str ((z0::zr).getD (i % (z0::zr).length) "")) ?_ ?_
      ·rw [hll,← Int.natCast_emod]
       refine atI_nat ?_
       have hlt:i % (z0::zr).length<(z0::zr).length:=Nat.mod_lt _ (by simp)
       rw [List.getElem?_map,List.getD,List.getElem?_eq_getElem hlt]
       rfl
      ·exact kc _ (Same.refl _)
     walk_at "w"
     refine kn _ _ ⟨l7,(List.range 60).map fun i=>(z0::zr).getD (i % (z0::zr).length) "",rfl,(s5.trans s6).trans s7,?_,by simp,fun z=>?_⟩
     ·rw [m7,List.map_map]
      rfl
     ·rw [List.mem_map]
      constructor
      ·rintro ⟨i,_,rfl⟩
       have hlt:i % (z0::zr).length<(z0::zr).length:=Nat.mod_lt _ (by simp)
       rw [List.getD,List.getElem?_eq_getElem hlt]
       exact List.getElem_mem hlt
      ·intro hz
       obtain ⟨i,hi,rfl⟩:=List.getElem_of_mem hz
       refine⟨i,List.mem_range.mpr (by lia),?_⟩
       rw [Nat.mod_eq_of_lt hi,List.getD,List.getElem?_eq_getElem hi]
       rfl
  obtain ⟨l,zs,rfl,s6,m6,h60,hset⟩:=hp
  have hsm:(zs.map (·.length)).sum≤14*zs.length:=sum_le fun z hz=>hlz z ((hset z).mp hz)
  walk_at "w"
  refine r_joinL m6 (by decide) (by lia) ?_
  rw [sp32]
  exact k zs _ s6 h60 fun z=>(hset z).trans (hset0 z)
theorem sc_law:FnScope ["_law_script","_law_cell_here","_law_told","_law_first","_law_found","_law_rows_here","_law_scale_here","_law_text_here"] ["_law_script"] (defScope s_law):=⟨rfl,rfl,rfl,by decide +kernel,rfl,by decide +kernel,by decide +kernel⟩
structure Os_law (P:Program) (w:World) (K:PySem.W.Frag) (mg:Str→Option Value) (base:Heap) (G:Adr):Prop where
 scale_text:Ok P w K mg base 3 "scale_text" ["scale"] (sp_scale_text K)
 scale_read:OkX P w K mg base 9 "scale_read" ["text"] (sp_scale_read K)
 law_cell:Ok P w K mg base 1 "_law_cell" ["_law_script","_law_k"] (sp_law_cell K)
 law_folded:Ok P w K mg base 2 "_law_folded" ["_law_row"] (sp_law_folded K)
 law_scale:Ok P w K mg base 3 "_law_scale" ["_law_rows_here"] (sp_law_scale K)
 law_within:Ok P w K mg base 1 "_law_within" ["_law_row","_law_first","_law_half"] (sp_law_within K)
 law_rows:Ok P w K mg base 2 "_law_rows" ["_law_found","_law_due"] (sp_law_rows K)
 law_word:Ok P w K mg base 3 "_law_word" ["_law_cell_here"] (sp_law_word K)
 law_asked:Ok P w K mg base 10 "_law_asked" ["_law_text_here"] (sp_law_asked K)
 law_names:Ok P w K mg base 1 "_law_names" ["_law_told","_law_scale_here"] (sp_law_names K)
 law_text:Ok P w K mg base 1 "_law_text" ["_law_told","_law_over_again"] (sp_law_text K)
set_option maxHeartbeats 16000000 in
theorem fn_law {f:Addr} {fd:FuncData} (F:Fun K "law" "law" s_law f fd) (T:Txt P w K mg G) (O:Os_law P w K mg base G):FnOk P w K mg base CX0 11 f fd ["_law_script"] (spLaw K):=by
 have S:=sc_law
 refine F.ok S (fun vs H Q E h=>?_) (fun cdv A outer s H vs Q E hr h=>?_)
 ·obtain ⟨a,ns,rfl,hS,hlen,k⟩:=h;rfl
 ·obtain ⟨a,ns,rfl,hS,hlen,k⟩:=h
  have hu:=hu_of hr
  have q_ONE:=T.q_ONE
  have q_PRIMES:=T.q_PRIMES
  have q_BOUNDS:=T.q_BOUNDS
  refine⟨_,(pss_cons (ps_set (i:=1) S.nd rfl (Or.inl rfl) (pe_op op_mod (pcall O.law_cell (hr.mono (by decide)) (pa_cons (pv 0) (pa_cons pe_int pa_nil))) pe_int)) (pss_cons (ps_setC (k:=2) (N:=["_law_k","_law_script"]) (ix:=[none,some 0]) S.nd rfl (Or.inl rfl) rfl (pi_range1 rfl T.b_range (pa_cons (pe_op op_mod (pv 1) pe_int) pa_nil)) (fun _ _ _ _ _=>(pg_name (i:=0) (show List.Nodup (["_law_k","_law_script"]:List Str) by decide +kernel) rfl (Or.inl rfl))) (fun _ _ _ _ _=>rfl) (fun _ _ _ _ _=>(pcall O.law_word (hr.mono (by decide)) (pa_cons (pe_op op_mod (pcall O.law_cell (hr.mono (by decide)) (pa_cons (pv 1) (pa_cons (pe_op op_add pe_int (pv 0)) pa_nil))) pe_int) pa_nil))) rfl (by decide +kernel) (by decide +kernel) rfl ⟨⟨rfl,Or.inr (Or.inl rfl),rfl,rfl⟩,True.intro⟩) (pss_cons (ps_if (pt_cmpR op_eq (pe_op op_mod (pe_op op_fdiv (pv 1) pe_int) pe_int) pe_int (nomark _)) (pss_cons (ps_set (i:=3) S.nd rfl (Or.inr rfl) (pe_op op_mod (pcall O.law_cell (hr.mono (by decide)) (pa_cons (pv 0) (pa_cons pe_int pa_nil))) pe_int)) (pss_one (ps_setC (k:=2) (N:=["_law_k","_law_first"]) (ix:=[none,some 3]) S.nd rfl (Or.inl rfl) rfl (pi_range1 rfl T.b_range (pa_cons (pe_op op_add pe_int (pe_op op_mod (pcall O.law_cell (hr.mono (by decide)) (pa_cons (pv 0) (pa_cons pe_int pa_nil))) pe_int)) pa_nil)) (fun _ _ _ _ _=>(pg_name (i:=0) (show List.Nodup (["_law_k","_law_first"]:List Str) by decide +kernel) rfl (Or.inl rfl))) (fun _ _ _ _ _=>rfl) (fun _ _ _ _ _=>(pcall O.law_word (hr.mono (by decide)) (pa_cons (pe_op op_add (pe_op op_add (pv 1) (pe_op op_mul (pe_op op_mul pe_int (pv 0)) (pv 0))) (pe_op op_mul pe_int (pv 0))) pa_nil))) rfl (by decide +kernel) (by decide +kernel) rfl ⟨⟨rfl,Or.inr (Or.inl rfl),rfl,rfl⟩,True.intro⟩))) pss_nil) (pss_cons (ps_set (i:=4) S.nd rfl (Or.inl rfl) (pcall O.law_asked (hr.mono (by decide)) (pa_cons (pcall O.law_text (hr.mono (by decide)) (pa_cons (pv 2) (pa_cons (pe_cmpR op_eq (pe_op op_mod (pe_op op_fdiv (pv 1) pe_int) pe_int) pe_int (nomark _)) pa_nil))) pa_nil))) (pss_cons (ps_setC (k:=5) (N:=["_law_one"]) (ix:=[none]) S.nd rfl (Or.inl rfl) rfl (kpi_list K rfl (pv 2)) (fun _ _ _ _ _=>(pg_name (i:=0) (show List.Nodup (["_law_one"]:List Str) by decide +kernel) rfl (Or.inl rfl))) (fun _ _ _ _ _=>rfl) (fun _ _ _ _ _=>(pe_ix (kx_seq K rfl) (pv 0) pe_int (fun _ _=>rfl))) rfl (by decide +kernel) (by decide +kernel) rfl True.intro) (pss_cons (ps_if (pt_not (pt_val (pe_callB (kN_all K rfl rfl) rfl T.b_all PyProof.Rows.boot_all (pa_cons (pe_comp (N:=["_law_row"]) (ix:=[none]) rfl (kpi_list K rfl (pv 5)) (fun _ _ _ _ _=>(pg_name (i:=0) (show List.Nodup (["_law_row"]:List Str) by decide +kernel) rfl (Or.inl rfl))) (fun _ _ _ _ _=>rfl) (fun _ _ _ _ _=>(pcall O.law_within (hr.mono (by decide)) (pa_cons (pv 0) (pa_cons pe_int (pa_cons pe_int pa_nil))))) rfl (by decide +kernel) (by decide +kernel) rfl True.intro) pa_nil)))) (pss_one (ps_ret (pe_cmpR (kop_eqD K rfl hr.units) (pe_ix (kx_seq K rfl) (pv 4) pe_int (fun _ _=>rfl)) (pe_lst (pa_cons pe_str (pa_cons pe_str pa_nil))) (nomark _)))) pss_nil) (pss_cons (ps_set (i:=6) S.nd rfl (Or.inl rfl) (pcall O.law_scale (hr.mono (by decide)) (pa_cons (pe_comp (N:=["_law_row"]) (ix:=[none]) rfl (kpi_list K rfl (pv 5)) (fun _ _ _ _ _=>(pg_name (i:=0) (show List.Nodup (["_law_row"]:List Str) by decide +kernel) rfl (Or.inl rfl))) (fun _ _ _ _ _=>rfl) (fun _ _ _ _ _=>(pcall O.law_folded (hr.mono (by decide)) (pa_cons (pv 0) pa_nil))) rfl (by decide +kernel) (by decide +kernel) rfl True.intro) pa_nil))) (pss_cons (ps_if (PW.pt (pw_or (pt_cmpR op_notN (pe_ix (kx_seq K rfl) (pv 4) pe_int (fun _ _=>rfl)) pe_non (nomark _)) (pw_or1 (pt_not (pt_val (pcall O.law_rows (hr.mono (by decide)) (pa_cons (pe_ix (kx_seq K rfl) (pv 4) pe_int (fun _ _=>rfl)) (pa_cons (pv 6) pa_nil)))))))) (pss_one (ps_ret pe_bl)) pss_nil) (pss_cons (ps_set (i:=7) S.nd rfl (Or.inl rfl) (pcall O.scale_text (hr.mono (by decide)) (pa_cons (pe_callTy (kN_list K rfl) rfl T.b_list PyProof.Rows.boot_list (pa_cons (pv 6) pa_nil)) pa_nil))) (pss_cons (ps_if (PW.pt (pw_or (pt_not (pt_val (pe_callB (kN_isinst K rfl) rfl T.b_isinstance PyProof.Rows.boot_isinstance (pa_cons (pv 7) (pa_cons (pe_bltn (v:=V.ty "str") rfl T.b_str PyProof.Rows.boot_str rfl) pa_nil))))) (pw_or1 (pt_cmpR op_ne (pv 7) (pcall O.law_names (hr.mono (by decide)) (pa_cons (pv 2) (pa_cons (pv 6) pa_nil))) (nomark _))))) (pss_one (ps_ret pe_bl)) pss_nil) (pss_one (ps_ret (pcall O.law_rows (hr.mono (by decide)) (pa_cons (pcallX (EX:=fun _ _ _=>False) O.scale_read (hr.mono (by decide)) noraise rfl (pa_cons (pv 7) pa_nil)) (pa_cons (pv 6) pa_nil))))))))))))))),?_⟩
  walk_at "w"
  generalize ns.getD (Int.toNat 0) 0 % 1000003=c
  refine rd_rangeWds (K:=K) [some (.ref a)] rfl (by lia) (fun i H' Qc hi s kc=>?_) (fun l1 H1 ys1 ws1 n1 s1 m1 hw1 ho1 hl1=>?_)
  ·have hS':=s.seq hS
   walk_at "w"
   exact c_law_word fun p q N o r0 r1 r2 r3 r4 H5 s5 m5 mq ho hwd=>kc p q (N,o,[r0+o,r1,r2,r3,r4]) H5 s5 (SqT.of m5) (SqT.of mq) ⟨ho,r0,r1,r2,r3,r4,rfl,hwd⟩
  have hS1:=s1.seq hS
  walk_at "j"
  refine join (fun σ' H'=>∃ (o3:Option V) (l:Addr) (ys:List V) (ws:List (Str×Int×List Int)),σ'=[some (.ref a),some (.int c),some (.ref l),o3,none,none,none,none]∧Same H H'∧H' l=some (.lst ys)∧WdsL K H' ys ws∧(∀ w∈ws,WOK w)∧ws.length≤24) (fun nx kn=>?_) (fun σ' H2 hp=>?_)
  ·walk_at "w"
   refine if_both (fun hc=>?_) (fun hc=>?_)
   ·walk_at "w"
    refine rd_rangeWds (K:=K) [some (.int (ns.getD (Int.toNat 1) 0 % 1000003))] rfl (by lia) (fun i H' Qc hi s kc=>?_) (fun l2 H2 ys2 ws2 n2 s2 m2 hw2 ho2 hl2=>?_)
    ·walk_at "w"
     exact c_law_word fun p q N o r0 r1 r2 r3 r4 H5 s5 m5 mq ho hwd=>kc p q (N,o,[r0+o,r1,r2,r3,r4]) H5 s5 (SqT.of m5) (SqT.of mq) ⟨ho,r0,r1,r2,r3,r4,rfl,hwd⟩
    walk_at "w"
    exact kn _ _ ⟨_,l2,ys2,ws2,rfl,s1.trans s2,m2,hw2,ho2,by lia⟩
   ·walk_at "w"
    exact kn _ _ ⟨_,l1,ys1,ws1,rfl,s1,m1,hw1,ho1,by lia⟩
  obtain ⟨o3,l,ys,ws,rfl,s2,m2,hw,ho,hn⟩:=hp
  have lx:=hw.1
  have hrz:∀ w∈ws,rowZ (wOct w.1 w.2.1)=w.2.2∧RB 700 60 w.2.2∧WZ (wOct w.1 w.2.1):=fun w hwm=>by
   obtain ⟨hob,r0,r1,r2,r3,r4,er,hwd⟩:=ho w hwm
   obtain ⟨z1,z2,z3,z4,z5,b0,b1,b2,b3,b4⟩:=hwd.ok (o:=w.2.1) (by lia)
   have hf:fits (r0+w.2.1) r1 r2 r3 r4=true:=fits_tb ⟨by lia,by lia,by lia,by lia,by lia⟩
   refine⟨by unfold rowZ;rw [z2,er];rfl,by rw [er];exact fits_RB hf,by lia,fun h=>?_,z5,_,_,_,_,_,z2,hf⟩
   have:=z4 32 h
   lia
  walk_at "w"
  refine c_law_text (SqL.of m2) hw ho hn fun zs H3 s3 h60 hset=>?_
  have hWZ:∀ z∈zs,WZ z:=fun z hz=>by
   obtain ⟨w,hwm,rfl⟩:=(hset z).mp hz
   exact (hrz w hwm).2.2
  walk_at "w"
  refine c_law_asked ⟨h60,hWZ⟩ fun p4 f kk H4 s4 m4 o1 o2=>?_
  have s24:=s3.trans s4
  have m24:=s24 _ _ m2
  have hw4:=hw.same s24
  walk_at "w"
  refine comp_rows (K:=K) 1 [] ws.length (fun i=>(ws.take i).map (·.2.2)) rfl rfl (fun i=>by simp;lia) (fun H5 s=>⟨_,SqL.of (s _ _ m24),by lia⟩) (fun i H5 hi s=>⟨_,ys[i]'(by lia),SqL.of (s _ _ m24),List.getElem?_eq_getElem _⟩) (fun i x H5 H6 own ho' hi s hy Qy Qn ky kn=>?_) (fun p5 H5 ys5 n5 s5 m5 r5=>?_)
  ·obtain ⟨rfl,hx⟩:=hy
   obtain ⟨o5,rfl⟩:∃ o5,own=[o5]:=by match own,ho' with|[o5],_=>exact⟨o5,rfl⟩
   obtain ⟨p,q,w,rfl,hwi,hp,hq⟩:=(hw4.same s).2 i x (hx _ (SqL.of (s _ _ m24)))
   walk_at "w"
   refine iteT ?_
   walk_at "w"
   exact ky [_] _ w.2.2 _ rfl (Same.refl _) hq (by rw [List.take_add_one,hwi];simp)
  rw [List.take_length] at r5
  have bt:∀ r∈ws.map (·.2.2),RB 700 60 r:=fun r hr=>by
   obtain ⟨w,hwm,rfl⟩:=List.mem_map.mp hr
   exact (hrz w hwm).2.1
  have hzr:∀ (P:List Int→Prop),(∃ z∈zs,P (rowZ z))↔∃ r∈ws.map (·.2.2),P r:=fun P=>by
   constructor
   ·rintro ⟨z,hz,hP⟩
    obtain ⟨w,hwm,rfl⟩:=(hset z).mp hz
    rw [(hrz w hwm).1] at hP
    exact⟨_,List.mem_map.mpr ⟨w,hwm,rfl⟩,hP⟩
   ·rintro ⟨r,hr,hP⟩
    obtain ⟨w,hwm,rfl⟩:=List.mem_map.mp hr
    exact⟨_,(hset _).mpr ⟨w,hwm,rfl⟩,by rw [(hrz w hwm).1];exact hP⟩
  have ewm:(ws.map (·.2.2)).length=ws.length:=List.length_map _
  have htl:∀ r∈ws.map (·.2.2),∃ w∈ws,r=w.2.2:=fun r hr=>by
   obtain ⟨w,hwm,e⟩:=List.mem_map.mp hr
   exact⟨w,hwm,e.symm⟩
  generalize ws.map (·.2.2)=rs4 at r5 bt hzr ewm htl
  have l5:=r5.length
  walk_at "w"
  refine rd_comp1 [] ys5.length (fun i=>.bl (ok30 (rs4.getD i []))) rfl (by lia) (fun H' s=>⟨_,SqL.of (s _ _ m5),Nat.le_refl _⟩) (fun i H' hi s=>⟨_,ys5[i],SqL.of (s _ _ m5),List.getElem?_eq_getElem hi⟩) (fun i x H' H6 Qc hi s hy kc=>?_) (fun l9 H9 hl9 s9 m9=>?_)
  ·obtain ⟨rfl,hx⟩:=hy
   obtain ⟨b,r,rfl,hbr,hri⟩:=(r5.same s).get (hx _ (SqL.of (s _ _ m5)))
   have e:rs4.getD i []=r:=by rw [List.getD,hri];rfl
   rw [e] at kc
   walk_at "w"
   refine c_law_within hbr (bt r (List.mem_of_getElem? hri)) fun H7 s7=>?_
   exact kc _ s7
  walk_at "w"
  refine r_all (bs:=(List.range ys5.length).map fun i=>ok30 (rs4.getD i [])) (SqL.of (by rw [m9,List.map_map];rfl)) ?_
  generalize hall:((List.range ys5.length).map fun i=>ok30 (rs4.getD i [])).all id=al
  have s59:=s5.trans s9
  have m49:=s59 _ _ m4
  walk_at "w"
  cases al with
  | false =>
   have hex:∃ r∈rs4,ok30 r=false:=by
    rw [List.all_map,List.all_eq_false] at hall
    obtain ⟨i,hi,hf⟩:=hall
    have hi':i<rs4.length:=by rw [List.mem_range] at hi;lia
    refine⟨rs4[i],List.getElem_mem hi',?_⟩
    have e:rs4.getD i []=rs4[i]:=by rw [List.getD,List.getElem?_eq_getElem hi'];rfl
    rw [← e]
    simpa using hf
   obtain ⟨q,rfl,mq⟩:=o2 ((hzr fun r=>ok30 r=false).mpr hex)
   refine iteT ?_
   walk_at "w"
   rename_i p10 H10 n10 s10 m10
   refine r_eqD (.lst (SqL.of (s10 _ _ (s59 _ _ mq))) (.cons (.str _) (.cons (.str _) .nil))) (.lst (SqL.of m10) (.cons (.str _) (.cons (.str _) .nil))) (by decide +kernel) (by decide +kernel) ?_
   rw [show PyData.eqv (.list [.str "far",.str "value"]) (.list [.str "far",.str "value"])=true by decide +kernel]
   exact k _
  | true =>
   have hal:∀ r∈rs4,ok30 r=true:=fun r hr=>by
    rw [List.all_map,List.all_eq_true] at hall
    obtain ⟨i,hi,rfl⟩:=List.getElem_of_mem hr
    have e:rs4.getD i []=rs4[i]:=by rw [List.getD,List.getElem?_eq_getElem hi];rfl
    have:=hall i (by rw [List.mem_range];lia)
    rw [← e]
    simpa using this
   obtain ⟨rfl,q,zq,qs,rfl,mq,rq,so,me⟩:=o1 fun z hz=>by
    cases ok:ok30 (rowZ z) with
    | true=>rfl
    | false =>
     obtain ⟨r,hr,hf⟩:=(hzr fun r=>ok30 r=false).mp ⟨z,hz,ok⟩
     rw [hal r hr] at hf
     cases hf
   refine iteF ?_
   have m59:=s9 _ _ m5
   have r59:=r5.same s9
   walk_at "w"
   refine comp_rows (K:=K) 1 [] rs4.length (fun i=>(rs4.take i).map foldR) rfl rfl (fun i=>by simp;lia) (fun H5 s=>⟨_,SqL.of (s _ _ m59),by lia⟩) (fun i H5 hi s=>⟨_,ys5[i]'(by lia),SqL.of (s _ _ m59),List.getElem?_eq_getElem _⟩) (fun i x H5 H6 own ho' hi s hy Qy Qn ky kn=>?_) (fun p11 H11 ys11 n11 s11 m11 r11=>?_)
   ·obtain ⟨rfl,hx⟩:=hy
    obtain ⟨o5,rfl⟩:∃ o5,own=[o5]:=by match own,ho' with|[o5],_=>exact⟨o5,rfl⟩
    obtain ⟨b,r,rfl,hbr,hri⟩:=(r59.same s).get (hx _ (SqL.of (s _ _ m59)))
    have hrm:=List.mem_of_getElem? hri
    walk_at "w"
    refine iteT ?_
    walk_at "w"
    refine c_law_folded hbr (ok30_rb (bt r hrm) (hal r hrm)) fun p4 H7 s7 m7=>?_
    exact ky [_] _ (foldR r) _ rfl s7 (SqT.of m7) (by rw [List.take_add_one,hri];simp)
   rw [List.take_of_length_le (Nat.le_refl _)] at r11
   have fb:∀ q∈rs4.map foldR,RB 1000 30 q∧FoldR q:=fun q hq=>by
    obtain ⟨r,hr,rfl⟩:=List.mem_map.mp hq
    exact⟨(foldR_rb (bt r hr) (hal r hr)).mono (by decide) (by decide),foldR_fold (bt r hr)⟩
   walk_at "w"
   refine c_law_scale (SqL.of m11) r11 fb (by rw [List.length_map];lia) fun p12 ys12 qs12 H12 s12 m12 r12 so12 me12 z12=>?_
   have me':∀ x,x∈qs↔∃ r∈rs4,x=foldR r:=fun x=>(me x).trans (hzr fun r=>x=foldR r)
   have eqq:qs=qs12:=Mth.eq_of_order nsr so so12 fun x=>by
    rw [me' x,me12 x,List.mem_map]
    exact⟨fun ⟨r,hr,e⟩=>⟨r,hr,e.symm⟩,fun ⟨r,hr,e⟩=>⟨r,hr,e.symm⟩⟩
   subst eqq
   have s9c:Same H4 H12:=(s59.trans s11).trans s12
   have b5:∀ r∈qs,∃ a0 a1 a2 a3 a4:Int,r=[a0,a1,a2,a3,a4]:=fun r hr=>by
    obtain ⟨t,ht,rfl⟩:=(me' r).mp hr
    exact⟨_,_,_,_,_,rfl⟩
   have q30:∀ q∈qs,RB 400 30 q∧FoldR q:=fun q hq=>by
    obtain ⟨r,hr,rfl⟩:=(me' q).mp hq
    exact⟨foldR_rb (bt r hr) (hal r hr),foldR_fold (bt r hr)⟩
   have hnd:qs.Nodup:=so.imp fun h e=>by rw [e] at h;exact absurd h (Int.lt_irrefl _)
   have hcov:∀ q∈qs,∃ w∈ws,∃ q0:Int,(-600≤q0∧q0≤600)∧q=q0::w.2.2.tail:=fun q hq=>by
    obtain ⟨r,hr,rfl⟩:=(me' q).mp hq
    obtain ⟨w,hwm,rfl⟩:=htl r hr
    obtain ⟨⟨a0,a1,a2,a3,a4,e,h0,_⟩,_⟩:=q30 _ hq
    obtain ⟨hob,r0,r1,r2,r3,r4,er,hwd⟩:=ho w hwm
    refine⟨w,hwm,a0,by lia,?_⟩
    have e1:(foldR w.2.2).tail=w.2.2.tail:=by rw [er];rfl
    rw [← e1,e]
    rfl
   have m9c:=s9c _ _ mq
   have r9c:=rq.same s9c
   have m412:=s9c _ _ m4
   have hw12:=hw4.same s9c
   have m212:=s9c _ _ m24
   walk_at "w"
   refine⟨rfl,?_⟩
   rw [decide_eq_true rfl]
   walk_at "w"
   refine iteF ?_
   walk_at "w"
   refine c_law_rows (SqL.of m9c) (SqL.of m12) r9c r12 b5 z12 fun H13 s13=>?_
   have m13:=s13 _ _ m12
   have r13:=r12.same s13
   walk_at "w"
   refine iteF ?_
   walk_at "w"
   rename_i p14 H14 n14 s14 m14
   have t600:∀ q∈qs,RB 700 60 q:=fun q hq=>(q30 q hq).1.mono (by decide) (by decide)
   refine c_scale_text (SqL.of m14) (r13.same s14) t600 z12 fun H15 s15=>?_
   have s1215:=s13.trans (s14.trans s15)
   have m15:=s1215 _ _ m12
   have r15:=r12.same s1215
   have hw15:=hw12.same s1215
   have m215:=s1215 _ _ m212
   walk_at "w"
   refine if_ff rfl ?_
   walk_at "w"
   refine c_law_names (SqL.of m215) (SqL.of m15) hw15 r15 ho hn z12 hnd hcov fun H16 s16=>?_
   walk_at "w"
   refine if_ff (by first|rfl|(rw [decide_eq_true rfl];rfl)|simp) ?_
   have hnq:∀ q∈qs,rowZ (nmZ q)=q∧WZ (nmZ q):=fun q hq=>by
    obtain ⟨w,hwm,q0,hq0,eq0⟩:=hcov q hq
    obtain ⟨_,y0,y1,y2,y3,y4,ey,hwd⟩:=ho w hwm
    have hb0:=(hwd.ok (o:=0) (by decide)).2.2.2.2.2
    obtain ⟨z1,z2,z3,z4,z5,b0,b1,b2,b3,b4⟩:=hwd.ok (o:=q0 - y0) (by lia)
    rw [show y0+(q0 - y0)=q0 by lia] at z1 z2
    obtain rfl:q=[q0,y1,y2,y3,y4]:=by rw [eq0,ey];rfl
    rw [z1] at z2 z3 z4 z5
    have hf:fits q0 y1 y2 y3 y4=true:=fits_tb ⟨by lia,by lia,by lia,by lia,by lia⟩
    refine⟨by unfold rowZ;rw [z2];rfl,by lia,fun h=>?_,z5,_,_,_,_,_,z2,hf⟩
    have:=z4 32 h
    lia
   walk_at "w"
   refine c_scale_read (zs:=qs.map nmZ) ⟨by rw [List.length_map];exact z12,fun z hz=>?_⟩ (fun hex=>?_) (fun _ p17 ys17 qs17 H17 s17 m17 r17 so17 me17=>?_)
   ·obtain ⟨q,hq,rfl⟩:=List.mem_map.mp hz
    exact (hnq q hq).2
   ·obtain ⟨z,hz,hf⟩:=hex
    obtain ⟨q,hq,rfl⟩:=List.mem_map.mp hz
    rw [(hnq q hq).1] at hf
    rw [ok30_of (q30 q hq).1] at hf
    cases hf
   have eq17:qs17=qs:=Mth.eq_of_order nsr so17 so fun x=>by
    rw [me17 x]
    constructor
    ·rintro ⟨z,hz,e⟩
     obtain ⟨q,hq,rfl⟩:=List.mem_map.mp hz
     rw [(hnq q hq).1,foldR_id (f:=400) ((q30 q hq).1.mono (by decide) (by decide)) (by decide) (q30 q hq).2] at e
     rw [e];exact hq
    ·intro hq
     refine⟨nmZ x,List.mem_map.mpr ⟨x,hq,rfl⟩,?_⟩
     rw [(hnq x hq).1,foldR_id (f:=400) ((q30 x hq).1.mono (by decide) (by decide)) (by decide) (q30 x hq).2]
   subst eq17
   have s167:=s16.trans s17
   walk_at "w"
   refine c_law_rows (SqL.of m17) (SqL.of (s167 _ _ m15)) r17 (r15.same s167) b5 z12 fun H18 s18=>?_
   exact k _
end
set_option maxHeartbeats 2000000
theorem all_mk {l : PySem.W.OpenLaw} {w : World} {K : PySem.W.Frag} {h : Heap} {mg : Str → Option Value} {fa : Addr} (X : K.In h) (G0 : h.Ns mainGlobals mg) (hfa : mg "law"=some (.ref fa)) {f0 f1 f2 f3 f4 f5 f6 f7 f8 f9 f10 f11 f12 f13 f14 f15 f16 f17 f18 f19 f20 f21 f22 f23 f24 f25 f26 f27 f28 f29 f30 f31 f32 f33 f34 f35 f36 f37 f38 f39 f40 f41 f42 f43 : Addr} {od0 an0 od1 an1 od2 an2 od3 an3 od4 an4 od5 an5 od6 an6 od7 an7 od8 an8 od9 an9 od10 an10 od11 an11 od12 an12 od13 an13 od14 an14 od15 an15 od16 an16 od17 an17 od18 an18 od19 an19 od20 an20 od21 an21 od22 an22 od23 an23 od24 an24 od25 an25 od26 an26 od27 an27 od28 an28 od29 an29 od30 an30 od31 an31 od32 an32 od33 an33 od34 an34 od35 an35 od36 an36 od37 an37 od38 an38 od39 an39 od40 an40 od41 an41 od42 an42 od43 an43 : Option Addr} {sl0 sl1 sl2 sl3 sl4 sl5 sl6 sl7 sl8 sl9 sl10 sl11 sl12 sl13 sl14 sl15 sl16 sl17 sl18 sl19 sl20 sl21 sl22 sl23 sl24 sl25 sl26 sl27 sl28 sl29 sl30 sl31 sl32 sl33 sl34 sl35 sl36 sl37 sl38 sl39 sl40 sl41 sl42 sl43 : Array (Option Value)} {oc0 kV0 dc0 pm0 cd0 ct0 oc1 kV1 dc1 pm1 cd1 ct1 oc2 kV2 dc2 pm2 cd2 ct2 oc3 kV3 dc3 pm3 cd3 ct3 oc4 kV4 dc4 pm4 cd4 ct4 oc5 kV5 dc5 pm5 cd5 ct5 oc6 kV6 dc6 pm6 cd6 ct6 oc7 kV7 dc7 pm7 cd7 ct7 oc8 kV8 dc8 pm8 cd8 ct8 oc9 kV9 dc9 pm9 cd9 ct9 oc10 kV10 dc10 pm10 cd10 ct10 oc11 kV11 dc11 pm11 cd11 ct11 oc12 kV12 dc12 pm12 cd12 ct12 oc13 kV13 dc13 pm13 cd13 ct13 oc14 kV14 dc14 pm14 cd14 ct14 oc15 kV15 dc15 pm15 cd15 ct15 oc16 kV16 dc16 pm16 cd16 ct16 oc17 kV17 dc17 pm17 cd17 ct17 oc18 kV18 dc18 pm18 cd18 ct18 oc19 kV19 dc19 pm19 cd19 ct19 oc20 kV20 dc20 pm20 cd20 ct20 oc21 kV21 dc21 pm21 cd21 ct21 oc22 kV22 dc22 pm22 cd22 ct22 oc23 kV23 dc23 pm23 cd23 ct23 oc24 kV24 dc24 pm24 cd24 ct24 oc25 kV25 dc25 pm25 cd25 ct25 oc26 kV26 dc26 pm26 cd26 ct26 oc27 kV27 dc27 pm27 cd27 ct27 oc28 kV28 dc28 pm28 cd28 ct28 oc29 kV29 dc29 pm29 cd29 ct29 oc30 kV30 dc30 pm30 cd30 ct30 oc31 kV31 dc31 pm31 cd31 ct31 oc32 kV32 dc32 pm32 cd32 ct32 oc33 kV33 dc33 pm33 cd33 ct33 oc34 kV34 dc34 pm34 cd34 ct34 oc35 kV35 dc35 pm35 cd35 ct35 oc36 kV36 dc36 pm36 cd36 ct36 oc37 kV37 dc37 pm37 cd37 ct37 oc38 kV38 dc38 pm38 cd38 ct38 oc39 kV39 dc39 pm39 cd39 ct39 oc40 kV40 dc40 pm40 cd40 ct40 oc41 kV41 dc41 pm41 cd41 ct41 oc42 kV42 dc42 pm42 cd42 ct42 oc43 kV43 dc43 pm43 cd43 ct43 : Value} {u_ONE : Addr} {uo_ONE : Option Addr} {un_ONE : Nat} {us_ONE : Array (Option Value)} {t_ONE0 t_ONE1 t_ONE2 t_ONE3 t_ONE4 : Tok} {u_PRIMES : Addr} {uo_PRIMES : Option Addr} {un_PRIMES : Nat} {us_PRIMES : Array (Option Value)} {t_PRIMES0 t_PRIMES1 t_PRIMES2 t_PRIMES3 t_PRIMES4 : Tok} {u_BOUNDS : Addr} {uo_BOUNDS : Option Addr} {un_BOUNDS : Nat} {us_BOUNDS : Array (Option Value)} {t_BOUNDS0 t_BOUNDS1 t_BOUNDS2 t_BOUNDS3 t_BOUNDS4 : Tok} {u_LETTERS : Addr} {un_LETTERS : Nat} {t_LETTERS_0 t_LETTERS_1 t_LETTERS_2 t_LETTERS_3 t_LETTERS_4 t_LETTERS_5 t_LETTERS_6 : Tok} {u_LETTERS_0 : Addr} {un_LETTERS_0 : Nat} {t_LETTERS_0_0 t_LETTERS_0_1 t_LETTERS_0_2 t_LETTERS_0_3 t_LETTERS_0_4 : Tok} {uo_LETTERS_0 : Option Addr} {us_LETTERS_0 : Array (Option Value)} {u_LETTERS_1 : Addr} {un_LETTERS_1 : Nat} {t_LETTERS_1_0 t_LETTERS_1_1 t_LETTERS_1_2 t_LETTERS_1_3 t_LETTERS_1_4 : Tok} {uo_LETTERS_1 : Option Addr} {us_LETTERS_1 : Array (Option Value)} {u_LETTERS_2 : Addr} {un_LETTERS_2 : Nat} {t_LETTERS_2_0 t_LETTERS_2_1 t_LETTERS_2_2 t_LETTERS_2_3 t_LETTERS_2_4 : Tok} {uo_LETTERS_2 : Option Addr} {us_LETTERS_2 : Array (Option Value)} {u_LETTERS_3 : Addr} {un_LETTERS_3 : Nat} {t_LETTERS_3_0 t_LETTERS_3_1 t_LETTERS_3_2 t_LETTERS_3_3 t_LETTERS_3_4 : Tok} {uo_LETTERS_3 : Option Addr} {us_LETTERS_3 : Array (Option Value)} {u_LETTERS_4 : Addr} {un_LETTERS_4 : Nat} {t_LETTERS_4_0 t_LETTERS_4_1 t_LETTERS_4_2 t_LETTERS_4_3 t_LETTERS_4_4 : Tok} {uo_LETTERS_4 : Option Addr} {us_LETTERS_4 : Array (Option Value)} {u_LETTERS_5 : Addr} {un_LETTERS_5 : Nat} {t_LETTERS_5_0 t_LETTERS_5_1 t_LETTERS_5_2 t_LETTERS_5_3 t_LETTERS_5_4 : Tok} {uo_LETTERS_5 : Option Addr} {us_LETTERS_5 : Array (Option Value)} {u_LETTERS_6 : Addr} {un_LETTERS_6 : Nat} {t_LETTERS_6_0 t_LETTERS_6_1 t_LETTERS_6_2 t_LETTERS_6_3 t_LETTERS_6_4 : Tok} {uo_LETTERS_6 : Option Addr} {us_LETTERS_6 : Array (Option Value)} {u_MARKS : Addr} {un_MARKS : Nat} {uo_MARKS : Option Addr} {us_MARKS : Array (Option Value)} {u_MARKS_0 : Addr} {un_MARKS_0 : Nat} {t_MARKS_0_0 t_MARKS_0_1 : Tok} {uo_MARKS_0 : Option Addr} {us_MARKS_0 : Array (Option Value)} {u_MARKS_0_2 : Addr} {un_MARKS_0_2 : Nat} {t_MARKS_0_2_0 t_MARKS_0_2_1 t_MARKS_0_2_2 t_MARKS_0_2_3 t_MARKS_0_2_4 : Tok} {uo_MARKS_0_2 : Option Addr} {us_MARKS_0_2 : Array (Option Value)} {u_MARKS_1 : Addr} {un_MARKS_1 : Nat} {t_MARKS_1_0 t_MARKS_1_1 : Tok} {uo_MARKS_1 : Option Addr} {us_MARKS_1 : Array (Option Value)} {u_MARKS_1_2 : Addr} {un_MARKS_1_2 : Nat} {t_MARKS_1_2_0 t_MARKS_1_2_1 t_MARKS_1_2_2 t_MARKS_1_2_3 t_MARKS_1_2_4 : Tok} {uo_MARKS_1_2 : Option Addr} {us_MARKS_1_2 : Array (Option Value)} {u_MARKS_2 : Addr} {un_MARKS_2 : Nat} {t_MARKS_2_0 t_MARKS_2_1 : Tok} {uo_MARKS_2 : Option Addr} {us_MARKS_2 : Array (Option Value)} {u_MARKS_2_2 : Addr} {un_MARKS_2_2 : Nat} {t_MARKS_2_2_0 t_MARKS_2_2_1 t_MARKS_2_2_2 t_MARKS_2_2_3 t_MARKS_2_2_4 : Tok} {uo_MARKS_2_2 : Option Addr} {us_MARKS_2_2 : Array (Option Value)} {u_MARKS_3 : Addr} {un_MARKS_3 : Nat} {t_MARKS_3_0 t_MARKS_3_1 : Tok} {uo_MARKS_3 : Option Addr} {us_MARKS_3 : Array (Option Value)} {u_MARKS_3_2 : Addr} {un_MARKS_3_2 : Nat} {t_MARKS_3_2_0 t_MARKS_3_2_1 t_MARKS_3_2_2 t_MARKS_3_2_3 t_MARKS_3_2_4 : Tok} {uo_MARKS_3_2 : Option Addr} {us_MARKS_3_2 : Array (Option Value)} {t_LONGEST : Tok} {t_OCTAVE_FIGURES : Tok} {t_FARTHEST : Tok} {t_MOST_WORDS : Tok} {u_YardError : Addr} {cd_YardError : ClassData} {u_TooFar : Addr} {cd_TooFar : ClassData} {u_NoName : Addr} {cd_NoName : ClassData} {u_NoScale : Addr} {cd_NoScale : ClassData}
    (a0 : PySem.W.nsIn K mainGlobals "is_counting"=some (some (.ref f0))) (l0 : K.lookup f0=some ⟨oc0, od0, .func (PySem.W.fnOf "is_counting" "is_counting" (defArgs s_is_counting) (defBody s_is_counting) (defScope s_is_counting) .none kV0 dc0 pm0 an0 cd0 ct0), sl0⟩) (c0 : PySem.W.codeIn K cd0 "is_counting"=true) (k0 : PySem.W.keepIn K (.ref f0)=true)
    (a1 : PySem.W.nsIn K mainGlobals "is_signed"=some (some (.ref f1))) (l1 : K.lookup f1=some ⟨oc1, od1, .func (PySem.W.fnOf "is_signed" "is_signed" (defArgs s_is_signed) (defBody s_is_signed) (defScope s_is_signed) .none kV1 dc1 pm1 an1 cd1 ct1), sl1⟩) (c1 : PySem.W.codeIn K cd1 "is_signed"=true) (k1 : PySem.W.keepIn K (.ref f1)=true)
    (a2 : PySem.W.nsIn K mainGlobals "is_whole"=some (some (.ref f2))) (l2 : K.lookup f2=some ⟨oc2, od2, .func (PySem.W.fnOf "is_whole" "is_whole" (defArgs s_is_whole) (defBody s_is_whole) (defScope s_is_whole) .none kV2 dc2 pm2 an2 cd2 ct2), sl2⟩) (c2 : PySem.W.codeIn K cd2 "is_whole"=true) (k2 : PySem.W.keepIn K (.ref f2)=true)
    (a3 : PySem.W.nsIn K mainGlobals "is_row"=some (some (.ref f3))) (l3 : K.lookup f3=some ⟨oc3, od3, .func (PySem.W.fnOf "is_row" "is_row" (defArgs s_is_row) (defBody s_is_row) (defScope s_is_row) .none kV3 dc3 pm3 an3 cd3 ct3), sl3⟩) (c3 : PySem.W.codeIn K cd3 "is_row"=true) (k3 : PySem.W.keepIn K (.ref f3)=true)
    (a4 : PySem.W.nsIn K mainGlobals "is_tone"=some (some (.ref f4))) (l4 : K.lookup f4=some ⟨oc4, od4, .func (PySem.W.fnOf "is_tone" "is_tone" (defArgs s_is_tone) (defBody s_is_tone) (defScope s_is_tone) .none kV4 dc4 pm4 an4 cd4 ct4), sl4⟩) (c4 : PySem.W.codeIn K cd4 "is_tone"=true) (k4 : PySem.W.keepIn K (.ref f4)=true)
    (a5 : PySem.W.nsIn K mainGlobals "tone_of"=some (some (.ref f5))) (l5 : K.lookup f5=some ⟨oc5, od5, .func (PySem.W.fnOf "tone_of" "tone_of" (defArgs s_tone_of) (defBody s_tone_of) (defScope s_tone_of) .none kV5 dc5 pm5 an5 cd5 ct5), sl5⟩) (c5 : PySem.W.codeIn K cd5 "tone_of"=true) (k5 : PySem.W.keepIn K (.ref f5)=true)
    (a6 : PySem.W.nsIn K mainGlobals "times"=some (some (.ref f6))) (l6 : K.lookup f6=some ⟨oc6, od6, .func (PySem.W.fnOf "times" "times" (defArgs s_times) (defBody s_times) (defScope s_times) .none kV6 dc6 pm6 an6 cd6 ct6), sl6⟩) (c6 : PySem.W.codeIn K cd6 "times"=true) (k6 : PySem.W.keepIn K (.ref f6)=true)
    (a7 : PySem.W.nsIn K mainGlobals "over"=some (some (.ref f7))) (l7 : K.lookup f7=some ⟨oc7, od7, .func (PySem.W.fnOf "over" "over" (defArgs s_over) (defBody s_over) (defScope s_over) .none kV7 dc7 pm7 an7 cd7 ct7), sl7⟩) (c7 : PySem.W.codeIn K cd7 "over"=true) (k7 : PySem.W.keepIn K (.ref f7)=true)
    (a8 : PySem.W.nsIn K mainGlobals "power"=some (some (.ref f8))) (l8 : K.lookup f8=some ⟨oc8, od8, .func (PySem.W.fnOf "power" "power" (defArgs s_power) (defBody s_power) (defScope s_power) .none kV8 dc8 pm8 an8 cd8 ct8), sl8⟩) (c8 : PySem.W.codeIn K cd8 "power"=true) (k8 : PySem.W.keepIn K (.ref f8)=true)
    (a9 : PySem.W.nsIn K mainGlobals "raised"=some (some (.ref f9))) (l9 : K.lookup f9=some ⟨oc9, od9, .func (PySem.W.fnOf "raised" "raised" (defArgs s_raised) (defBody s_raised) (defScope s_raised) .none kV9 dc9 pm9 an9 cd9 ct9), sl9⟩) (c9 : PySem.W.codeIn K cd9 "raised"=true) (k9 : PySem.W.keepIn K (.ref f9)=true)
    (a10 : PySem.W.nsIn K mainGlobals "number_of"=some (some (.ref f10))) (l10 : K.lookup f10=some ⟨oc10, od10, .func (PySem.W.fnOf "number_of" "number_of" (defArgs s_number_of) (defBody s_number_of) (defScope s_number_of) .none kV10 dc10 pm10 an10 cd10 ct10), sl10⟩) (c10 : PySem.W.codeIn K cd10 "number_of"=true) (k10 : PySem.W.keepIn K (.ref f10)=true)
    (a11 : PySem.W.nsIn K mainGlobals "fraction_of"=some (some (.ref f11))) (l11 : K.lookup f11=some ⟨oc11, od11, .func (PySem.W.fnOf "fraction_of" "fraction_of" (defArgs s_fraction_of) (defBody s_fraction_of) (defScope s_fraction_of) .none kV11 dc11 pm11 an11 cd11 ct11), sl11⟩) (c11 : PySem.W.codeIn K cd11 "fraction_of"=true) (k11 : PySem.W.keepIn K (.ref f11)=true)
    (a12 : PySem.W.nsIn K mainGlobals "run_length"=some (some (.ref f12))) (l12 : K.lookup f12=some ⟨oc12, od12, .func (PySem.W.fnOf "run_length" "run_length" (defArgs s_run_length) (defBody s_run_length) (defScope s_run_length) .none kV12 dc12 pm12 an12 cd12 ct12), sl12⟩) (c12 : PySem.W.codeIn K cd12 "run_length"=true) (k12 : PySem.W.keepIn K (.ref f12)=true)
    (a13 : PySem.W.nsIn K mainGlobals "count_read"=some (some (.ref f13))) (l13 : K.lookup f13=some ⟨oc13, od13, .func (PySem.W.fnOf "count_read" "count_read" (defArgs s_count_read) (defBody s_count_read) (defScope s_count_read) .none kV13 dc13 pm13 an13 cd13 ct13), sl13⟩) (c13 : PySem.W.codeIn K cd13 "count_read"=true) (k13 : PySem.W.keepIn K (.ref f13)=true)
    (a14 : PySem.W.nsIn K mainGlobals "count_text"=some (some (.ref f14))) (l14 : K.lookup f14=some ⟨oc14, od14, .func (PySem.W.fnOf "count_text" "count_text" (defArgs s_count_text) (defBody s_count_text) (defScope s_count_text) .none kV14 dc14 pm14 an14 cd14 ct14), sl14⟩) (c14 : PySem.W.codeIn K cd14 "count_text"=true) (k14 : PySem.W.keepIn K (.ref f14)=true)
    (a15 : PySem.W.nsIn K mainGlobals "octave_read"=some (some (.ref f15))) (l15 : K.lookup f15=some ⟨oc15, od15, .func (PySem.W.fnOf "octave_read" "octave_read" (defArgs s_octave_read) (defBody s_octave_read) (defScope s_octave_read) .none kV15 dc15 pm15 an15 cd15 ct15), sl15⟩) (c15 : PySem.W.codeIn K cd15 "octave_read"=true) (k15 : PySem.W.keepIn K (.ref f15)=true)
    (a16 : PySem.W.nsIn K mainGlobals "named"=some (some (.ref f16))) (l16 : K.lookup f16=some ⟨oc16, od16, .func (PySem.W.fnOf "named" "named" (defArgs s_named) (defBody s_named) (defScope s_named) .none kV16 dc16 pm16 an16 cd16 ct16), sl16⟩) (c16 : PySem.W.codeIn K cd16 "named"=true) (k16 : PySem.W.keepIn K (.ref f16)=true)
    (a17 : PySem.W.nsIn K mainGlobals "name_of"=some (some (.ref f17))) (l17 : K.lookup f17=some ⟨oc17, od17, .func (PySem.W.fnOf "name_of" "name_of" (defArgs s_name_of) (defBody s_name_of) (defScope s_name_of) .none kV17 dc17 pm17 an17 cd17 ct17), sl17⟩) (c17 : PySem.W.codeIn K cd17 "name_of"=true) (k17 : PySem.W.keepIn K (.ref f17)=true)
    (a18 : PySem.W.nsIn K mainGlobals "measure"=some (some (.ref f18))) (l18 : K.lookup f18=some ⟨oc18, od18, .func (PySem.W.fnOf "measure" "measure" (defArgs s_measure) (defBody s_measure) (defScope s_measure) .none kV18 dc18 pm18 an18 cd18 ct18), sl18⟩) (c18 : PySem.W.codeIn K cd18 "measure"=true) (k18 : PySem.W.keepIn K (.ref f18)=true)
    (a19 : PySem.W.nsIn K mainGlobals "rising"=some (some (.ref f19))) (l19 : K.lookup f19=some ⟨oc19, od19, .func (PySem.W.fnOf "rising" "rising" (defArgs s_rising) (defBody s_rising) (defScope s_rising) .none kV19 dc19 pm19 an19 cd19 ct19), sl19⟩) (c19 : PySem.W.codeIn K cd19 "rising"=true) (k19 : PySem.W.keepIn K (.ref f19)=true)
    (a20 : PySem.W.nsIn K mainGlobals "octaves"=some (some (.ref f20))) (l20 : K.lookup f20=some ⟨oc20, od20, .func (PySem.W.fnOf "octaves" "octaves" (defArgs s_octaves) (defBody s_octaves) (defScope s_octaves) .none kV20 dc20 pm20 an20 cd20 ct20), sl20⟩) (c20 : PySem.W.codeIn K cd20 "octaves"=true) (k20 : PySem.W.keepIn K (.ref f20)=true)
    (a21 : PySem.W.nsIn K mainGlobals "folded"=some (some (.ref f21))) (l21 : K.lookup f21=some ⟨oc21, od21, .func (PySem.W.fnOf "folded" "folded" (defArgs s_folded) (defBody s_folded) (defScope s_folded) .none kV21 dc21 pm21 an21 cd21 ct21), sl21⟩) (c21 : PySem.W.codeIn K cd21 "folded"=true) (k21 : PySem.W.keepIn K (.ref f21)=true)
    (a22 : PySem.W.nsIn K mainGlobals "scale_tone"=some (some (.ref f22))) (l22 : K.lookup f22=some ⟨oc22, od22, .func (PySem.W.fnOf "scale_tone" "scale_tone" (defArgs s_scale_tone) (defBody s_scale_tone) (defScope s_scale_tone) .none kV22 dc22 pm22 an22 cd22 ct22), sl22⟩) (c22 : PySem.W.codeIn K cd22 "scale_tone"=true) (k22 : PySem.W.keepIn K (.ref f22)=true)
    (a23 : PySem.W.nsIn K mainGlobals "scale_of"=some (some (.ref f23))) (l23 : K.lookup f23=some ⟨oc23, od23, .func (PySem.W.fnOf "scale_of" "scale_of" (defArgs s_scale_of) (defBody s_scale_of) (defScope s_scale_of) .none kV23 dc23 pm23 an23 cd23 ct23), sl23⟩) (c23 : PySem.W.codeIn K cd23 "scale_of"=true) (k23 : PySem.W.keepIn K (.ref f23)=true)
    (a24 : PySem.W.nsIn K mainGlobals "scale_text"=some (some (.ref f24))) (l24 : K.lookup f24=some ⟨oc24, od24, .func (PySem.W.fnOf "scale_text" "scale_text" (defArgs s_scale_text) (defBody s_scale_text) (defScope s_scale_text) .none kV24 dc24 pm24 an24 cd24 ct24), sl24⟩) (c24 : PySem.W.codeIn K cd24 "scale_text"=true) (k24 : PySem.W.keepIn K (.ref f24)=true)
    (a25 : PySem.W.nsIn K mainGlobals "scale_read"=some (some (.ref f25))) (l25 : K.lookup f25=some ⟨oc25, od25, .func (PySem.W.fnOf "scale_read" "scale_read" (defArgs s_scale_read) (defBody s_scale_read) (defScope s_scale_read) .none kV25 dc25 pm25 an25 cd25 ct25), sl25⟩) (c25 : PySem.W.codeIn K cd25 "scale_read"=true) (k25 : PySem.W.keepIn K (.ref f25)=true)
    (a26 : PySem.W.nsIn K mainGlobals "_law_cell"=some (some (.ref f26))) (l26 : K.lookup f26=some ⟨oc26, od26, .func (PySem.W.fnOf "_law_cell" "_law_cell" (defArgs s_law_cell) (defBody s_law_cell) (defScope s_law_cell) .none kV26 dc26 pm26 an26 cd26 ct26), sl26⟩) (c26 : PySem.W.codeIn K cd26 "_law_cell"=true) (k26 : PySem.W.keepIn K (.ref f26)=true)
    (a27 : PySem.W.nsIn K mainGlobals "_law_part"=some (some (.ref f27))) (l27 : K.lookup f27=some ⟨oc27, od27, .func (PySem.W.fnOf "_law_part" "_law_part" (defArgs s_law_part) (defBody s_law_part) (defScope s_law_part) .none kV27 dc27 pm27 an27 cd27 ct27), sl27⟩) (c27 : PySem.W.codeIn K cd27 "_law_part"=true) (k27 : PySem.W.keepIn K (.ref f27)=true)
    (a28 : PySem.W.nsIn K mainGlobals "_law_signed"=some (some (.ref f28))) (l28 : K.lookup f28=some ⟨oc28, od28, .func (PySem.W.fnOf "_law_signed" "_law_signed" (defArgs s_law_signed) (defBody s_law_signed) (defScope s_law_signed) .none kV28 dc28 pm28 an28 cd28 ct28), sl28⟩) (c28 : PySem.W.codeIn K cd28 "_law_signed"=true) (k28 : PySem.W.keepIn K (.ref f28)=true)
    (a29 : PySem.W.nsIn K mainGlobals "_law_fraction"=some (some (.ref f29))) (l29 : K.lookup f29=some ⟨oc29, od29, .func (PySem.W.fnOf "_law_fraction" "_law_fraction" (defArgs s_law_fraction) (defBody s_law_fraction) (defScope s_law_fraction) .none kV29 dc29 pm29 an29 cd29 ct29), sl29⟩) (c29 : PySem.W.codeIn K cd29 "_law_fraction"=true) (k29 : PySem.W.keepIn K (.ref f29)=true)
    (a30 : PySem.W.nsIn K mainGlobals "_law_folded"=some (some (.ref f30))) (l30 : K.lookup f30=some ⟨oc30, od30, .func (PySem.W.fnOf "_law_folded" "_law_folded" (defArgs s_law_folded) (defBody s_law_folded) (defScope s_law_folded) .none kV30 dc30 pm30 an30 cd30 ct30), sl30⟩) (c30 : PySem.W.codeIn K cd30 "_law_folded"=true) (k30 : PySem.W.keepIn K (.ref f30)=true)
    (a31 : PySem.W.nsIn K mainGlobals "_law_plus"=some (some (.ref f31))) (l31 : K.lookup f31=some ⟨oc31, od31, .func (PySem.W.fnOf "_law_plus" "_law_plus" (defArgs s_law_plus) (defBody s_law_plus) (defScope s_law_plus) .none kV31 dc31 pm31 an31 cd31 ct31), sl31⟩) (c31 : PySem.W.codeIn K cd31 "_law_plus"=true) (k31 : PySem.W.keepIn K (.ref f31)=true)
    (a32 : PySem.W.nsIn K mainGlobals "_law_less"=some (some (.ref f32))) (l32 : K.lookup f32=some ⟨oc32, od32, .func (PySem.W.fnOf "_law_less" "_law_less" (defArgs s_law_less) (defBody s_law_less) (defScope s_law_less) .none kV32 dc32 pm32 an32 cd32 ct32), sl32⟩) (c32 : PySem.W.codeIn K cd32 "_law_less"=true) (k32 : PySem.W.keepIn K (.ref f32)=true)
    (a33 : PySem.W.nsIn K mainGlobals "_law_lower"=some (some (.ref f33))) (l33 : K.lookup f33=some ⟨oc33, od33, .func (PySem.W.fnOf "_law_lower" "_law_lower" (defArgs s_law_lower) (defBody s_law_lower) (defScope s_law_lower) .none kV33 dc33 pm33 an33 cd33 ct33), sl33⟩) (c33 : PySem.W.codeIn K cd33 "_law_lower"=true) (k33 : PySem.W.keepIn K (.ref f33)=true)
    (a34 : PySem.W.nsIn K mainGlobals "_law_scale"=some (some (.ref f34))) (l34 : K.lookup f34=some ⟨oc34, od34, .func (PySem.W.fnOf "_law_scale" "_law_scale" (defArgs s_law_scale) (defBody s_law_scale) (defScope s_law_scale) .none kV34 dc34 pm34 an34 cd34 ct34), sl34⟩) (c34 : PySem.W.codeIn K cd34 "_law_scale"=true) (k34 : PySem.W.keepIn K (.ref f34)=true)
    (a35 : PySem.W.nsIn K mainGlobals "_law_within"=some (some (.ref f35))) (l35 : K.lookup f35=some ⟨oc35, od35, .func (PySem.W.fnOf "_law_within" "_law_within" (defArgs s_law_within) (defBody s_law_within) (defScope s_law_within) .none kV35 dc35 pm35 an35 cd35 ct35), sl35⟩) (c35 : PySem.W.codeIn K cd35 "_law_within"=true) (k35 : PySem.W.keepIn K (.ref f35)=true)
    (a36 : PySem.W.nsIn K mainGlobals "_law_is_row"=some (some (.ref f36))) (l36 : K.lookup f36=some ⟨oc36, od36, .func (PySem.W.fnOf "_law_is_row" "_law_is_row" (defArgs s_law_is_row) (defBody s_law_is_row) (defScope s_law_is_row) .none kV36 dc36 pm36 an36 cd36 ct36), sl36⟩) (c36 : PySem.W.codeIn K cd36 "_law_is_row"=true) (k36 : PySem.W.keepIn K (.ref f36)=true)
    (a37 : PySem.W.nsIn K mainGlobals "_law_rows"=some (some (.ref f37))) (l37 : K.lookup f37=some ⟨oc37, od37, .func (PySem.W.fnOf "_law_rows" "_law_rows" (defArgs s_law_rows) (defBody s_law_rows) (defScope s_law_rows) .none kV37 dc37 pm37 an37 cd37 ct37), sl37⟩) (c37 : PySem.W.codeIn K cd37 "_law_rows"=true) (k37 : PySem.W.keepIn K (.ref f37)=true)
    (a38 : PySem.W.nsIn K mainGlobals "_law_word"=some (some (.ref f38))) (l38 : K.lookup f38=some ⟨oc38, od38, .func (PySem.W.fnOf "_law_word" "_law_word" (defArgs s_law_word) (defBody s_law_word) (defScope s_law_word) .none kV38 dc38 pm38 an38 cd38 ct38), sl38⟩) (c38 : PySem.W.codeIn K cd38 "_law_word"=true) (k38 : PySem.W.keepIn K (.ref f38)=true)
    (a39 : PySem.W.nsIn K mainGlobals "_law_kinds"=some (some (.ref f39))) (l39 : K.lookup f39=some ⟨oc39, od39, .func (PySem.W.fnOf "_law_kinds" "_law_kinds" (defArgs s_law_kinds) (defBody s_law_kinds) (defScope s_law_kinds) .none kV39 dc39 pm39 an39 cd39 ct39), sl39⟩) (c39 : PySem.W.codeIn K cd39 "_law_kinds"=true) (k39 : PySem.W.keepIn K (.ref f39)=true)
    (a40 : PySem.W.nsIn K mainGlobals "_law_asked"=some (some (.ref f40))) (l40 : K.lookup f40=some ⟨oc40, od40, .func (PySem.W.fnOf "_law_asked" "_law_asked" (defArgs s_law_asked) (defBody s_law_asked) (defScope s_law_asked) .none kV40 dc40 pm40 an40 cd40 ct40), sl40⟩) (c40 : PySem.W.codeIn K cd40 "_law_asked"=true) (k40 : PySem.W.keepIn K (.ref f40)=true)
    (a41 : PySem.W.nsIn K mainGlobals "_law_names"=some (some (.ref f41))) (l41 : K.lookup f41=some ⟨oc41, od41, .func (PySem.W.fnOf "_law_names" "_law_names" (defArgs s_law_names) (defBody s_law_names) (defScope s_law_names) .none kV41 dc41 pm41 an41 cd41 ct41), sl41⟩) (c41 : PySem.W.codeIn K cd41 "_law_names"=true) (k41 : PySem.W.keepIn K (.ref f41)=true)
    (a42 : PySem.W.nsIn K mainGlobals "_law_text"=some (some (.ref f42))) (l42 : K.lookup f42=some ⟨oc42, od42, .func (PySem.W.fnOf "_law_text" "_law_text" (defArgs s_law_text) (defBody s_law_text) (defScope s_law_text) .none kV42 dc42 pm42 an42 cd42 ct42), sl42⟩) (c42 : PySem.W.codeIn K cd42 "_law_text"=true) (k42 : PySem.W.keepIn K (.ref f42)=true)
    (a43 : PySem.W.nsIn K mainGlobals "law"=some (some (.ref f43))) (l43 : K.lookup f43=some ⟨oc43, od43, .func (PySem.W.fnOf "law" "law" (defArgs s_law) (defBody s_law) (defScope s_law) .none kV43 dc43 pm43 an43 cd43 ct43), sl43⟩) (c43 : PySem.W.codeIn K cd43 "law"=true) (k43 : PySem.W.keepIn K (.ref f43)=true)
     (x_ONE : PySem.W.nsIn K mainGlobals "ONE"=some (some (.ref u_ONE))) (y_ONE : K.lookup u_ONE=some ⟨.type "tuple", uo_ONE, .seq #[.int 0 t_ONE0, .int 0 t_ONE1, .int 0 t_ONE2, .int 0 t_ONE3, .int 0 t_ONE4] un_ONE, us_ONE⟩) (x_PRIMES : PySem.W.nsIn K mainGlobals "PRIMES"=some (some (.ref u_PRIMES))) (y_PRIMES : K.lookup u_PRIMES=some ⟨.type "tuple", uo_PRIMES, .seq #[.int 2 t_PRIMES0, .int 3 t_PRIMES1, .int 5 t_PRIMES2, .int 7 t_PRIMES3, .int 11 t_PRIMES4] un_PRIMES, us_PRIMES⟩) (x_BOUNDS : PySem.W.nsIn K mainGlobals "BOUNDS"=some (some (.ref u_BOUNDS))) (y_BOUNDS : K.lookup u_BOUNDS=some ⟨.type "tuple", uo_BOUNDS, .seq #[.int 700 t_BOUNDS0, .int 60 t_BOUNDS1, .int 60 t_BOUNDS2, .int 60 t_BOUNDS3, .int 60 t_BOUNDS4] un_BOUNDS, us_BOUNDS⟩) (x_LETTERS : PySem.W.nsIn K mainGlobals "LETTERS"=some (some (.ref u_LETTERS))) (x_MARKS : PySem.W.nsIn K mainGlobals "MARKS"=some (some (.ref u_MARKS))) (y_LETTERS : K.lookup u_LETTERS=some ⟨.type "dict", none, .dict #[⟨PySem.PyData.keyHash w.params "F", .str "F" t_LETTERS_0, .ref u_LETTERS_0⟩, ⟨PySem.PyData.keyHash w.params "C", .str "C" t_LETTERS_1, .ref u_LETTERS_1⟩, ⟨PySem.PyData.keyHash w.params "G", .str "G" t_LETTERS_2, .ref u_LETTERS_2⟩, ⟨PySem.PyData.keyHash w.params "D", .str "D" t_LETTERS_3, .ref u_LETTERS_3⟩, ⟨PySem.PyData.keyHash w.params "A", .str "A" t_LETTERS_4, .ref u_LETTERS_4⟩, ⟨PySem.PyData.keyHash w.params "E", .str "E" t_LETTERS_5, .ref u_LETTERS_5⟩, ⟨PySem.PyData.keyHash w.params "B", .str "B" t_LETTERS_6, .ref u_LETTERS_6⟩] un_LETTERS, #[]⟩) (n_sys_LETTERS : (u_LETTERS == PySem.sysModules)=false) (y_LETTERS_0 : K.lookup u_LETTERS_0=some ⟨.type "tuple", uo_LETTERS_0, .seq #[.int (2) t_LETTERS_0_0, .int (-1) t_LETTERS_0_1, .int (0) t_LETTERS_0_2, .int (0) t_LETTERS_0_3, .int (0) t_LETTERS_0_4] un_LETTERS_0, us_LETTERS_0⟩) (y_LETTERS_1 : K.lookup u_LETTERS_1=some ⟨.type "tuple", uo_LETTERS_1, .seq #[.int (0) t_LETTERS_1_0, .int (0) t_LETTERS_1_1, .int (0) t_LETTERS_1_2, .int (0) t_LETTERS_1_3, .int (0) t_LETTERS_1_4] un_LETTERS_1, us_LETTERS_1⟩) (y_LETTERS_2 : K.lookup u_LETTERS_2=some ⟨.type "tuple", uo_LETTERS_2, .seq #[.int (-1) t_LETTERS_2_0, .int (1) t_LETTERS_2_1, .int (0) t_LETTERS_2_2, .int (0) t_LETTERS_2_3, .int (0) t_LETTERS_2_4] un_LETTERS_2, us_LETTERS_2⟩) (y_LETTERS_3 : K.lookup u_LETTERS_3=some ⟨.type "tuple", uo_LETTERS_3, .seq #[.int (-3) t_LETTERS_3_0, .int (2) t_LETTERS_3_1, .int (0) t_LETTERS_3_2, .int (0) t_LETTERS_3_3, .int (0) t_LETTERS_3_4] un_LETTERS_3, us_LETTERS_3⟩) (y_LETTERS_4 : K.lookup u_LETTERS_4=some ⟨.type "tuple", uo_LETTERS_4, .seq #[.int (-4) t_LETTERS_4_0, .int (3) t_LETTERS_4_1, .int (0) t_LETTERS_4_2, .int (0) t_LETTERS_4_3, .int (0) t_LETTERS_4_4] un_LETTERS_4, us_LETTERS_4⟩) (y_LETTERS_5 : K.lookup u_LETTERS_5=some ⟨.type "tuple", uo_LETTERS_5, .seq #[.int (-6) t_LETTERS_5_0, .int (4) t_LETTERS_5_1, .int (0) t_LETTERS_5_2, .int (0) t_LETTERS_5_3, .int (0) t_LETTERS_5_4] un_LETTERS_5, us_LETTERS_5⟩) (y_LETTERS_6 : K.lookup u_LETTERS_6=some ⟨.type "tuple", uo_LETTERS_6, .seq #[.int (-7) t_LETTERS_6_0, .int (5) t_LETTERS_6_1, .int (0) t_LETTERS_6_2, .int (0) t_LETTERS_6_3, .int (0) t_LETTERS_6_4] un_LETTERS_6, us_LETTERS_6⟩) (y_MARKS : K.lookup u_MARKS=some ⟨.type "tuple", uo_MARKS, .seq #[.ref u_MARKS_0, .ref u_MARKS_1, .ref u_MARKS_2, .ref u_MARKS_3] un_MARKS, us_MARKS⟩) (y_MARKS_0 : K.lookup u_MARKS_0=some ⟨.type "tuple", uo_MARKS_0, .seq #[.str "#" t_MARKS_0_0, .str "b" t_MARKS_0_1, .ref u_MARKS_0_2] un_MARKS_0, us_MARKS_0⟩) (y_MARKS_0_2 : K.lookup u_MARKS_0_2=some ⟨.type "tuple", uo_MARKS_0_2, .seq #[.int (-11) t_MARKS_0_2_0, .int (7) t_MARKS_0_2_1, .int (0) t_MARKS_0_2_2, .int (0) t_MARKS_0_2_3, .int (0) t_MARKS_0_2_4] un_MARKS_0_2, us_MARKS_0_2⟩) (y_MARKS_1 : K.lookup u_MARKS_1=some ⟨.type "tuple", uo_MARKS_1, .seq #[.str "+" t_MARKS_1_0, .str "-" t_MARKS_1_1, .ref u_MARKS_1_2] un_MARKS_1, us_MARKS_1⟩) (y_MARKS_1_2 : K.lookup u_MARKS_1_2=some ⟨.type "tuple", uo_MARKS_1_2, .seq #[.int (-4) t_MARKS_1_2_0, .int (4) t_MARKS_1_2_1, .int (-1) t_MARKS_1_2_2, .int (0) t_MARKS_1_2_3, .int (0) t_MARKS_1_2_4] un_MARKS_1_2, us_MARKS_1_2⟩) (y_MARKS_2 : K.lookup u_MARKS_2=some ⟨.type "tuple", uo_MARKS_2, .seq #[.str ">" t_MARKS_2_0, .str "<" t_MARKS_2_1, .ref u_MARKS_2_2] un_MARKS_2, us_MARKS_2⟩) (y_MARKS_2_2 : K.lookup u_MARKS_2_2=some ⟨.type "tuple", uo_MARKS_2_2, .seq #[.int (6) t_MARKS_2_2_0, .int (-2) t_MARKS_2_2_1, .int (0) t_MARKS_2_2_2, .int (-1) t_MARKS_2_2_3, .int (0) t_MARKS_2_2_4] un_MARKS_2_2, us_MARKS_2_2⟩) (y_MARKS_3 : K.lookup u_MARKS_3=some ⟨.type "tuple", uo_MARKS_3, .seq #[.str "^" t_MARKS_3_0, .str "v" t_MARKS_3_1, .ref u_MARKS_3_2] un_MARKS_3, us_MARKS_3⟩) (y_MARKS_3_2 : K.lookup u_MARKS_3_2=some ⟨.type "tuple", uo_MARKS_3_2, .seq #[.int (-5) t_MARKS_3_2_0, .int (1) t_MARKS_3_2_1, .int (0) t_MARKS_3_2_2, .int (0) t_MARKS_3_2_3, .int (1) t_MARKS_3_2_4] un_MARKS_3_2, us_MARKS_3_2⟩) (x_LONGEST : PySem.W.nsIn K mainGlobals "LONGEST"=some (some (.int 300 t_LONGEST))) (x_OCTAVE_FIGURES : PySem.W.nsIn K mainGlobals "OCTAVE_FIGURES"=some (some (.int 4 t_OCTAVE_FIGURES))) (x_FARTHEST : PySem.W.nsIn K mainGlobals "FARTHEST"=some (some (.int 30 t_FARTHEST))) (x_MOST_WORDS : PySem.W.nsIn K mainGlobals "MOST_WORDS"=some (some (.int 60 t_MOST_WORDS))) (x_YardError : PySem.W.nsIn K mainGlobals "YardError"=some (some (.ref u_YardError))) (k1_YardError : PySem.W.typeIn K (.ref u_YardError)=some (.type "type")) (k2_YardError : PySem.W.clsIn K u_YardError=some cd_YardError) (k3_YardError : PySem.W.subIn K (.ref u_YardError) (.type "BaseException")=some true) (x_TooFar : PySem.W.nsIn K mainGlobals "TooFar"=some (some (.ref u_TooFar))) (k1_TooFar : PySem.W.typeIn K (.ref u_TooFar)=some (.type "type")) (k2_TooFar : PySem.W.clsIn K u_TooFar=some cd_TooFar) (k3_TooFar : PySem.W.subIn K (.ref u_TooFar) (.type "BaseException")=some true) (k4_TooFar : PySem.W.findIn K (.ref u_TooFar) "__getattribute__"=some (some (.builtin "BaseException.__getattribute__"))) (k5_TooFar : PySem.W.findIn K (.ref u_TooFar) "__getattr__"=some none) (k6_TooFar : PySem.W.findIn K (.ref u_TooFar) "__class__"=some (some (.builtin "object.__class__"))) (k7_TooFar : PySem.W.specialIn K (.builtin "object.__class__") "__get__"=some (some (.builtin "getset_descriptor.__get__"))) (k8_TooFar : PySem.W.takesIn K (.builtin "object.__class__")=some true) (k9_TooFar : PySem.W.mroIn K u_TooFar (.type "object")=some true) (kx_TooFar : PySem.W.excIn K u_TooFar [.type "ValueError", .type "Exception", .type "BaseException", .type "object"] "ValueError.__new__"=true) (x_NoName : PySem.W.nsIn K mainGlobals "NoName"=some (some (.ref u_NoName))) (k1_NoName : PySem.W.typeIn K (.ref u_NoName)=some (.type "type")) (k2_NoName : PySem.W.clsIn K u_NoName=some cd_NoName) (k3_NoName : PySem.W.subIn K (.ref u_NoName) (.type "BaseException")=some true) (k4_NoName : PySem.W.findIn K (.ref u_NoName) "__getattribute__"=some (some (.builtin "BaseException.__getattribute__"))) (k5_NoName : PySem.W.findIn K (.ref u_NoName) "__getattr__"=some none) (k6_NoName : PySem.W.findIn K (.ref u_NoName) "__class__"=some (some (.builtin "object.__class__"))) (k7_NoName : PySem.W.specialIn K (.builtin "object.__class__") "__get__"=some (some (.builtin "getset_descriptor.__get__"))) (k8_NoName : PySem.W.takesIn K (.builtin "object.__class__")=some true) (k9_NoName : PySem.W.mroIn K u_NoName (.type "object")=some true) (kx_NoName : PySem.W.excIn K u_NoName [.type "ValueError", .type "Exception", .type "BaseException", .type "object"] "ValueError.__new__"=true) (x_NoScale : PySem.W.nsIn K mainGlobals "NoScale"=some (some (.ref u_NoScale))) (k1_NoScale : PySem.W.typeIn K (.ref u_NoScale)=some (.type "type")) (k2_NoScale : PySem.W.clsIn K u_NoScale=some cd_NoScale) (k3_NoScale : PySem.W.subIn K (.ref u_NoScale) (.type "BaseException")=some true) (k4_NoScale : PySem.W.findIn K (.ref u_NoScale) "__getattribute__"=some (some (.builtin "BaseException.__getattribute__"))) (k5_NoScale : PySem.W.findIn K (.ref u_NoScale) "__getattr__"=some none) (k6_NoScale : PySem.W.findIn K (.ref u_NoScale) "__class__"=some (some (.builtin "object.__class__"))) (k7_NoScale : PySem.W.specialIn K (.builtin "object.__class__") "__get__"=some (some (.builtin "getset_descriptor.__get__"))) (k8_NoScale : PySem.W.takesIn K (.builtin "object.__class__")=some true) (k9_NoScale : PySem.W.mroIn K u_NoScale (.type "object")=some true) (kx_NoScale : PySem.W.excIn K u_NoScale [.type "ValueError", .type "Exception", .type "BaseException", .type "object"] "ValueError.__new__"=true) (s_TooFar_YardError : PySem.W.subIn K (.ref u_TooFar) (.ref u_YardError)=some true) (s_TooFar_NoName : PySem.W.subIn K (.ref u_TooFar) (.ref u_NoName)=some false) (n_TooFar_NoName : u_TooFar ≠ u_NoName) (v_TooFar_ValueError : PySem.W.subIn K (.ref u_TooFar) (.type "ValueError")=some true) (z_ValueError : PySem.W.nsIn K mainGlobals "ValueError"=some none) (z_abs : PySem.W.nsIn K mainGlobals "abs"=some none) (z_all : PySem.W.nsIn K mainGlobals "all"=some none) (z_bool : PySem.W.nsIn K mainGlobals "bool"=some none) (z_int : PySem.W.nsIn K mainGlobals "int"=some none) (z_isinstance : PySem.W.nsIn K mainGlobals "isinstance"=some none) (z_len : PySem.W.nsIn K mainGlobals "len"=some none) (z_list : PySem.W.nsIn K mainGlobals "list"=some none) (z_max : PySem.W.nsIn K mainGlobals "max"=some none) (z_range : PySem.W.nsIn K mainGlobals "range"=some none) (z_sorted : PySem.W.nsIn K mainGlobals "sorted"=some none) (z_str : PySem.W.nsIn K mainGlobals "str"=some none) (z_tuple : PySem.W.nsIn K mainGlobals "tuple"=some none) (z_zip : PySem.W.nsIn K mainGlobals "zip"=some none) :
    ∃ fd : FuncData, (∀ (s : Shared) (v : Value), BindsTo s fd ⟨[v], []⟩ [("_law_script", v)]) ∧ ∀ base : Heap, K.In base → base.Ns mainGlobals mg → FnOk l.prog w K mg base CX0 11 fa fd ["_law_script"] (spLaw K) := by
  have e := hfa.symm.trans (PySem.W.mg_of X G0 a43)
  cases e
  have T : Txt l.prog w K mg ⟨u_ONE, u_PRIMES, u_BOUNDS, u_YardError, u_TooFar, u_NoName, u_NoScale, u_LETTERS, u_LETTERS_0, u_LETTERS_1, u_LETTERS_2, u_LETTERS_3, u_LETTERS_4, u_LETTERS_5, u_LETTERS_6, u_MARKS, u_MARKS_0, u_MARKS_0_2, u_MARKS_1, u_MARKS_1_2, u_MARKS_2, u_MARKS_2_2, u_MARKS_3, u_MARKS_3_2, t_LONGEST, t_OCTAVE_FIGURES, t_FARTHEST, t_MOST_WORDS⟩ := ⟨PySem.W.mg_none_of X G0 z_ValueError, PySem.W.mg_none_of X G0 z_abs, PySem.W.mg_none_of X G0 z_all, PySem.W.mg_none_of X G0 z_bool, PySem.W.mg_none_of X G0 z_int, PySem.W.mg_none_of X G0 z_isinstance, PySem.W.mg_none_of X G0 z_len, PySem.W.mg_none_of X G0 z_list, PySem.W.mg_none_of X G0 z_max, PySem.W.mg_none_of X G0 z_range, PySem.W.mg_none_of X G0 z_sorted, PySem.W.mg_none_of X G0 z_str, PySem.W.mg_none_of X G0 z_tuple, PySem.W.mg_none_of X G0 z_zip, PySem.W.mg_of X G0 x_ONE, fun H => .inr ⟨_, _, _, y_ONE, rfl, rfl, by show 5 ≤ sizeLine;decide, (.cons ⟨_, rfl⟩ (.cons ⟨_, rfl⟩ (.cons ⟨_, rfl⟩ (.cons ⟨_, rfl⟩ (.cons ⟨_, rfl⟩ .nil)))))⟩, PySem.W.mg_of X G0 x_PRIMES, fun H => .inr ⟨_, _, _, y_PRIMES, rfl, rfl, by show 5 ≤ sizeLine;decide, (.cons ⟨_, rfl⟩ (.cons ⟨_, rfl⟩ (.cons ⟨_, rfl⟩ (.cons ⟨_, rfl⟩ (.cons ⟨_, rfl⟩ .nil)))))⟩, PySem.W.mg_of X G0 x_BOUNDS, fun H => .inr ⟨_, _, _, y_BOUNDS, rfl, rfl, by show 5 ≤ sizeLine;decide, (.cons ⟨_, rfl⟩ (.cons ⟨_, rfl⟩ (.cons ⟨_, rfl⟩ (.cons ⟨_, rfl⟩ (.cons ⟨_, rfl⟩ .nil)))))⟩, PySem.W.mg_of X G0 x_LETTERS, PySem.W.mg_of X G0 x_MARKS, fixedD (xs := [("F", t_LETTERS_0, u_LETTERS_0), ("C", t_LETTERS_1, u_LETTERS_1), ("G", t_LETTERS_2, u_LETTERS_2), ("D", t_LETTERS_3, u_LETTERS_3), ("A", t_LETTERS_4, u_LETTERS_4), ("E", t_LETTERS_5, u_LETTERS_5), ("B", t_LETTERS_6, u_LETTERS_6)]) y_LETTERS n_sys_LETTERS (show List.Nodup (["F", "C", "G", "D", "A", "E", "B"] : List Str) by decide +kernel), fun H => .inr ⟨_, _, _, y_LETTERS_0, rfl, rfl, by show 5 ≤ sizeLine;decide, (.cons ⟨_, rfl⟩ (.cons ⟨_, rfl⟩ (.cons ⟨_, rfl⟩ (.cons ⟨_, rfl⟩ (.cons ⟨_, rfl⟩ .nil)))))⟩, fun H => .inr ⟨_, _, _, y_LETTERS_1, rfl, rfl, by show 5 ≤ sizeLine;decide, (.cons ⟨_, rfl⟩ (.cons ⟨_, rfl⟩ (.cons ⟨_, rfl⟩ (.cons ⟨_, rfl⟩ (.cons ⟨_, rfl⟩ .nil)))))⟩, fun H => .inr ⟨_, _, _, y_LETTERS_2, rfl, rfl, by show 5 ≤ sizeLine;decide, (.cons ⟨_, rfl⟩ (.cons ⟨_, rfl⟩ (.cons ⟨_, rfl⟩ (.cons ⟨_, rfl⟩ (.cons ⟨_, rfl⟩ .nil)))))⟩, fun H => .inr ⟨_, _, _, y_LETTERS_3, rfl, rfl, by show 5 ≤ sizeLine;decide, (.cons ⟨_, rfl⟩ (.cons ⟨_, rfl⟩ (.cons ⟨_, rfl⟩ (.cons ⟨_, rfl⟩ (.cons ⟨_, rfl⟩ .nil)))))⟩, fun H => .inr ⟨_, _, _, y_LETTERS_4, rfl, rfl, by show 5 ≤ sizeLine;decide, (.cons ⟨_, rfl⟩ (.cons ⟨_, rfl⟩ (.cons ⟨_, rfl⟩ (.cons ⟨_, rfl⟩ (.cons ⟨_, rfl⟩ .nil)))))⟩, fun H => .inr ⟨_, _, _, y_LETTERS_5, rfl, rfl, by show 5 ≤ sizeLine;decide, (.cons ⟨_, rfl⟩ (.cons ⟨_, rfl⟩ (.cons ⟨_, rfl⟩ (.cons ⟨_, rfl⟩ (.cons ⟨_, rfl⟩ .nil)))))⟩, fun H => .inr ⟨_, _, _, y_LETTERS_6, rfl, rfl, by show 5 ≤ sizeLine;decide, (.cons ⟨_, rfl⟩ (.cons ⟨_, rfl⟩ (.cons ⟨_, rfl⟩ (.cons ⟨_, rfl⟩ (.cons ⟨_, rfl⟩ .nil)))))⟩, fun H => .inr ⟨_, _, _, y_MARKS, rfl, rfl, by show 4 ≤ sizeLine;decide, (.cons rfl (.cons rfl (.cons rfl (.cons rfl .nil))))⟩, fun H => .inr ⟨_, _, _, y_MARKS_0, rfl, rfl, by show 3 ≤ sizeLine;decide, (.cons ⟨_, rfl⟩ (.cons ⟨_, rfl⟩ (.cons rfl .nil)))⟩, fun H => .inr ⟨_, _, _, y_MARKS_0_2, rfl, rfl, by show 5 ≤ sizeLine;decide, (.cons ⟨_, rfl⟩ (.cons ⟨_, rfl⟩ (.cons ⟨_, rfl⟩ (.cons ⟨_, rfl⟩ (.cons ⟨_, rfl⟩ .nil)))))⟩, fun H => .inr ⟨_, _, _, y_MARKS_1, rfl, rfl, by show 3 ≤ sizeLine;decide, (.cons ⟨_, rfl⟩ (.cons ⟨_, rfl⟩ (.cons rfl .nil)))⟩, fun H => .inr ⟨_, _, _, y_MARKS_1_2, rfl, rfl, by show 5 ≤ sizeLine;decide, (.cons ⟨_, rfl⟩ (.cons ⟨_, rfl⟩ (.cons ⟨_, rfl⟩ (.cons ⟨_, rfl⟩ (.cons ⟨_, rfl⟩ .nil)))))⟩, fun H => .inr ⟨_, _, _, y_MARKS_2, rfl, rfl, by show 3 ≤ sizeLine;decide, (.cons ⟨_, rfl⟩ (.cons ⟨_, rfl⟩ (.cons rfl .nil)))⟩, fun H => .inr ⟨_, _, _, y_MARKS_2_2, rfl, rfl, by show 5 ≤ sizeLine;decide, (.cons ⟨_, rfl⟩ (.cons ⟨_, rfl⟩ (.cons ⟨_, rfl⟩ (.cons ⟨_, rfl⟩ (.cons ⟨_, rfl⟩ .nil)))))⟩, fun H => .inr ⟨_, _, _, y_MARKS_3, rfl, rfl, by show 3 ≤ sizeLine;decide, (.cons ⟨_, rfl⟩ (.cons ⟨_, rfl⟩ (.cons rfl .nil)))⟩, fun H => .inr ⟨_, _, _, y_MARKS_3_2, rfl, rfl, by show 5 ≤ sizeLine;decide, (.cons ⟨_, rfl⟩ (.cons ⟨_, rfl⟩ (.cons ⟨_, rfl⟩ (.cons ⟨_, rfl⟩ (.cons ⟨_, rfl⟩ .nil)))))⟩, PySem.W.mg_of X G0 x_LONGEST, PySem.W.mg_of X G0 x_OCTAVE_FIGURES, PySem.W.mg_of X G0 x_FARTHEST, PySem.W.mg_of X G0 x_MOST_WORDS, PySem.W.mg_of X G0 x_YardError, x_YardError, HCls.mk' k1_YardError k2_YardError k3_YardError, PySem.W.mg_of X G0 x_TooFar, x_TooFar, HCls.mk' k1_TooFar k2_TooFar k3_TooFar, XCls.mk' k4_TooFar k5_TooFar k2_TooFar k6_TooFar k7_TooFar k8_TooFar k9_TooFar k3_TooFar, kx_TooFar, PySem.W.mg_of X G0 x_NoName, x_NoName, HCls.mk' k1_NoName k2_NoName k3_NoName, XCls.mk' k4_NoName k5_NoName k2_NoName k6_NoName k7_NoName k8_NoName k9_NoName k3_NoName, kx_NoName, PySem.W.mg_of X G0 x_NoScale, x_NoScale, HCls.mk' k1_NoScale k2_NoScale k3_NoScale, XCls.mk' k4_NoScale k5_NoScale k2_NoScale k6_NoScale k7_NoScale k8_NoScale k9_NoScale k3_NoScale, kx_NoScale, s_TooFar_YardError, s_TooFar_NoName, n_TooFar_NoName, v_TooFar_ValueError⟩
  have F0 := fun_mk (st := s_is_counting) l0 c0 k0
  have D_is_counting : Def K mg "is_counting" s_is_counting ["text", "most"] := ⟨_, _, F0, PySem.W.mg_of X G0 a0, F0.binds (ps := ["text", "most"]) fun _ _ _ _ _ _ us hl => of_len2 us hl fun _ _ => rfl⟩
  have F1 := fun_mk (st := s_is_signed) l1 c1 k1
  have D_is_signed : Def K mg "is_signed" s_is_signed ["text", "most"] := ⟨_, _, F1, PySem.W.mg_of X G0 a1, F1.binds (ps := ["text", "most"]) fun _ _ _ _ _ _ us hl => of_len2 us hl fun _ _ => rfl⟩
  have F2 := fun_mk (st := s_is_whole) l2 c2 k2
  have D_is_whole : Def K mg "is_whole" s_is_whole ["thing"] := ⟨_, _, F2, PySem.W.mg_of X G0 a2, F2.binds (ps := ["thing"]) fun _ _ _ _ _ _ us hl => of_len1 us hl fun _ => rfl⟩
  have F3 := fun_mk (st := s_is_row) l3 c3 k3
  have D_is_row : Def K mg "is_row" s_is_row ["thing"] := ⟨_, _, F3, PySem.W.mg_of X G0 a3, F3.binds (ps := ["thing"]) fun _ _ _ _ _ _ us hl => of_len1 us hl fun _ => rfl⟩
  have F4 := fun_mk (st := s_is_tone) l4 c4 k4
  have D_is_tone : Def K mg "is_tone" s_is_tone ["thing"] := ⟨_, _, F4, PySem.W.mg_of X G0 a4, F4.binds (ps := ["thing"]) fun _ _ _ _ _ _ us hl => of_len1 us hl fun _ => rfl⟩
  have F5 := fun_mk (st := s_tone_of) l5 c5 k5
  have D_tone_of : Def K mg "tone_of" s_tone_of ["row"] := ⟨_, _, F5, PySem.W.mg_of X G0 a5, F5.binds (ps := ["row"]) fun _ _ _ _ _ _ us hl => of_len1 us hl fun _ => rfl⟩
  have F6 := fun_mk (st := s_times) l6 c6 k6
  have D_times : Def K mg "times" s_times ["one", "other"] := ⟨_, _, F6, PySem.W.mg_of X G0 a6, F6.binds (ps := ["one", "other"]) fun _ _ _ _ _ _ us hl => of_len2 us hl fun _ _ => rfl⟩
  have F7 := fun_mk (st := s_over) l7 c7 k7
  have D_over : Def K mg "over" s_over ["one", "other"] := ⟨_, _, F7, PySem.W.mg_of X G0 a7, F7.binds (ps := ["one", "other"]) fun _ _ _ _ _ _ us hl => of_len2 us hl fun _ _ => rfl⟩
  have F8 := fun_mk (st := s_power) l8 c8 k8
  have D_power : Def K mg "power" s_power ["row", "n"] := ⟨_, _, F8, PySem.W.mg_of X G0 a8, F8.binds (ps := ["row", "n"]) fun _ _ _ _ _ _ us hl => of_len2 us hl fun _ _ => rfl⟩
  have F9 := fun_mk (st := s_raised) l9 c9 k9
  have D_raised : Def K mg "raised" s_raised ["base", "exponent"] := ⟨_, _, F9, PySem.W.mg_of X G0 a9, F9.binds (ps := ["base", "exponent"]) fun _ _ _ _ _ _ us hl => of_len2 us hl fun _ _ => rfl⟩
  have F10 := fun_mk (st := s_number_of) l10 c10 k10
  have D_number_of : Def K mg "number_of" s_number_of ["row"] := ⟨_, _, F10, PySem.W.mg_of X G0 a10, F10.binds (ps := ["row"]) fun _ _ _ _ _ _ us hl => of_len1 us hl fun _ => rfl⟩
  have F11 := fun_mk (st := s_fraction_of) l11 c11 k11
  have D_fraction_of : Def K mg "fraction_of" s_fraction_of ["tone"] := ⟨_, _, F11, PySem.W.mg_of X G0 a11, F11.binds (ps := ["tone"]) fun _ _ _ _ _ _ us hl => of_len1 us hl fun _ => rfl⟩
  have F12 := fun_mk (st := s_run_length) l12 c12 k12
  have D_run_length : Def K mg "run_length" s_run_length ["text", "start", "sign"] := ⟨_, _, F12, PySem.W.mg_of X G0 a12, F12.binds (ps := ["text", "start", "sign"]) fun _ _ _ _ _ _ us hl => of_len3 us hl fun _ _ _ => rfl⟩
  have F13 := fun_mk (st := s_count_read) l13 c13 k13
  have D_count_read : Def K mg "count_read" s_count_read ["text", "start", "mark"] := ⟨_, _, F13, PySem.W.mg_of X G0 a13, F13.binds (ps := ["text", "start", "mark"]) fun _ _ _ _ _ _ us hl => of_len3 us hl fun _ _ _ => rfl⟩
  have F14 := fun_mk (st := s_count_text) l14 c14 k14
  have D_count_text : Def K mg "count_text" s_count_text ["mark", "count"] := ⟨_, _, F14, PySem.W.mg_of X G0 a14, F14.binds (ps := ["mark", "count"]) fun _ _ _ _ _ _ us hl => of_len2 us hl fun _ _ => rfl⟩
  have F15 := fun_mk (st := s_octave_read) l15 c15 k15
  have D_octave_read : Def K mg "octave_read" s_octave_read ["text"] := ⟨_, _, F15, PySem.W.mg_of X G0 a15, F15.binds (ps := ["text"]) fun _ _ _ _ _ _ us hl => of_len1 us hl fun _ => rfl⟩
  have F16 := fun_mk (st := s_named) l16 c16 k16
  have D_named : Def K mg "named" s_named ["text"] := ⟨_, _, F16, PySem.W.mg_of X G0 a16, F16.binds (ps := ["text"]) fun _ _ _ _ _ _ us hl => of_len1 us hl fun _ => rfl⟩
  have F17 := fun_mk (st := s_name_of) l17 c17 k17
  have D_name_of : Def K mg "name_of" s_name_of ["tone"] := ⟨_, _, F17, PySem.W.mg_of X G0 a17, F17.binds (ps := ["tone"]) fun _ _ _ _ _ _ us hl => of_len1 us hl fun _ => rfl⟩
  have F18 := fun_mk (st := s_measure) l18 c18 k18
  have D_measure : Def K mg "measure" s_measure ["tone"] := ⟨_, _, F18, PySem.W.mg_of X G0 a18, F18.binds (ps := ["tone"]) fun _ _ _ _ _ _ us hl => of_len1 us hl fun _ => rfl⟩
  have F19 := fun_mk (st := s_rising) l19 c19 k19
  have D_rising : Def K mg "rising" s_rising ["tones"] := ⟨_, _, F19, PySem.W.mg_of X G0 a19, F19.binds (ps := ["tones"]) fun _ _ _ _ _ _ us hl => of_len1 us hl fun _ => rfl⟩
  have F20 := fun_mk (st := s_octaves) l20 c20 k20
  have D_octaves : Def K mg "octaves" s_octaves ["tone"] := ⟨_, _, F20, PySem.W.mg_of X G0 a20, F20.binds (ps := ["tone"]) fun _ _ _ _ _ _ us hl => of_len1 us hl fun _ => rfl⟩
  have F21 := fun_mk (st := s_folded) l21 c21 k21
  have D_folded : Def K mg "folded" s_folded ["tone"] := ⟨_, _, F21, PySem.W.mg_of X G0 a21, F21.binds (ps := ["tone"]) fun _ _ _ _ _ _ us hl => of_len1 us hl fun _ => rfl⟩
  have F22 := fun_mk (st := s_scale_tone) l22 c22 k22
  have D_scale_tone : Def K mg "scale_tone" s_scale_tone ["tone"] := ⟨_, _, F22, PySem.W.mg_of X G0 a22, F22.binds (ps := ["tone"]) fun _ _ _ _ _ _ us hl => of_len1 us hl fun _ => rfl⟩
  have F23 := fun_mk (st := s_scale_of) l23 c23 k23
  have D_scale_of : Def K mg "scale_of" s_scale_of ["tones"] := ⟨_, _, F23, PySem.W.mg_of X G0 a23, F23.binds (ps := ["tones"]) fun _ _ _ _ _ _ us hl => of_len1 us hl fun _ => rfl⟩
  have F24 := fun_mk (st := s_scale_text) l24 c24 k24
  have D_scale_text : Def K mg "scale_text" s_scale_text ["scale"] := ⟨_, _, F24, PySem.W.mg_of X G0 a24, F24.binds (ps := ["scale"]) fun _ _ _ _ _ _ us hl => of_len1 us hl fun _ => rfl⟩
  have F25 := fun_mk (st := s_scale_read) l25 c25 k25
  have D_scale_read : Def K mg "scale_read" s_scale_read ["text"] := ⟨_, _, F25, PySem.W.mg_of X G0 a25, F25.binds (ps := ["text"]) fun _ _ _ _ _ _ us hl => of_len1 us hl fun _ => rfl⟩
  have F26 := fun_mk (st := s_law_cell) l26 c26 k26
  have D_law_cell : Def K mg "_law_cell" s_law_cell ["_law_script", "_law_k"] := ⟨_, _, F26, PySem.W.mg_of X G0 a26, F26.binds (ps := ["_law_script", "_law_k"]) fun _ _ _ _ _ _ us hl => of_len2 us hl fun _ _ => rfl⟩
  have F27 := fun_mk (st := s_law_part) l27 c27 k27
  have D_law_part : Def K mg "_law_part" s_law_part ["_law_cell_here", "_law_k", "_law_many"] := ⟨_, _, F27, PySem.W.mg_of X G0 a27, F27.binds (ps := ["_law_cell_here", "_law_k", "_law_many"]) fun _ _ _ _ _ _ us hl => of_len3 us hl fun _ _ _ => rfl⟩
  have F28 := fun_mk (st := s_law_signed) l28 c28 k28
  have D_law_signed : Def K mg "_law_signed" s_law_signed ["_law_cell_here", "_law_k", "_law_half"] := ⟨_, _, F28, PySem.W.mg_of X G0 a28, F28.binds (ps := ["_law_cell_here", "_law_k", "_law_half"]) fun _ _ _ _ _ _ us hl => of_len3 us hl fun _ _ _ => rfl⟩
  have F29 := fun_mk (st := s_law_fraction) l29 c29 k29
  have D_law_fraction : Def K mg "_law_fraction" s_law_fraction ["_law_row"] := ⟨_, _, F29, PySem.W.mg_of X G0 a29, F29.binds (ps := ["_law_row"]) fun _ _ _ _ _ _ us hl => of_len1 us hl fun _ => rfl⟩
  have F30 := fun_mk (st := s_law_folded) l30 c30 k30
  have D_law_folded : Def K mg "_law_folded" s_law_folded ["_law_row"] := ⟨_, _, F30, PySem.W.mg_of X G0 a30, F30.binds (ps := ["_law_row"]) fun _ _ _ _ _ _ us hl => of_len1 us hl fun _ => rfl⟩
  have F31 := fun_mk (st := s_law_plus) l31 c31 k31
  have D_law_plus : Def K mg "_law_plus" s_law_plus ["_law_one", "_law_other"] := ⟨_, _, F31, PySem.W.mg_of X G0 a31, F31.binds (ps := ["_law_one", "_law_other"]) fun _ _ _ _ _ _ us hl => of_len2 us hl fun _ _ => rfl⟩
  have F32 := fun_mk (st := s_law_less) l32 c32 k32
  have D_law_less : Def K mg "_law_less" s_law_less ["_law_one", "_law_other"] := ⟨_, _, F32, PySem.W.mg_of X G0 a32, F32.binds (ps := ["_law_one", "_law_other"]) fun _ _ _ _ _ _ us hl => of_len2 us hl fun _ _ => rfl⟩
  have F33 := fun_mk (st := s_law_lower) l33 c33 k33
  have D_law_lower : Def K mg "_law_lower" s_law_lower ["_law_one", "_law_other"] := ⟨_, _, F33, PySem.W.mg_of X G0 a33, F33.binds (ps := ["_law_one", "_law_other"]) fun _ _ _ _ _ _ us hl => of_len2 us hl fun _ _ => rfl⟩
  have F34 := fun_mk (st := s_law_scale) l34 c34 k34
  have D_law_scale : Def K mg "_law_scale" s_law_scale ["_law_rows_here"] := ⟨_, _, F34, PySem.W.mg_of X G0 a34, F34.binds (ps := ["_law_rows_here"]) fun _ _ _ _ _ _ us hl => of_len1 us hl fun _ => rfl⟩
  have F35 := fun_mk (st := s_law_within) l35 c35 k35
  have D_law_within : Def K mg "_law_within" s_law_within ["_law_row", "_law_first", "_law_half"] := ⟨_, _, F35, PySem.W.mg_of X G0 a35, F35.binds (ps := ["_law_row", "_law_first", "_law_half"]) fun _ _ _ _ _ _ us hl => of_len3 us hl fun _ _ _ => rfl⟩
  have F36 := fun_mk (st := s_law_is_row) l36 c36 k36
  have D_law_is_row : Def K mg "_law_is_row" s_law_is_row ["_law_found"] := ⟨_, _, F36, PySem.W.mg_of X G0 a36, F36.binds (ps := ["_law_found"]) fun _ _ _ _ _ _ us hl => of_len1 us hl fun _ => rfl⟩
  have F37 := fun_mk (st := s_law_rows) l37 c37 k37
  have D_law_rows : Def K mg "_law_rows" s_law_rows ["_law_found", "_law_due"] := ⟨_, _, F37, PySem.W.mg_of X G0 a37, F37.binds (ps := ["_law_found", "_law_due"]) fun _ _ _ _ _ _ us hl => of_len2 us hl fun _ _ => rfl⟩
  have F38 := fun_mk (st := s_law_word) l38 c38 k38
  have D_law_word : Def K mg "_law_word" s_law_word ["_law_cell_here"] := ⟨_, _, F38, PySem.W.mg_of X G0 a38, F38.binds (ps := ["_law_cell_here"]) fun _ _ _ _ _ _ us hl => of_len1 us hl fun _ => rfl⟩
  have F39 := fun_mk (st := s_law_kinds) l39 c39 k39
  have D_law_kinds : Def K mg "_law_kinds" s_law_kinds ["_law_e"] := ⟨_, _, F39, PySem.W.mg_of X G0 a39, F39.binds (ps := ["_law_e"]) fun _ _ _ _ _ _ us hl => of_len1 us hl fun _ => rfl⟩
  have F40 := fun_mk (st := s_law_asked) l40 c40 k40
  have D_law_asked : Def K mg "_law_asked" s_law_asked ["_law_text_here"] := ⟨_, _, F40, PySem.W.mg_of X G0 a40, F40.binds (ps := ["_law_text_here"]) fun _ _ _ _ _ _ us hl => of_len1 us hl fun _ => rfl⟩
  have F41 := fun_mk (st := s_law_names) l41 c41 k41
  have D_law_names : Def K mg "_law_names" s_law_names ["_law_told", "_law_scale_here"] := ⟨_, _, F41, PySem.W.mg_of X G0 a41, F41.binds (ps := ["_law_told", "_law_scale_here"]) fun _ _ _ _ _ _ us hl => of_len2 us hl fun _ _ => rfl⟩
  have F42 := fun_mk (st := s_law_text) l42 c42 k42
  have D_law_text : Def K mg "_law_text" s_law_text ["_law_told", "_law_over_again"] := ⟨_, _, F42, PySem.W.mg_of X G0 a42, F42.binds (ps := ["_law_told", "_law_over_again"]) fun _ _ _ _ _ _ us hl => of_len2 us hl fun _ _ => rfl⟩
  have F43 := fun_mk (st := s_law) l43 c43 k43
  refine⟨PySem.W.fnOf "law" "law" (defArgs s_law) (defBody s_law) (defScope s_law) .none kV43 dc43 pm43 an43 cd43 ct43, fun s v => .of_eq rfl, fun base _ _ => ?_⟩
  have O_is_counting := ok_is_counting (P := l.prog) (w := w) (base := base) D_is_counting T
  have O_is_whole := ok_is_whole (P := l.prog) (w := w) (base := base) D_is_whole T
  have O_times := ok_times (P := l.prog) (w := w) (base := base) D_times T
  have O_over := ok_over (P := l.prog) (w := w) (base := base) D_over T
  have O_power := ok_power (P := l.prog) (w := w) (base := base) D_power T
  have O_raised := ok_raised (P := l.prog) (w := w) (base := base) D_raised T
  have O_run_length := ok_run_length (P := l.prog) (w := w) (base := base) D_run_length T
  have O_count_text := ok_count_text (P := l.prog) (w := w) (base := base) D_count_text T
  have O_law_cell := ok_law_cell (P := l.prog) (w := w) (base := base) D_law_cell T
  have O_law_part := ok_law_part (P := l.prog) (w := w) (base := base) D_law_part T
  have O_law_fraction := ok_law_fraction (P := l.prog) (w := w) (base := base) D_law_fraction T
  have O_law_plus := ok_law_plus (P := l.prog) (w := w) (base := base) D_law_plus T
  have O_law_less := ok_law_less (P := l.prog) (w := w) (base := base) D_law_less T
  have O_law_within := ok_law_within (P := l.prog) (w := w) (base := base) D_law_within T
  have O_law_is_row := ok_law_is_row (P := l.prog) (w := w) (base := base) D_law_is_row T
  have O_law_kinds := ok_law_kinds (P := l.prog) (w := w) (base := base) D_law_kinds T
  have O_law_names := ok_law_names (P := l.prog) (w := w) (base := base) D_law_names T
  have O_law_text := ok_law_text (P := l.prog) (w := w) (base := base) D_law_text T
  have O_is_signed := ok_is_signed (P := l.prog) (w := w) (base := base) D_is_signed T ⟨O_is_counting⟩
  have O_is_row := ok_is_row (P := l.prog) (w := w) (base := base) D_is_row T ⟨O_is_whole⟩
  have O_number_of := ok_number_of (P := l.prog) (w := w) (base := base) D_number_of T ⟨O_raised⟩
  have O_count_read := ok_count_read (P := l.prog) (w := w) (base := base) D_count_read T ⟨O_run_length⟩
  have O_name_of := ok_name_of (P := l.prog) (w := w) (base := base) D_name_of T ⟨O_over, O_power, O_count_text⟩
  have O_law_signed := ok_law_signed (P := l.prog) (w := w) (base := base) D_law_signed T ⟨O_law_part⟩
  have O_law_folded := ok_law_folded (P := l.prog) (w := w) (base := base) D_law_folded T ⟨O_law_fraction⟩
  have O_law_lower := ok_law_lower (P := l.prog) (w := w) (base := base) D_law_lower T ⟨O_law_fraction, O_law_less⟩
  have O_law_rows := ok_law_rows (P := l.prog) (w := w) (base := base) D_law_rows T ⟨O_law_is_row⟩
  have O_is_tone := ok_is_tone (P := l.prog) (w := w) (base := base) D_is_tone T ⟨O_is_row⟩
  have O_fraction_of := ok_fraction_of (P := l.prog) (w := w) (base := base) D_fraction_of T ⟨O_number_of⟩
  have O_octave_read := ok_octave_read (P := l.prog) (w := w) (base := base) D_octave_read T ⟨O_is_signed⟩
  have O_scale_text := ok_scale_text (P := l.prog) (w := w) (base := base) D_scale_text T ⟨O_name_of⟩
  have O_law_scale := ok_law_scale (P := l.prog) (w := w) (base := base) D_law_scale T ⟨O_law_lower⟩
  have O_law_word := ok_law_word (P := l.prog) (w := w) (base := base) D_law_word T ⟨O_law_part, O_law_signed, O_law_plus, O_law_less⟩
  have O_tone_of := ok_tone_of (P := l.prog) (w := w) (base := base) D_tone_of T ⟨O_is_tone⟩
  have O_measure := ok_measure (P := l.prog) (w := w) (base := base) D_measure T ⟨O_number_of, O_fraction_of⟩
  have O_octaves := ok_octaves (P := l.prog) (w := w) (base := base) D_octaves T ⟨O_fraction_of⟩
  have O_named := ok_named (P := l.prog) (w := w) (base := base) D_named T ⟨O_tone_of, O_times, O_power, O_count_read, O_octave_read⟩
  have O_folded := ok_folded (P := l.prog) (w := w) (base := base) D_folded T ⟨O_over, O_octaves⟩
  have O_scale_tone := ok_scale_tone (P := l.prog) (w := w) (base := base) D_scale_tone T ⟨O_folded⟩
  have O_rising := ok_rising (P := l.prog) (w := w) (base := base) D_rising T ⟨O_measure⟩
  have O_scale_of := ok_scale_of (P := l.prog) (w := w) (base := base) D_scale_of T ⟨O_rising, O_scale_tone⟩
  have O_scale_read := ok_scale_read (P := l.prog) (w := w) (base := base) D_scale_read T ⟨O_named, O_scale_of⟩
  have O_law_asked := ok_law_asked (P := l.prog) (w := w) (base := base) D_law_asked T ⟨O_scale_read, O_law_kinds⟩
  exact fn_law F43 T ⟨O_scale_text, O_scale_read, O_law_cell, O_law_folded, O_law_scale, O_law_within, O_law_rows, O_law_word, O_law_asked, O_law_names, O_law_text⟩
end Law
open PySem PySem.W PyProof.Rows
set_option maxRecDepth 100000 in
set_option maxHeartbeats 0 in
theorem PySem.Challenge.cw_tuningyard_k25_scales_written_read_holds : PySem.Challenge.rw_tuningyard_k25_scales_written_read.Holds := by
 w_on;o_law;k_head;(case hw=>w_witness2)
 k_fill
 refine L2.walk_ofK (l:=PySem.Challenge.rw_tuningyard_k25_scales_written_read) (n:=63) (k:=11) (x:="_law_script") (CX:=L2.CX0) (sp:=L2.spLaw) rfl (by decide) rfl ⟨rfl,by decide,by decide⟩ (fun w h Y=>PySem.W.kIn_of Y) ?F (fun _ _ a ns hl _ hS=>⟨a,ns,rfl,hS,hl,fun _=>rfl⟩) fun _ _ _ _ z=>z
 case F =>
  intro w mg fa h KX G hmg
  refine' Law.all_mk KX G hmg ?a0 ?l0 ?c0 ?k0 ?a1 ?l1 ?c1 ?k1 ?a2 ?l2 ?c2 ?k2 ?a3 ?l3 ?c3 ?k3 ?a4 ?l4 ?c4 ?k4 ?a5 ?l5 ?c5 ?k5 ?a6 ?l6 ?c6 ?k6 ?a7 ?l7 ?c7 ?k7 ?a8 ?l8 ?c8 ?k8 ?a9 ?l9 ?c9 ?k9 ?a10 ?l10 ?c10 ?k10 ?a11 ?l11 ?c11 ?k11 ?a12 ?l12 ?c12 ?k12 ?a13 ?l13 ?c13 ?k13 ?a14 ?l14 ?c14 ?k14 ?a15 ?l15 ?c15 ?k15 ?a16 ?l16 ?c16 ?k16 ?a17 ?l17 ?c17 ?k17 ?a18 ?l18 ?c18 ?k18 ?a19 ?l19 ?c19 ?k19 ?a20 ?l20 ?c20 ?k20 ?a21 ?l21 ?c21 ?k21 ?a22 ?l22 ?c22 ?k22 ?a23 ?l23 ?c23 ?k23 ?a24 ?l24 ?c24 ?k24 ?a25 ?l25 ?c25 ?k25 ?a26 ?l26 ?c26 ?k26 ?a27 ?l27 ?c27 ?k27 ?a28 ?l28 ?c28 ?k28 ?a29 ?l29 ?c29 ?k29 ?a30 ?l30 ?c30 ?k30 ?a31 ?l31 ?c31 ?k31 ?a32 ?l32 ?c32 ?k32 ?a33 ?l33 ?c33 ?k33 ?a34 ?l34 ?c34 ?k34 ?a35 ?l35 ?c35 ?k35 ?a36 ?l36 ?c36 ?k36 ?a37 ?l37 ?c37 ?k37 ?a38 ?l38 ?c38 ?k38 ?a39 ?l39 ?c39 ?k39 ?a40 ?l40 ?c40 ?k40 ?a41 ?l41 ?c41 ?k41 ?a42 ?l42 ?c42 ?k42 ?a43 ?l43 ?c43 ?k43 ?x_ONE ?y_ONE ?x_PRIMES ?y_PRIMES ?x_BOUNDS ?y_BOUNDS ?x_LETTERS ?x_MARKS ?y_LETTERS ?n_sys_LETTERS ?y_LETTERS_0 ?y_LETTERS_1 ?y_LETTERS_2 ?y_LETTERS_3 ?y_LETTERS_4 ?y_LETTERS_5 ?y_LETTERS_6 ?y_MARKS ?y_MARKS_0 ?y_MARKS_0_2 ?y_MARKS_1 ?y_MARKS_1_2 ?y_MARKS_2 ?y_MARKS_2_2 ?y_MARKS_3 ?y_MARKS_3_2 ?x_LONGEST ?x_OCTAVE_FIGURES ?x_FARTHEST ?x_MOST_WORDS ?x_YardError ?k1_YardError ?k2_YardError ?k3_YardError ?x_TooFar ?k1_TooFar ?k2_TooFar ?k3_TooFar ?k4_TooFar ?k5_TooFar ?k6_TooFar ?k7_TooFar ?k8_TooFar ?k9_TooFar ?kx_TooFar ?x_NoName ?k1_NoName ?k2_NoName ?k3_NoName ?k4_NoName ?k5_NoName ?k6_NoName ?k7_NoName ?k8_NoName ?k9_NoName ?kx_NoName ?x_NoScale ?k1_NoScale ?k2_NoScale ?k3_NoScale ?k4_NoScale ?k5_NoScale ?k6_NoScale ?k7_NoScale ?k8_NoScale ?k9_NoScale ?kx_NoScale ?s_TooFar_YardError ?s_TooFar_NoName ?n_TooFar_NoName ?v_TooFar_ValueError ?z_ValueError ?z_abs ?z_all ?z_bool ?z_int ?z_isinstance ?z_len ?z_list ?z_max ?z_range ?z_sorted ?z_str ?z_tuple ?z_zip
  (case a0=>k_is)
  (case l0=>k_is)
  (case c0=>k_is)
  (case k0=>k_is)
  (case a1=>k_is)
  (case l1=>k_is)
  (case c1=>k_is)
  (case k1=>k_is)
  (case a2=>k_is)
  (case l2=>k_is)
  (case c2=>k_is)
  (case k2=>k_is)
  (case a3=>k_is)
  (case l3=>k_is)
  (case c3=>k_is)
  (case k3=>k_is)
  (case a4=>k_is)
  (case l4=>k_is)
  (case c4=>k_is)
  (case k4=>k_is)
  (case a5=>k_is)
  (case l5=>k_is)
  (case c5=>k_is)
  (case k5=>k_is)
  (case a6=>k_is)
  (case l6=>k_is)
  (case c6=>k_is)
  (case k6=>k_is)
  (case a7=>k_is)
  (case l7=>k_is)
  (case c7=>k_is)
  (case k7=>k_is)
  (case a8=>k_is)
  (case l8=>k_is)
  (case c8=>k_is)
  (case k8=>k_is)
  (case a9=>k_is)
  (case l9=>k_is)
  (case c9=>k_is)
  (case k9=>k_is)
  (case a10=>k_is)
  (case l10=>k_is)
  (case c10=>k_is)
  (case k10=>k_is)
  (case a11=>k_is)
  (case l11=>k_is)
  (case c11=>k_is)
  (case k11=>k_is)
  (case a12=>k_is)
  (case l12=>k_is)
  (case c12=>k_is)
  (case k12=>k_is)
  (case a13=>k_is)
  (case l13=>k_is)
  (case c13=>k_is)
  (case k13=>k_is)
  (case a14=>k_is)
  (case l14=>k_is)
  (case c14=>k_is)
  (case k14=>k_is)
  (case a15=>k_is)
  (case l15=>k_is)
  (case c15=>k_is)
  (case k15=>k_is)
  (case a16=>k_is)
  (case l16=>k_is)
  (case c16=>k_is)
  (case k16=>k_is)
  (case a17=>k_is)
  (case l17=>k_is)
  (case c17=>k_is)
  (case k17=>k_is)
  (case a18=>k_is)
  (case l18=>k_is)
  (case c18=>k_is)
  (case k18=>k_is)
  (case a19=>k_is)
  (case l19=>k_is)
  (case c19=>k_is)
  (case k19=>k_is)
  (case a20=>k_is)
  (case l20=>k_is)
  (case c20=>k_is)
  (case k20=>k_is)
  (case a21=>k_is)
  (case l21=>k_is)
  (case c21=>k_is)
  (case k21=>k_is)
  (case a22=>k_is)
  (case l22=>k_is)
  (case c22=>k_is)
  (case k22=>k_is)
  (case a23=>k_is)
  (case l23=>k_is)
  (case c23=>k_is)
  (case k23=>k_is)
  (case a24=>k_is)
  (case l24=>k_is)
  (case c24=>k_is)
  (case k24=>k_is)
  (case a25=>k_is)
  (case l25=>k_is)
  (case c25=>k_is)
  (case k25=>k_is)
  (case a26=>k_is)
  (case l26=>k_is)
  (case c26=>k_is)
  (case k26=>k_is)
  (case a27=>k_is)
  (case l27=>k_is)
  (case c27=>k_is)
  (case k27=>k_is)
  (case a28=>k_is)
  (case l28=>k_is)
  (case c28=>k_is)
  (case k28=>k_is)
  (case a29=>k_is)
  (case l29=>k_is)
  (case c29=>k_is)
  (case k29=>k_is)
  (case a30=>k_is)
  (case l30=>k_is)
  (case c30=>k_is)
  (case k30=>k_is)
  (case a31=>k_is)
  (case l31=>k_is)
  (case c31=>k_is)
  (case k31=>k_is)
  (case a32=>k_is)
  (case l32=>k_is)
  (case c32=>k_is)
  (case k32=>k_is)
  (case a33=>k_is)
  (case l33=>k_is)
  (case c33=>k_is)
  (case k33=>k_is)
  (case a34=>k_is)
  (case l34=>k_is)
  (case c34=>k_is)
  (case k34=>k_is)
  (case a35=>k_is)
  (case l35=>k_is)
  (case c35=>k_is)
  (case k35=>k_is)
  (case a36=>k_is)
  (case l36=>k_is)
  (case c36=>k_is)
  (case k36=>k_is)
  (case a37=>k_is)
  (case l37=>k_is)
  (case c37=>k_is)
  (case k37=>k_is)
  (case a38=>k_is)
  (case l38=>k_is)
  (case c38=>k_is)
  (case k38=>k_is)
  (case a39=>k_is)
  (case l39=>k_is)
  (case c39=>k_is)
  (case k39=>k_is)
  (case a40=>k_is)
  (case l40=>k_is)
  (case c40=>k_is)
  (case k40=>k_is)
  (case a41=>k_is)
  (case l41=>k_is)
  (case c41=>k_is)
  (case k41=>k_is)
  (case a42=>k_is)
  (case l42=>k_is)
  (case c42=>k_is)
  (case k42=>k_is)
  (case a43=>k_is)
  (case l43=>k_is)
  (case c43=>k_is)
  (case k43=>k_is)
  (case x_ONE=>k_is)
  (case y_ONE=>k_is)
  (case x_PRIMES=>k_is)
  (case y_PRIMES=>k_is)
  (case x_BOUNDS=>k_is)
  (case y_BOUNDS=>k_is)
  (case x_LETTERS=>k_is)
  (case x_MARKS=>k_is)
  (case y_LETTERS=>k_is)
  (case n_sys_LETTERS=>decide)
  (case y_LETTERS_0=>k_is)
  (case y_LETTERS_1=>k_is)
  (case y_LETTERS_2=>k_is)
  (case y_LETTERS_3=>k_is)
  (case y_LETTERS_4=>k_is)
  (case y_LETTERS_5=>k_is)
  (case y_LETTERS_6=>k_is)
  (case y_MARKS=>k_is)
  (case y_MARKS_0=>k_is)
  (case y_MARKS_0_2=>k_is)
  (case y_MARKS_1=>k_is)
  (case y_MARKS_1_2=>k_is)
  (case y_MARKS_2=>k_is)
  (case y_MARKS_2_2=>k_is)
  (case y_MARKS_3=>k_is)
  (case y_MARKS_3_2=>k_is)
  (case x_LONGEST=>k_is)
  (case x_OCTAVE_FIGURES=>k_is)
  (case x_FARTHEST=>k_is)
  (case x_MOST_WORDS=>k_is)
  (case x_YardError=>k_is)
  (case k1_YardError=>k_is)
  (case k2_YardError=>k_is)
  (case k3_YardError=>k_is)
  (case x_TooFar=>k_is)
  (case k1_TooFar=>k_is)
  (case k2_TooFar=>k_is)
  (case k3_TooFar=>k_is)
  (case k4_TooFar=>k_is)
  (case k5_TooFar=>k_is)
  (case k6_TooFar=>k_is)
  (case k7_TooFar=>k_is)
  (case k8_TooFar=>k_is)
  (case k9_TooFar=>k_is)
  (case kx_TooFar=>k_exc)
  (case x_NoName=>k_is)
  (case k1_NoName=>k_is)
  (case k2_NoName=>k_is)
  (case k3_NoName=>k_is)
  (case k4_NoName=>k_is)
  (case k5_NoName=>k_is)
  (case k6_NoName=>k_is)
  (case k7_NoName=>k_is)
  (case k8_NoName=>k_is)
  (case k9_NoName=>k_is)
  (case kx_NoName=>k_exc)
  (case x_NoScale=>k_is)
  (case k1_NoScale=>k_is)
  (case k2_NoScale=>k_is)
  (case k3_NoScale=>k_is)
  (case k4_NoScale=>k_is)
  (case k5_NoScale=>k_is)
  (case k6_NoScale=>k_is)
  (case k7_NoScale=>k_is)
  (case k8_NoScale=>k_is)
  (case k9_NoScale=>k_is)
  (case kx_NoScale=>k_exc)
  (case s_TooFar_YardError=>k_is)
  (case s_TooFar_NoName=>k_is)
  (case n_TooFar_NoName=>decide)
  (case v_TooFar_ValueError=>k_is)
  (case z_ValueError=>k_is)
  (case z_abs=>k_is)
  (case z_all=>k_is)
  (case z_bool=>k_is)
  (case z_int=>k_is)
  (case z_isinstance=>k_is)
  (case z_len=>k_is)
  (case z_list=>k_is)
  (case z_max=>k_is)
  (case z_range=>k_is)
  (case z_sorted=>k_is)
  (case z_str=>k_is)
  (case z_tuple=>k_is)
  (case z_zip=>k_is)
